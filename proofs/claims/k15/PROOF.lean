import PyProof.Rows.All
import Wide.All
import OpenK.AllK
import Wide.FinOn
import Lean
import PyProof.EqAt
import PyProof.EqKinds
import PyProof.TupleCall
import KE.KIsAll
import PyProof.ExcArgsOwn
import PyProof.ExcAttrAll.ValueError
import KE.KTryMore
import PyProof.NeKinds
import PyProof.Rows.CallKwBuiltin
import KE.KUnpack
import KE.KItemsList
import PyProof.Rows.SortWalk
import KE.KSortTup
import PyProof.Rows.SortStr
import PyProof.Rows.SetFrom
import KE.KDictList
import PyProof.IsRules
import PySem.Challenge.RW_bellbook_k15_whole_line_first_come
set_option Elab.async false
set_option linter.all false
set_option maxRecDepth 100000
namespace L2
open PySem PySem.Spec PyProof.Rows
noncomputable abbrev Key := Sum Int Str
noncomputable def keyIs : Key → Value → Bool
  | .inl k, v => Value.isInt k v
  | .inr x, v => Value.isStrOf x v
noncomputable def keyH (w : World) : Key → Int
  | .inl k => hashInt k
  | .inr x => hashStr w x
theorem keyIs_shape : ∀ {k : Key} {v : Value}, keyIs k v = true → (∃ i t, k = Sum.inl i ∧ v = Value.int i t) ∨ (∃ x t, k = Sum.inr x ∧ v = Value.str x t)
  | .inl i, v, h => by
    obtain ⟨t, e⟩ := Value.isInt_shape (k := i) (v := v) h
    exact .inl ⟨i, t, rfl, e⟩
  | .inr x, v, h => by
    obtain ⟨t, e⟩ := Value.isStrOf_shape (x := x) (v := v) h
    exact .inr ⟨x, t, rfl, e⟩
theorem keyIs_int (i : Int) (t : Tok) : keyIs (.inl i) (.int i t) = true := by simp [keyIs, Value.isInt]
theorem keyIs_str (x : Str) (t : Tok) : keyIs (.inr x) (.str x t) = true := by simp [keyIs, Value.isStrOf]
theorem key_ll (a b : Int) : decide ((Sum.inl a : Key) = Sum.inl b) = (a == b) := by
  by_cases e : a = b
  · subst e; simp
  · have h : ¬ (Sum.inl a : Key) = Sum.inl b := fun q => e (Sum.inl.inj q)
    rw [decide_eq_false h]
    exact (beq_eq_false_iff_ne.mpr e).symm
theorem key_rr (a b : Str) : decide ((Sum.inr a : Key) = Sum.inr b) = decide (a = b) := by
  by_cases e : a = b
  · subst e; simp
  · have h : ¬ (Sum.inr a : Key) = Sum.inr b := fun q => e (Sum.inr.inj q)
    rw [decide_eq_false h, decide_eq_false e]
theorem key_lr (a : Int) (b : Str) : decide ((Sum.inl a : Key) = Sum.inr b) = false := decide_eq_false (fun q => nomatch q)
theorem key_rl (a : Str) (b : Int) : decide ((Sum.inr a : Key) = Sum.inl b) = false := decide_eq_false (fun q => nomatch q)
noncomputable def mixKind (prog : Program) (w : World) : PySem.KeyKind prog w Key where
  is := keyIs
  hash := keyH w
  inj := fun v a b ha hb => by
    rcases keyIs_shape ha with ⟨i, t, rfl, rfl⟩ | ⟨x, t, rfl, rfl⟩
    · rcases keyIs_shape hb with ⟨j, u, rfl, e⟩ | ⟨y, u, rfl, e⟩
      · injection e with e1 _; rw [e1]
      · exact nomatch e
    · rcases keyIs_shape hb with ⟨j, u, rfl, e⟩ | ⟨y, u, rfl, e⟩
      · exact nomatch e
      · injection e with e1 _; rw [e1]
  byValue := fun k v h => by
    rcases keyIs_shape h with ⟨i, t, rfl, rfl⟩ | ⟨x, t, rfl, rfl⟩ <;> rfl
  pyHash := fun hv h => by
    rcases keyIs_shape hv with ⟨i, t, rfl, rfl⟩ | ⟨x, t, rfl, rfl⟩
    · exact wpAny_pyHash_int h
    · exact wpAny_pyHash_str h
  eqBool := fun hu hv h => by
    rcases keyIs_shape hu with ⟨i, t, rfl, rfl⟩ | ⟨x, t, rfl, rfl⟩
    · rcases keyIs_shape hv with ⟨j, u, rfl, rfl⟩ | ⟨y, u, rfl, rfl⟩
      · rw [key_ll] at h; exact wpAny_eqBool_int h
      · rw [key_lr] at h; exact SeqAt.EqAt.int_str i t y u _ _ _ _ h
    · rcases keyIs_shape hv with ⟨j, u, rfl, rfl⟩ | ⟨y, u, rfl, rfl⟩
      · rw [key_rl] at h; exact SeqAt.EqAt.str_int x t j u _ _ _ _ h
      · rw [key_rr] at h; exact wpAny_eqBool_str h
  «strs» := fun k x t v h => by
    rcases keyIs_shape h with ⟨i, u, rfl, e⟩ | ⟨y, u, rfl, e⟩
    · exact nomatch e
    · injection e with e1 _
      subst e1
      cases v <;> rfl
theorem mixKind_int (prog : Program) (w : World) (i : Int) (t : Tok) : (mixKind prog w).is (.inl i) (.int i t) = true := keyIs_int i t
theorem mixKind_str (prog : Program) (w : World) (x : Str) (t : Tok) : (mixKind prog w).is (.inr x) (.str x t) = true := keyIs_str x t
end L2
namespace L2
open PySem PySem.Spec PyProof.Rows
inductive V where
  | non | bl (b : Bool) | int (i : Int) | str (x : Str) | byt (b : Array UInt8) | flt (b : UInt64) | ref (a : Addr) | ty (n : String)
  deriving DecidableEq
noncomputable def RelV : V → Value → Prop
  | .non, u => u = Value.none
  | .bl b, u => u = Value.bool b
  | .int i, u => ∃ t, u = Value.int i t
  | .str x, u => ∃ t, u = Value.str x t
  | .byt b, u => ∃ t, u = Value.bytes b t
  | .flt b, u => ∃ t, u = Value.float b t
  | .ref a, u => u = Value.ref a
  | .ty n, u => u = Value.type n
noncomputable abbrev Vals : List V → List Value → Prop := Paired RelV
theorem Vals.length {xs : List V} {us : List Value} (r : Vals xs us) : xs.length = us.length := Paired.length r
theorem Vals.get : ∀ {xs : List V} {us : List Value} {i : Nat} {x : V}, Vals xs us → xs[i]? = some x → ∃ u, us[i]? = some u ∧ RelV x u
  | _, _, _, _, .nil, e => by simp at e
  | _, _, 0, _, .cons r _, e => by simp at e; subst e; exact ⟨_, rfl, r⟩
  | _, _, i + 1, x, .cons _ t, e => by
    refine Classical.byContradiction fun hnzq => ?_; obtain ⟨u, h1, h2⟩ := Vals.get (i := i) (x := x) t (by simpa using e)
    refine hnzq ?_; clear hnzq
    exact ⟨u, by simpa using h1, h2⟩
theorem Vals.append : ∀ {xs ys : List V} {us ws : List Value}, Vals xs us → Vals ys ws → Vals (xs ++ ys) (us ++ ws)
  | _, _, _, _, .nil, s => s
  | _, _, _, _, .cons r t, s => .cons r (Vals.append t s)
theorem Vals.take : ∀ {xs : List V} {us : List Value} (n : Nat), Vals xs us → Vals (xs.take n) (us.take n)
  | _, _, 0, _ => .nil
  | _, _, _ + 1, .nil => .nil
  | _, _, n + 1, .cons r t => .cons r (Vals.take n t)
theorem Vals.drop : ∀ {xs : List V} {us : List Value} (n : Nat), Vals xs us → Vals (xs.drop n) (us.drop n)
  | _, _, 0, r => r
  | _, _, _ + 1, .nil => .nil
  | _, _, n + 1, .cons _ t => Vals.drop n t
noncomputable def RelO : Option V → Option Value → Prop
  | some v, some u => RelV v u
  | none, none => True
  | _, _ => False
noncomputable def KV {κ : Type} : List (κ × V) → List (κ × Value) → Prop := Paired fun (p : κ × V) (q : κ × Value) => p.1 = q.1 ∧ RelV p.2 q.2
noncomputable def kV : Key → V
  | .inl i => .int i
  | .inr x => .str x
inductive HO where
  | lst (xs : List V)
  | tup (xs : List V)
  | dK (kvs : List (Key × V)) | dT (kvs : List (List Key × V))
  | set (S : Int → Bool) (n : Nat)
  | ins (C dx : Addr) (fs : List (Str × V))
  | own (x : Addr)
  | xd (fs : List (Str × V))
  | met (f x : Addr)
  | rng (lo hi : Int)
  | frz (o : Obj) (u : HO)
  | tbl (ps : Array Value)
  | ext (φ : Heap → Prop)
noncomputable abbrev Hp := Addr → Option HO
noncomputable def upd (H : Hp) (a : Addr) (o : HO) : Hp := fun b => if b = a then some o else H b
theorem upd_same {H : Hp} {a : Addr} {o : HO} : upd H a o a = some o := by unfold upd; rw [if_pos rfl]
theorem upd_ne {H : Hp} {a b : Addr} {o : HO} (h : b ≠ a) : upd H a o b = H b := by unfold upd; rw [if_neg h]
theorem ne_of {H : Hp} {a b : Addr} {o u : HO} (h : H a = some o) (h' : H b = some u) (d : o ≠ u) : a ≠ b := by
  intro e; subst e; rw [h] at h'; exact d (Option.some.inj h')
theorem ne_of_none {H : Hp} {a b : Addr} {o : HO} (h : H a = some o) (h' : H b = none) : a ≠ b := by
  intro e; subst e; rw [h] at h'; cases h'
section
variable (P : Program) (w : World)
noncomputable def ObjOk (H : Hp) (h : Heap) (a : Addr) : HO → Prop
  | .lst xs => xs.length ≤ sizeLine ∧ ∃ (its : List Value) (n : Nat), Vals xs its ∧ h.get? a = some { cls := .type "list", data := .seq its.toArray n }
  | .tup xs => xs.length ≤ sizeLine ∧ ∃ its : List Value, Vals xs its ∧ IsTup h a its.toArray
  | .dK kvs => kvs.length ≤ sizeLine ∧ (a == sysModules) = false ∧ ∃ vs, KV kvs vs ∧ h.DictOf (mixKind P w) a vs
  | .dT kvs => kvs.length ≤ sizeLine ∧ (a == sysModules) = false ∧ ∃ xs : List (List Key × Addr × Value),
      Paired (fun (p : List Key × V) (q : List Key × Addr × Value) => p.1 = q.1 ∧ H q.2.1 = some (.tup (p.1.map kV)) ∧ RelV p.2 q.2.2) kvs xs ∧
      ∃ o es ep, h.get? a = some o ∧ o.ExactDict ∧ o.data = .dict es ep ∧ es.toList = xs.map (entryOfKey (tupleKind (mixKind P w))) ∧ (xs.map (·.1)).Nodup
  | .set S n => h.SetOf (intKind P w) a S n
  | .ins C dx fs => H dx = some (.own a) ∧ fs.length ≤ 1000 ∧ dx ≠ a ∧ h.get? a = some (PySem.W.instObj C dx) ∧
      ∃ mA, h.Ns1 dx mA ∧ (∀ f, RelO (fs.lookup f) (mA f)) ∧ PySem.Within mA (fs.map (·.1))
  | .own _ => ∃ o, h.get? a = some o
  | .xd fs => ∃ mA, h.Ns1 a mA ∧ ∀ f, RelO (fs.lookup f) (mA f)
  | .rng lo hi => ∃ t u v, h.get? a = some { cls := .type "range", data := .fields #[.int lo t, .int hi u, .int 1 v] }
  | .frz o u => h.get? a = some o ∧ ObjOk H h a u
  | .tbl ps => h.get? a = some { cls := .none, data := .fields ps }
  | .met f x => h.get? a = some (PySem.W.methodObj (.ref f) (.ref x))
  | .ext φ => φ h ∧ (∃ o, h.get? a = some o) ∧ ∀ h1 h2 : Heap, φ h1 → (∀ o, h1.get? a = some o → h2.get? a = some o) → φ h2
noncomputable def HOk (H : Hp) (h : Heap) : Prop := ∀ a o, H a = some o → ObjOk P w H h a o
end
section
variable {P : Program} {w : World} {H H' : Hp} {h h' : Heap} {a : Addr} {o : HO}
theorem ObjOk.lt (x : ObjOk P w H h a o) : a < h.objs.size := by
  cases o with
  | lst xs => refine Classical.byContradiction fun hnzq => ?_; obtain ⟨_, _, _, _, e⟩ := x; refine hnzq ?_; clear hnzq; exact Heap.lt_size e
  | tup xs => refine Classical.byContradiction fun hnzq => ?_; obtain ⟨_, _, _, p⟩ := x; refine hnzq ?_; clear hnzq; exact p.lt
  | dK kvs => refine Classical.byContradiction fun hnzq => ?_; obtain ⟨_, _, _, _, o, _, _, e, _⟩ := x; refine hnzq ?_; clear hnzq; exact Heap.lt_size e
  | dT kvs => refine Classical.byContradiction fun hnzq => ?_; obtain ⟨_, _, _, _, o, _, _, e, _⟩ := x; refine hnzq ?_; clear hnzq; exact Heap.lt_size e
  | set S n => refine Classical.byContradiction fun hnzq => ?_; obtain ⟨o, _, _, _, e, _⟩ := x; refine hnzq ?_; clear hnzq; exact Heap.lt_size e
  | ins C dx fs => refine Classical.byContradiction fun hnzq => ?_; obtain ⟨_, _, _, e, _⟩ := x; refine hnzq ?_; clear hnzq; exact Heap.lt_size e
  | own y => obtain ⟨_, e⟩ := x; exact Heap.lt_size e
  | xd fs => refine Classical.byContradiction fun hnzq => ?_; obtain ⟨_, ⟨_, _, _, e, _⟩, _⟩ := x; refine hnzq ?_; clear hnzq; exact Heap.lt_size e
  | rng lo hi => refine Classical.byContradiction fun hnzq => ?_; obtain ⟨_, _, _, e⟩ := x; refine hnzq ?_; clear hnzq; exact Heap.lt_size e
  | frz ob u => obtain ⟨e, _⟩ := x; exact Heap.lt_size e
  | tbl ps => exact Heap.lt_size (show h.get? a = some _ from x)
  | met f y => exact Heap.lt_size (show h.get? a = some _ from x)
  | ext φ => refine Classical.byContradiction fun hnzq => ?_; obtain ⟨_, ⟨_, e⟩, _⟩ := x; refine hnzq ?_; clear hnzq; exact Heap.lt_size e
theorem Paired.mapP {α β : Type} {F G : α → β → Prop} : ∀ {l₁ : List α} {l₂ : List β}, Paired F l₁ l₂ → (∀ a b, F a b → G a b) → Paired G l₁ l₂
  | _, _, .nil, _ => .nil
  | _, _, .cons r t, f => .cons (f _ _ r) (Paired.mapP t f)
theorem ObjOk.stay (x : ObjOk P w H h a o) (k : ∀ b u, (b = a ∨ H b = some (.own a)) → h.get? b = some u → h'.get? b = some u)
    (ho : ∀ b, H b = some (.own a) → H' b = some (.own a)) (ht : ∀ b xs, H b = some (.tup xs) → H' b = some (.tup xs)) : ObjOk P w H' h' a o := by
  induction o with
  | lst xs => refine Classical.byContradiction fun hnzq => ?_; obtain ⟨z, its, n, r, e⟩ := x; refine hnzq ?_; clear hnzq; exact ⟨z, its, n, r, k _ _ (.inl rfl) e⟩
  | tup xs => refine Classical.byContradiction fun hnzq => ?_; obtain ⟨z, its, r, ob, e, c⟩ := x; refine hnzq ?_; clear hnzq; exact ⟨z, its, r, ob, k _ _ (.inl rfl) e, c⟩
  | dK kvs => refine Classical.byContradiction fun hnzq => ?_; obtain ⟨z, y, vs, r, ob, es, ep, e, c⟩ := x; refine hnzq ?_; clear hnzq; exact ⟨z, y, vs, r, ob, es, ep, k _ _ (.inl rfl) e, c⟩
  | dT kvs =>
    refine Classical.byContradiction fun hnzq => ?_; obtain ⟨z, y, xs, r, ob, es, ep, e, c⟩ := x
    refine hnzq ?_; clear hnzq
    exact ⟨z, y, xs, Paired.mapP r fun p q z => ⟨z.1, ht _ _ z.2.1, z.2.2⟩, ob, es, ep, k _ _ (.inl rfl) e, c⟩
  | set S n => refine Classical.byContradiction fun hnzq => ?_; obtain ⟨ob, es, ep, t, e, c⟩ := x; refine hnzq ?_; clear hnzq; exact ⟨ob, es, ep, t, k _ _ (.inl rfl) e, c⟩
  | ins C dx fs =>
    refine Classical.byContradiction fun hnzq => ?_; obtain ⟨d, z, ne, e, mA, ⟨od, es, ep, e2, c⟩, r⟩ := x
    refine hnzq ?_; clear hnzq
    exact ⟨ho _ d, z, ne, k _ _ (.inl rfl) e, mA, ⟨od, es, ep, k _ _ (.inr d) e2, c⟩, r⟩
  | own y => obtain ⟨ob, e⟩ := x; exact ⟨ob, k _ _ (.inl rfl) e⟩
  | xd fs => refine Classical.byContradiction fun hnzq => ?_; obtain ⟨mA, ⟨od, es, ep, e, c⟩, r⟩ := x; refine hnzq ?_; clear hnzq; exact ⟨mA, ⟨od, es, ep, k _ _ (.inl rfl) e, c⟩, r⟩
  | rng lo hi => refine Classical.byContradiction fun hnzq => ?_; obtain ⟨t, u, v, e⟩ := x; refine hnzq ?_; clear hnzq; exact ⟨t, u, v, k _ _ (.inl rfl) e⟩
  | frz ob u ih => obtain ⟨e, q⟩ := x; exact ⟨k _ _ (.inl rfl) e, ih q⟩
  | tbl ps =>
    have e : h.get? a = some { cls := .none, data := .fields ps } := x
    show h'.get? a = some { cls := .none, data := .fields ps }
    exact k a _ (.inl rfl) e
  | met f y =>
    have e : h.get? a = some (PySem.W.methodObj (.ref f) (.ref y)) := x
    show h'.get? a = some (PySem.W.methodObj (.ref f) (.ref y))
    exact k a _ (.inl rfl) e
  | ext φ => refine Classical.byContradiction fun hnzq => ?_; obtain ⟨p, ⟨o, e⟩, st⟩ := x; refine hnzq ?_; clear hnzq; exact ⟨st _ _ p fun o q => k _ _ (.inl rfl) q, ⟨o, k _ _ (.inl rfl) e⟩, st⟩
theorem HOk.lt (x : HOk P w H h) (e : H a = some o) : a < h.objs.size := (x a o e).lt
theorem HOk.fresh (x : HOk P w H h) (e : h.objs.size ≤ a) : H a = none := by
  cases q : H a with
  | none => rfl
  | some u => exact absurd (Nat.lt_of_lt_of_le (x.lt q) e) (Nat.lt_irrefl _)
theorem HOk.kept (x : HOk P w H h) (k : ∀ b u, h.get? b = some u → h'.get? b = some u) : HOk P w H h' := fun a o e =>
  (x a o e).stay (fun b u _ q => k b u q) (fun _ q => q) fun _ _ q => q
theorem HOk.laid (x : HOk P w H h) (k : ∀ b u, h.get? b = some u → h'.get? b = some u) (hp : h.objs.size ≤ a) (new : ObjOk P w (upd H a o) h' a o) : HOk P w (upd H a o) h' := fun b u e => by
  have hn := x.fresh hp
  by_cases hb : b = a
  · subst hb; rw [upd_same] at e; cases e; exact new
  · rw [upd_ne hb] at e
    exact (x b u e).stay (fun c v _ q => k c v q) (fun c q => by rw [upd_ne (ne_of_none q hn)]; exact q) fun c xs q => by rw [upd_ne (ne_of_none q hn)]; exact q
end
noncomputable def Rd (H : Hp) (a : Addr) (u : HO) : Prop := H a = some u ∨ ∃ o, H a = some (.frz o u)
theorem Rd.ok {P : Program} {w : World} {H : Hp} {h : Heap} {a : Addr} {u : HO} (r : Rd H a u) (x : HOk P w H h) : ObjOk P w H h a u := by
  rcases r with r | ⟨o, r⟩
  · exact x a u r
  · obtain ⟨_, q⟩ := x a _ r
    exact q
noncomputable def Mut : Option HO → Prop
  | some (.lst _) => True
  | some (.dK _) => True
  | some (.dT _) => True
  | some (.set _ _) => True
  | some (.ins _ _ _) => True
  | some (.ext _) => True
  | _ => False
section
variable {P : Program} {w : World} {H : Hp} {h h' : Heap} {x e : Addr} {o' : HO}
set_option genInjectivity false in
set_option genSizeOf false in
set_option genSizeOfSpec false in
theorem HOk.write (ok : HOk P w H h) (mu : Mut (H x)) (he : e = x ∨ H e = some (.own x)) (k : ∀ b u, b ≠ e → h.get? b = some u → h'.get? b = some u) (heo : ∃ u, h'.get? e = some u)
    (new : ObjOk P w (upd H x o') h' x o') : HOk P w (upd H x o') h' := fun b u q => by
  have nown : ∀ c y, H c = some (.own y) → c ≠ x := fun c y r z => by subst z; rw [r] at mu; exact mu
  have ntup : ∀ c xs, H c = some (.tup xs) → c ≠ x := fun c xs r z => by subst z; rw [r] at mu; exact mu
  by_cases hb : b = x
  · subst hb; rw [upd_same] at q; cases q; exact new
  · rw [upd_ne hb] at q
    by_cases hbe : b = e
    · have q' : H b = some (.own x) := by
        rcases he with z | z
        · exact absurd (hbe.trans z) hb
        · rw [hbe]; exact z
      rw [q] at q'; cases q'
      obtain ⟨v, hv⟩ := heo
      exact ⟨v, by rw [hbe]; exact hv⟩
    · refine (ok b u q).stay (fun c v hc r => k c v ?_ r) (fun c r => by rw [upd_ne (nown c b r)]; exact r) fun c xs r => by rw [upd_ne (ntup c xs r)]; exact r
      rcases hc with rfl | hc
      · exact hbe
      · rintro rfl
        rcases he with z | z
        · exact nown c b hc z
        · rw [hc] at z; cases z; exact hb rfl
end
structure Un (fs ex : List Addr) (H H' : Hp) (h h' : Heap) : Prop where
  keep : ∀ b o, h.get? b = some o → H b = none → b ∉ fs → b ∉ ex → h'.get? b = some o
  slot : ∀ b o, h.get? b = some o → H b = none → b ∈ fs → b ∉ ex → ∃ sl, h'.get? b = some { o with slots := sl }
  free : ∀ b o, h.get? b = some o → H b = none → b ∉ ex → H' b = none
  there : ∀ b o, h.get? b = some o → b ∉ ex → ∃ o', h'.get? b = some o'
  tups : ∀ b xs, H b = some (.tup xs) → H' b = some (.tup xs)
  frzs : ∀ b o u, H b = some (.frz o u) → H' b = some (.frz o u)
  tbls : ∀ b ps, H b = some (.tbl ps) → ∃ more, H' b = some (.tbl (ps ++ more))
section
variable {fs fs' ex ex' : List Addr} {H H1 H2 : Hp} {h h1 h2 h' : Heap} {a x e : Addr} {o : HO}
theorem Un.any (u : Un fs ex H H1 h h1) {b : Addr} {ob : Obj} (q : h.get? b = some ob) (n : H b = none) (hx : b ∉ ex) : ∃ sl, h1.get? b = some { ob with slots := sl } := by
  by_cases hb : b ∈ fs
  · exact u.slot b ob q n hb hx
  · exact ⟨ob.slots, u.keep b ob q n hb hx⟩
theorem Un.kept (k : ∀ b u, h.get? b = some u → h'.get? b = some u) : Un fs ex H H h h' :=
  ⟨fun b ob q _ _ _ => k b ob q, fun b ob q _ _ _ => ⟨ob.slots, k b ob q⟩, fun _ _ _ n _ => n, fun b ob q _ => ⟨ob, k b ob q⟩, fun _ _ q => q, fun _ _ _ q => q, fun _ ps q => ⟨#[], by rw [q]; simp⟩⟩
theorem Un.refl : Un fs ex H H h h := Un.kept fun _ _ q => q
theorem Un.laid (k : ∀ b u, h.get? b = some u → h'.get? b = some u) (hp : h.objs.size ≤ a) (hn : H a = none) : Un fs ex H (upd H a o) h h' where
  keep := fun b u q _ _ _ => k b u q
  slot := fun b u q _ _ _ => ⟨u.slots, k b u q⟩
  free := fun b u q n _ => by rw [upd_ne (Nat.ne_of_lt (Nat.lt_of_lt_of_le (Heap.lt_size q) hp))]; exact n
  there := fun b u q _ => ⟨u, k b u q⟩
  tups := fun b xs q => by rw [upd_ne (ne_of_none q hn)]; exact q
  frzs := fun b u xs q => by rw [upd_ne (ne_of_none q hn)]; exact q
  tbls := fun b ps q => ⟨#[], by rw [upd_ne (ne_of_none q hn), q]; simp⟩
theorem Un.write (mu : Mut (H x)) (he : e = x ∨ H e = some (.own x)) (k : ∀ b u, b ≠ e → h.get? b = some u → h'.get? b = some u) (heo : ∃ u, h'.get? e = some u) : Un fs ex H (upd H x o) h h' := by
  have hx : ∀ b, H b = none → b ≠ x := fun b n z => by subst z; rw [n] at mu; exact mu
  have hb : ∀ b, H b = none → b ≠ e := fun b n z => by
    subst z
    rcases he with r | r
    · exact hx b n r
    · rw [n] at r; cases r
  have hm : ∀ b u, H b = some u → ¬ Mut (some u) → b ≠ x := fun b u q nm z => by subst z; rw [q] at mu; exact nm mu
  refine ⟨fun b u q n _ _ => k b u (hb b n) q, fun b u q n _ _ => ⟨u.slots, k b u (hb b n) q⟩, fun b u q n _ => by rw [upd_ne (hx b n)]; exact n, fun b u q _ => ?_,
    fun b xs q => by rw [upd_ne (hm b _ q fun z => z)]; exact q, fun b u xs q => by rw [upd_ne (hm b _ q fun z => z)]; exact q, fun b ps q => ⟨#[], by rw [upd_ne (hm b _ q fun z => z), q]; simp⟩⟩
  by_cases hbe : b = e
  · subst hbe; exact heo
  · exact ⟨u, k b u hbe q⟩
end
noncomputable def trk (h : Heap) (H : Hp) : List Addr := (List.range h.objs.size).filter fun a => (H a).isSome
noncomputable def hidT (h : Heap) (H : Hp) : Heap := PySem.W.hideAll h (trk h H)
theorem hidT_size (h : Heap) (H : Hp) : (hidT h H).objs.size = h.objs.size := PySem.W.hideAll_size _ _
theorem hidT_get {h : Heap} {H : Hp} {b : Addr} {o : Obj} (e : h.get? b = some o) (n : H b = none) : (hidT h H).get? b = some o :=
  PySem.W.hideAll_get _ e fun hm => by
    have q : (H b).isSome = true := (List.mem_filter.mp hm).2
    rw [n] at q; simp at q
theorem of_hidT {h : Heap} {H : Hp} {b : Addr} {o : Obj} (e : (hidT h H).get? b = some o) : h.get? b = some o ∧ H b = none := by
  have e' : h.get? b = some o := PySem.W.of_hideAll (trk h H) e
  refine ⟨e', ?_⟩
  cases q : H b with
  | none => rfl
  | some x =>
    have hm : b ∈ trk h H := List.mem_filter.mpr ⟨List.mem_range.mpr (Heap.lt_size e'), by simp [q]⟩
    have z : (hidT h H).get? b = none := PySem.W.hideAll_none (trk h H) hm
    rw [z] at e; cases e
end L2
namespace L2
open PySem PySem.Spec PyProof.Rows
set_option genInjectivity false in
set_option genSizeOf false in
set_option genSizeOfSpec false in
structure Mod (K : PySem.W.Frag) (mg : Str → Option Value) (base : Heap) : Prop where
  kin : K.In base
  glob : base.Ns mainGlobals mg
  blt : ∃ mb, base.Ns builtinsNs mb ∧ ∀ x : Str, x ≠ "__name__" → mb x = bootBuiltins x
  nolimit : base.NoLimit
set_option genInjectivity false in
set_option genSizeOf false in
set_option genSizeOfSpec false in
structure Cx where
  prog : Program
  w : World
  K : PySem.W.Frag
  mg : Str → Option Value
  base : Heap
  A : Around
  N : List Str
  s₀ : Shared
  H₀ : Hp
  env : Env
  outer : List Env
  stack : List Env
  ex : List Addr
  fn : Str → Bool
  calm : Bool
  pn : List (Addr × Obj)
  xe : Value → Shared → Prop
noncomputable def frs (l : List Env) : List Addr := l.filterMap (·.frame)
noncomputable abbrev Cx.fs (X : Cx) : List Addr := frs X.outer
noncomputable def Vis (sc : Scope) (x : Str) : Prop := sc.names.lookup x = some .local ∨ sc.names.lookup x = some .cell ∨ sc.names.lookup x = some .free
noncomputable def Loc (sc : Scope) (x : Str) : Prop := sc.names.lookup x = some .local ∨ sc.names.lookup x = some .cell
noncomputable def Look (env : Env) (h : Heap) (m : Str → Option Value) (x : Str) (u : Value) : Prop :=
  (env.kindOf x = some .local ∧ m x = some u) ∨ ((env.kindOf x = some .cell ∨ env.kindOf x = some .free) ∧ ∃ c, env.cells.lookup x = some c ∧ h.IsCell c (some u))
set_option genInjectivity false in
set_option genSizeOf false in
set_option genSizeOfSpec false in
structure Cx.Ok (X : Cx) : Prop where
  mod : Mod X.K X.mg X.base
  kind : X.env.scope.kind = .function
  glob : X.env.globals = mainGlobals
  blt : X.env.builtins = builtinsNs
  above : X.s₀.heap.objs.size ≤ X.env.locals
  inj : ∀ x y c, X.env.cells.lookup x = some c → X.env.cells.lookup y = some c → x = y
  has : ∀ x, (X.env.kindOf x = some .cell ∨ X.env.kindOf x = some .free) → ∃ c, X.env.cells.lookup x = some c
  cab : ∀ x c, X.fn x = true → X.env.cells.lookup x = some c → X.s₀.heap.objs.size ≤ c
  hd : X.calm = true → X.A.handled = none
  frames : X.A.frames = some X.stack
  stk : X.stack = X.outer ∨ (X.stack = X.env :: X.outer ∧ X.env.frame = some X.env.locals)
  exf : ∀ b ∈ X.ex, b ≠ X.env.locals ∧ ∀ x c, X.env.cells.lookup x = some c → c ≠ b
  bs : ∀ b o, X.base.get? b = some o → X.s₀.heap.get? b = some o ∧ X.H₀ b = none
  bsz : X.base.objs.size ≤ X.s₀.heap.objs.size
  noex : ∀ b o, X.base.get? b = some o → b ∉ X.ex
  exfs : ∀ b ∈ X.ex, b ∉ X.fs
  funs : X.s₀.heap.FunFrames X.base X.outer
  frf : ∀ b ∈ X.fs, X.H₀ b = none
set_option genInjectivity false in
set_option genSizeOf false in
set_option genSizeOfSpec false in
structure Inv (X : Cx) (pins : List (Addr × Obj)) (σ : List (Option V)) (H : Hp) (s : Shared) : Prop where
  ok : X.Ok
  os : s.os = X.s₀.os
  bare : AllBare s.gens
  base : Un X.fs X.ex X.H₀ H X.s₀.heap s.heap
  loc : ∃ m, s.heap.Ns X.env.locals m ∧ ∀ (i : Nat) (x : Str) (v : V), X.N[i]? = some x → σ[i]? = some (some v) → Vis X.env.scope x → ∃ u, RelV v u ∧ Look X.env s.heap m x u
  cell : ∀ x c, X.env.cells.lookup x = some c → ∃ v, s.heap.IsCell c v
  free : H X.env.locals = none
  freeC : ∀ x c, X.env.cells.lookup x = some c → H c = none
  pin : ∀ p ∈ X.pn ++ pins, s.heap.get? p.1 = some p.2 ∧ H p.1 = none ∧ p.1 ≠ X.env.locals ∧ p.1 ∉ X.fs ∧ ∀ v, p.2.data ≠ .cell v
  hok : HOk X.prog X.w H s.heap
  len : σ.length = X.N.length
section
variable {X : Cx} {pins : List (Addr × Obj)} {σ : List (Option V)} {H H' : Hp} {s : Shared} {h' : Heap}
theorem Cx.Ok.nofr (ok : X.Ok) {b : Addr} {o : Obj} (e : X.base.get? b = some o) : b ∉ X.fs := fun hb => by
  have := (ok.funs.mem hb).1
  rw [e] at this; cases this
theorem Inv.bs (I : Inv X pins σ H s) : ∀ b o, X.base.get? b = some o → s.heap.get? b = some o ∧ H b = none := fun b o e =>
  ⟨I.base.keep b o (I.ok.bs b o e).1 (I.ok.bs b o e).2 (I.ok.nofr e) (I.ok.noex b o e), I.base.free b o (I.ok.bs b o e).1 (I.ok.bs b o e).2 (I.ok.noex b o e)⟩
theorem Inv.bk (I : Inv X pins σ H s) : ∀ b o, X.base.get? b = some o → s.heap.get? b = some o := fun b o e => (I.bs b o e).1
theorem Inv.mod (I : Inv X pins σ H s) : Mod X.K X.mg X.base := I.ok.mod
theorem Inv.kIn (I : Inv X pins σ H s) : X.K.In s.heap := I.ok.mod.kin.keeps I.bk
theorem Inv.lt (I : Inv X pins σ H s) : X.env.locals < s.heap.objs.size := let ⟨_, hn, _⟩ := I.loc; hn.lt
theorem Inv.sz (I : Inv X pins σ H s) : X.s₀.heap.objs.size ≤ s.heap.objs.size := Nat.le_trans I.ok.above (Nat.le_of_lt I.lt)
theorem Inv.nofs (I : Inv X pins σ H s) {a : Addr} (h : s.heap.objs.size ≤ a) : a ∉ X.fs := fun hb => by
  refine Classical.byContradiction fun hnzq => ?_; obtain ⟨_, o, ho, _⟩ := I.ok.funs.mem hb
  refine hnzq ?_; clear hnzq
  exact absurd (Nat.lt_of_lt_of_le (Heap.lt_size ho) (Nat.le_trans I.sz h)) (Nat.lt_irrefl _)
theorem Inv.cne (I : Inv X pins σ H s) : ∀ x c, X.env.cells.lookup x = some c → c ≠ X.env.locals := fun x c e z => by
  refine Classical.byContradiction fun hnzq => ?_; obtain ⟨v, o, ho, hd⟩ := I.cell x c e
  refine hnzq ?_; clear hnzq
  refine Classical.byContradiction fun hnzq => ?_; obtain ⟨m, ⟨o', es, ep, ho', hd', _⟩, _⟩ := I.loc
  refine hnzq ?_; clear hnzq
  rw [z, ho'] at ho; cases ho; rw [hd'] at hd; cases hd
theorem Inv.funs (I : Inv X pins σ H s) : s.heap.FunFrames X.base X.outer := by
  have all : ∀ (l : List Env), (∀ b ∈ frs l, b ∈ X.fs) → X.s₀.heap.FunFrames X.base l → s.heap.FunFrames X.base l := by
    intro l
    induction l with
    | nil => intro _ _; trivial
    | cons env r ih =>
      intro hs hl
      refine Classical.byContradiction fun hnzq => ?_; obtain ⟨hk, ⟨L, o, hf, hn, ho, hd⟩, hr⟩ := hl
      refine hnzq ?_; clear hnzq
      have hL : L ∈ X.fs := hs L (by unfold frs; rw [List.filterMap_cons, hf]; exact List.mem_cons_self)
      obtain ⟨sl, e⟩ := I.base.slot L o ho (I.ok.frf L hL) hL fun z => I.ok.exfs L z hL
      exact ⟨hk, ⟨L, _, hf, hn, e, hd⟩, ih (fun b hb => hs b (by unfold frs; rw [List.filterMap_cons, hf]; exact List.mem_cons_of_mem _ hb)) hr⟩
  exact all X.outer (fun _ hb => hb) I.ok.funs
theorem Inv.stack (I : Inv X pins σ H s) : s.heap.FunFrames X.base X.stack := by
  rcases I.ok.stk with e | ⟨e, hf⟩
  · rw [e]; exact I.funs
  · rw [e]
    refine Classical.byContradiction fun hnzq => ?_; obtain ⟨m, hn, _⟩ := I.loc
    refine hnzq ?_; clear hnzq
    refine .cons (by rw [I.ok.kind]; decide) hf hn ?_ I.funs
    exact Heap.get?_none_of_le (Nat.le_trans I.ok.bsz I.ok.above)
theorem Inv.stkSub (I : Inv X pins σ H s) : ∀ b ∈ frs X.stack, b ∈ X.env.locals :: X.fs := fun b hb => by
  rcases I.ok.stk with e | ⟨e, hf⟩
  · rw [e] at hb; exact List.mem_cons_of_mem _ hb
  · rw [e] at hb
    unfold frs at hb
    rw [List.filterMap_cons, hf] at hb
    exact hb
theorem Inv.stkFree (I : Inv X pins σ H s) : ∀ b ∈ frs X.stack, H b = none := fun b hb => by
  rcases List.mem_cons.mp (I.stkSub b hb) with e | hb
  · rw [e]; exact I.free
  · refine Classical.byContradiction fun hnzq => ?_; obtain ⟨_, o, ho, _⟩ := I.ok.funs.mem hb
    refine hnzq ?_; clear hnzq
    exact I.base.free b o ho (I.ok.frf b hb) fun z => I.ok.exfs b z hb
theorem Inv.step {g' : Array GenState} {t' : Nat} {d' : Drawn} {ch : List Addr} (I : Inv X pins σ H s)
    (hch : ∀ b ∈ ch, (b ∈ X.ex ∨ X.s₀.heap.objs.size ≤ b) ∧ b ≠ X.env.locals ∧ (∀ x c, X.env.cells.lookup x = some c → c ≠ b) ∧ ∀ p ∈ X.pn ++ pins, p.1 ≠ b)
    (keep : ∀ b o, b ≠ X.env.locals → b ∉ X.fs → b ∉ ch → s.heap.get? b = some o → H b = none → h'.get? b = some o)
    (slot : ∀ b o, b ≠ X.env.locals → b ∈ X.fs → b ∉ ch → s.heap.get? b = some o → H b = none → ∃ sl, h'.get? b = some { o with slots := sl }) (free : ∀ b o, b ∉ ch → s.heap.get? b = some o → H b = none → H' b = none)
    (there : ∀ b o, b ∉ ch → s.heap.get? b = some o → ∃ o', h'.get? b = some o')
    (tups : ∀ b xs, H b = some (.tup xs) → H' b = some (.tup xs)) (frzs : ∀ b o u, H b = some (.frz o u) → H' b = some (.frz o u)) (tbls : ∀ b ps, H b = some (.tbl ps) → ∃ more, H' b = some (.tbl (ps ++ more)))
    (ns : ∀ m, s.heap.Ns X.env.locals m → h'.Ns X.env.locals m) (hok : HOk X.prog X.w H' h') (hg : AllBare g') :
    Inv X pins σ H' { s with heap := h', gens := g', drawn := d', toks := t' } := by
  have neL : ∀ b o, X.s₀.heap.get? b = some o → b ≠ X.env.locals := fun b o e => Nat.ne_of_lt (Nat.lt_of_lt_of_le (Heap.lt_size e) I.ok.above)
  have neC : ∀ b o, X.s₀.heap.get? b = some o → b ∉ X.ex → b ∉ ch := fun b o e hx hb => by
    rcases (hch b hb).1 with z | z
    · exact hx z
    · exact absurd (Nat.lt_of_lt_of_le (Heap.lt_size e) z) (Nat.lt_irrefl _)
  have cellK : ∀ x c, X.env.cells.lookup x = some c → ∀ v, s.heap.IsCell c v → h'.IsCell c v := fun x c e v ⟨o, ho, hd⟩ => by
    have nch : c ∉ ch := fun z => (hch c z).2.2.1 x c e rfl
    by_cases hc : c ∈ X.fs
    · obtain ⟨sl, q⟩ := slot c o (I.cne x c e) hc nch ho (I.freeC x c e)
      exact ⟨_, q, hd⟩
    · exact ⟨o, keep c o (I.cne x c e) hc nch ho (I.freeC x c e), hd⟩
  refine ⟨I.ok, I.os, hg, ⟨fun b o e n hb hx => ?_, fun b o e n hb hx => ?_, fun b o e n hx => ?_, fun b o e hx => ?_, fun b xs e => tups b xs (I.base.tups b xs e), fun b o xs e => frzs b o xs (I.base.frzs b o xs e), fun b ps e => ?_⟩, ?_, fun x c e => ?_, ?_, fun x c e => ?_, fun p hp => ?_, hok, I.len⟩
  · exact keep b o (neL b o e) hb (neC b o e hx) (I.base.keep b o e n hb hx) (I.base.free b o e n hx)
  · obtain ⟨sl, e1⟩ := I.base.slot b o e n hb hx
    obtain ⟨sl', e2⟩ := slot b _ (neL b o e) hb (neC b o e hx) e1 (I.base.free b o e n hx)
    exact ⟨sl', e2⟩
  · obtain ⟨o', e1⟩ := I.base.there b o e hx
    exact free b o' (neC b o e hx) e1 (I.base.free b o e n hx)
  · obtain ⟨o', e1⟩ := I.base.there b o e hx
    exact there b o' (neC b o e hx) e1
  · obtain ⟨m1, e1⟩ := I.base.tbls b ps e
    obtain ⟨m2, e2⟩ := tbls b _ e1
    exact ⟨m1 ++ m2, by rw [e2, Array.append_assoc]⟩
  · refine Classical.byContradiction fun hnzq => ?_; obtain ⟨m, hn, hl⟩ := I.loc
    refine hnzq ?_; clear hnzq
    refine ⟨m, ns m hn, fun i x v e1 e2 e3 => ?_⟩
    refine Classical.byContradiction fun hnzq => ?_; obtain ⟨u, r, l⟩ := hl i x v e1 e2 e3
    refine hnzq ?_; clear hnzq
    refine ⟨u, r, ?_⟩
    rcases l with l | ⟨k, c, e, z⟩
    · exact .inl l
    · exact .inr ⟨k, c, e, cellK x c e _ z⟩
  · obtain ⟨v, z⟩ := I.cell x c e
    exact ⟨v, cellK x c e v z⟩
  · refine Classical.byContradiction fun hnzq => ?_; obtain ⟨m, ⟨o, _, _, ho, _⟩, _⟩ := I.loc
    refine hnzq ?_; clear hnzq
    exact free _ o (fun z => (hch _ z).2.1 rfl) ho I.free
  · refine Classical.byContradiction fun hnzq => ?_; obtain ⟨v, o, ho, hd⟩ := I.cell x c e
    refine hnzq ?_; clear hnzq
    exact free c o (fun z => (hch c z).2.2.1 x c e rfl) ho (I.freeC x c e)
  · refine Classical.byContradiction fun hnzq => ?_; obtain ⟨e, n, ne, nf, d⟩ := I.pin p hp
    refine hnzq ?_; clear hnzq
    have nch : p.1 ∉ ch := fun z => (hch p.1 z).2.2.2 p hp rfl
    exact ⟨keep p.1 p.2 ne nf nch e n, free p.1 p.2 nch e n, ne, nf, d⟩
theorem Inv.un {t' : Nat} (I : Inv X pins σ H s) (u : Un X.fs [] H H' s.heap h') (hok : HOk X.prog X.w H' h') : Inv X pins σ H' { s with heap := h', toks := t' } := by
  refine Classical.byContradiction fun hnzq => ?_; obtain ⟨m, ⟨o, es, ep, ho, r⟩, _⟩ := id I.loc
  refine hnzq ?_; clear hnzq
  obtain ⟨sl, hL⟩ := u.any ho I.free (by simp)
  exact I.step (g' := s.gens) (d' := s.drawn) (ch := []) (fun _ z => nomatch z) (fun b o _ hb _ e n => u.keep b o e n hb (by simp)) (fun b o _ hb _ e n => u.slot b o e n hb (by simp)) (fun b o _ e n => u.free b o e n (by simp)) (fun b o _ e => u.there b o e (by simp)) u.tups u.frzs u.tbls (fun m' hm => by
    refine Classical.byContradiction fun hnzq => ?_; obtain ⟨o', es', ep', ho', r'⟩ := hm
    refine hnzq ?_; clear hnzq
    rw [ho] at ho'; cases ho'
    exact ⟨_, es', ep', hL, r'⟩) hok I.bare
theorem Inv.call {g' : Array GenState} {t' : Nat} {d' : Drawn} {ch : List Addr} (I : Inv X pins σ H s) (u : Un (frs X.stack) ch H H' s.heap h') (hok : HOk X.prog X.w H' h') (hg : AllBare g')
    (hch : ∀ b ∈ ch, (b ∈ X.ex ∨ X.s₀.heap.objs.size ≤ b) ∧ b ≠ X.env.locals ∧ (∀ x c, X.env.cells.lookup x = some c → c ≠ b) ∧ ∀ p ∈ X.pn ++ pins, p.1 ≠ b) :
    Inv X pins σ H' { s with heap := h', gens := g', drawn := d', toks := t' } := by
  refine Classical.byContradiction fun hnzq => ?_; obtain ⟨m, ⟨o, es, ep, ho, r⟩, _⟩ := id I.loc
  refine hnzq ?_; clear hnzq
  obtain ⟨sl, hL⟩ := u.any ho I.free fun z => (hch _ z).2.1 rfl
  exact I.step (ch := ch) hch (fun b o hL hb hc e n => u.keep b o e n (fun z => (List.mem_cons.mp (I.stkSub b z)).elim hL hb) hc) (fun b o _ _ hc e n => u.any e n hc) (fun b o hc e n => u.free b o e n hc) (fun b o hc e => u.there b o e hc) u.tups u.frzs u.tbls (fun m' hm => by
    refine Classical.byContradiction fun hnzq => ?_; obtain ⟨o', es', ep', ho', r'⟩ := hm
    refine hnzq ?_; clear hnzq
    rw [ho] at ho'; cases ho'
    exact ⟨_, es', ep', hL, r'⟩) hok hg
theorem Inv.turned {t' : Nat} {it : Addr} (I : Inv X pins σ H s) (k : ∀ b o, b ≠ it → s.heap.get? b = some o → h'.get? b = some o) (hn : H it = none) (hL : it ≠ X.env.locals)
    (h1 : it ∈ X.ex ∨ X.s₀.heap.objs.size ≤ it) (h2 : ∀ x c, X.env.cells.lookup x = some c → c ≠ it) (h3 : ∀ p ∈ X.pn ++ pins, p.1 ≠ it) : Inv X pins σ H { s with heap := h', toks := t' } := by
  have nit : ∀ b u, H b = some u → b ≠ it := fun b u e z => by rw [z, hn] at e; cases e
  refine I.step (g' := s.gens) (d' := s.drawn) (ch := [it]) (fun b hb => ?_) (fun b o _ _ hc e _ => k b o (fun z => hc (by simp [z])) e) (fun b o _ _ hc e _ => ⟨o.slots, k b o (fun z => hc (by simp [z])) e⟩) (fun _ _ _ _ n => n)
    (fun b o hc e => ⟨o, k b o (fun z => hc (by simp [z])) e⟩) (fun _ _ e => e) (fun _ _ _ e => e) (fun b ps e => ⟨#[], by rw [e]; simp⟩) (fun m hm => ?_) (fun b u e => ?_) I.bare
  · have e : b = it := by simpa using hb
    subst e
    exact ⟨h1, hL, h2, h3⟩
  · refine Classical.byContradiction fun hnzq => ?_; obtain ⟨o, es, ep, ho, r⟩ := hm
    refine hnzq ?_; clear hnzq
    exact ⟨o, es, ep, k _ o (Ne.symm hL) ho, r⟩
  · refine (I.hok b u e).stay (fun c v hc q => k c v ?_ q) (fun _ q => q) fun _ _ q => q
    rcases hc with z | z
    · rw [z]; exact nit b u e
    · exact nit c _ z
theorem Inv.tok (I : Inv X pins σ H s) (t : Nat) : Inv X pins σ H { s with toks := t } := I.un (h' := s.heap) (t' := t) Un.refl I.hok
theorem Inv.kept {t' : Nat} (I : Inv X pins σ H s) (k : ∀ b u, s.heap.get? b = some u → h'.get? b = some u) : Inv X pins σ H { s with heap := h', toks := t' } := I.un (Un.kept k) (I.hok.kept k)
theorem Inv.laid {a : Addr} {o : HO} {t' : Nat} (I : Inv X pins σ H s) (k : ∀ b u, s.heap.get? b = some u → h'.get? b = some u) (hp : s.heap.objs.size ≤ a) (new : ObjOk X.prog X.w (upd H a o) h' a o) :
    Inv X pins σ (upd H a o) { s with heap := h', toks := t' } := I.un (Un.laid k hp (I.hok.fresh hp)) (I.hok.laid k hp new)
theorem Inv.write {x e : Addr} {o : HO} {t' : Nat} (I : Inv X pins σ H s) (mu : Mut (H x)) (he : e = x ∨ H e = some (.own x)) (k : ∀ b u, b ≠ e → s.heap.get? b = some u → h'.get? b = some u) (heo : ∃ u, h'.get? e = some u)
    (new : ObjOk X.prog X.w (upd H x o) h' x o) : Inv X pins σ (upd H x o) { s with heap := h', toks := t' } := I.un (Un.write mu he k heo) (I.hok.write mu he k heo new)
theorem Inv.weak {σ' : List (Option V)} (I : Inv X pins σ H s) (hl : σ'.length = σ.length) (w : ∀ (i : Nat) v, σ'[i]? = some (some v) → σ[i]? = some (some v)) : Inv X pins σ' H s :=
  ⟨I.ok, I.os, I.bare, I.base, let ⟨m, hn, hl'⟩ := I.loc; ⟨m, hn, fun i x v e1 e2 e3 => hl' i x v e1 (w i v e2) e3⟩, I.cell, I.free, I.freeC, I.pin, I.hok, hl.trans I.len⟩
theorem Inv.pins_of {pins' : List (Addr × Obj)} (I : Inv X pins σ H s) (h : ∀ p ∈ pins', s.heap.get? p.1 = some p.2 ∧ H p.1 = none ∧ p.1 ≠ X.env.locals ∧ p.1 ∉ X.fs ∧ ∀ v, p.2.data ≠ .cell v) : Inv X pins' σ H s :=
  ⟨I.ok, I.os, I.bare, I.base, I.loc, I.cell, I.free, I.freeC, fun p hp => (List.mem_append.mp hp).elim (fun z => I.pin p (List.mem_append_left _ z)) (h p), I.hok, I.len⟩
theorem nodup_ix {N : List Str} (hN : N.Nodup) {i j : Nat} {x : Str} (a : N[i]? = some x) (b : N[j]? = some x) : i = j := by
  obtain ⟨h1, e1⟩ := List.getElem?_eq_some_iff.mp a
  obtain ⟨h2, e2⟩ := List.getElem?_eq_some_iff.mp b
  exact (List.getElem_inj hN).mp (e1.trans e2.symm)
theorem store_ok2 {M : Model} {A : Around} {E : Value → Shared → Prop} {i : Nat} {x : Str} {v : V} {u : Value} {Q : Unit → Shared → Prop} (I : Inv X pins σ H s) (hN : X.N.Nodup) (hi : X.N[i]? = some x) (hx : Loc X.env.scope x) (r : RelV v u)
    (h : ∀ s', Inv X pins (σ.set i (some v)) H s' → (∃ a, Heap.SameBut a s.heap s'.heap ∧ (a = X.env.locals ∨ X.env.cells.lookup x = some a)) → Q () s') (hf : X.fn x = true ∨ X.env.scope.names.lookup x = some .local := by first | exact .inl rfl | exact .inr rfl | assumption) : wpAny M A (storeName X.env x u) Q E s := by
  refine Classical.byContradiction fun hnzq => ?_; obtain ⟨m, hn, hl⟩ := id I.loc
  refine hnzq ?_; clear hnzq
  have hcls : (X.env.scope.kind == .class || (X.env.scope.kind == .module && X.env.locals != X.env.globals)) = false := by rw [I.ok.kind]; rfl
  have hiσ : i < σ.length := by rw [I.len]; exact (List.getElem?_eq_some_iff.mp hi).1
  have cne := I.cne
  have tracked : ∀ {a : Addr} {h' : Heap}, (∃ o, s.heap.get? a = some o ∧ H a = none) → Heap.SameBut a s.heap h' → HOk X.prog X.w H h' := fun {a h'} ha hs b ob e => by
    refine Classical.byContradiction fun hnzq => ?_; obtain ⟨_, _, hfree⟩ := ha
    refine hnzq ?_; clear hnzq
    refine (I.hok b ob e).stay (fun c w' hc q => (hs.2 c ?_).trans q) (fun _ q => q) fun _ _ q => q
    rintro rfl
    rcases hc with rfl | hc
    · rw [hfree] at e; cases e
    · rw [hfree] at hc; cases hc
  rcases hx with hk | hk
  · refine wpAny_storeName_local hk hn (fun h' hn' hs => ?_) hcls
    refine Classical.byContradiction fun hnzq => ?_; obtain ⟨oL, _, _, hoL, _⟩ := id hn
    refine hnzq ?_; clear hnzq
    refine h _ ⟨I.ok, I.os, I.bare, ⟨fun b o e n hb hx => ?_, fun b o e n hb hx => ?_, I.base.free, fun b o e hx => ?_, I.base.tups, I.base.frzs, I.base.tbls⟩, ⟨_, hn', fun j y v' e1 e2 e3 => ?_⟩, fun y c e => ?_, I.free, I.freeC, fun p hp => ?_, tracked ⟨oL, hoL, I.free⟩ hs, by simpa using I.len⟩ ⟨_, hs, .inl rfl⟩
    · exact (hs.2 b (Nat.ne_of_lt (Nat.lt_of_lt_of_le (Heap.lt_size e) I.ok.above))).trans (I.base.keep b o e n hb hx)
    · obtain ⟨sl, e1⟩ := I.base.slot b o e n hb hx
      exact ⟨sl, (hs.2 b (Nat.ne_of_lt (Nat.lt_of_lt_of_le (Heap.lt_size e) I.ok.above))).trans e1⟩
    · obtain ⟨o', e1⟩ := I.base.there b o e hx
      exact ⟨o', (hs.2 b (Nat.ne_of_lt (Nat.lt_of_lt_of_le (Heap.lt_size e) I.ok.above))).trans e1⟩
    · by_cases hj : j = i
      · subst hj
        rw [hi] at e1; cases e1
        rw [List.getElem?_set_self hiσ] at e2
        cases e2
        exact ⟨u, r, .inl ⟨hk, by simp⟩⟩
      · rw [List.getElem?_set_ne (Ne.symm hj)] at e2
        refine Classical.byContradiction fun hnzq => ?_; obtain ⟨u', r', q⟩ := hl j y v' e1 e2 e3
        refine hnzq ?_; clear hnzq
        refine ⟨u', r', ?_⟩
        rcases q with ⟨k, e⟩ | ⟨k, c, e, z⟩
        · refine .inl ⟨k, ?_⟩
          have : y ≠ x := fun e => hj (nodup_ix hN e1 (e ▸ hi))
          simp [this, e]
        · exact .inr ⟨k, c, e, z.sameBut hs (cne y c e)⟩
    · obtain ⟨w', z⟩ := I.cell y c e
      exact ⟨w', z.sameBut hs (cne y c e)⟩
    · refine Classical.byContradiction fun hnzq => ?_; obtain ⟨e, n, ne, nf, d⟩ := I.pin p hp
      refine hnzq ?_; clear hnzq
      exact ⟨(hs.2 p.1 ne).trans e, n, ne, nf, d⟩
  · have hfn : X.fn x = true := by
      rcases hf with z | z
      · exact z
      · rw [z] at hk; cases hk
    obtain ⟨c, hc⟩ := I.ok.has x (.inl hk)
    obtain ⟨w', z⟩ := I.cell x c hc
    refine wpAny_storeName_cell I.ok.kind hk hc z (fun h' hc' hs => ?_)
    refine Classical.byContradiction fun hnzq => ?_; obtain ⟨oc, hoc, hocd⟩ := id z
    refine hnzq ?_; clear hnzq
    refine h { s with heap := h' } ⟨I.ok, I.os, I.bare, ⟨fun b o e n hb hx => ?_, fun b o e n hb hx => ?_, I.base.free, fun b o e hx => ?_, I.base.tups, I.base.frzs, I.base.tbls⟩, ⟨m, hn.sameBut hs (Ne.symm (cne x c hc)), fun j y v' e1 e2 e3 => ?_⟩, fun y c' e => ?_, I.free, I.freeC, fun p hp => ?_, tracked ⟨oc, hoc, I.freeC x c hc⟩ hs, by simpa using I.len⟩ ⟨c, hs, .inr hc⟩
    · exact (hs.2 b (Nat.ne_of_lt (Nat.lt_of_lt_of_le (Heap.lt_size e) (I.ok.cab x c hfn hc)))).trans (I.base.keep b o e n hb hx)
    · obtain ⟨sl, e1⟩ := I.base.slot b o e n hb hx
      exact ⟨sl, (hs.2 b (Nat.ne_of_lt (Nat.lt_of_lt_of_le (Heap.lt_size e) (I.ok.cab x c hfn hc)))).trans e1⟩
    · obtain ⟨o', e1⟩ := I.base.there b o e hx
      exact ⟨o', (hs.2 b (Nat.ne_of_lt (Nat.lt_of_lt_of_le (Heap.lt_size e) (I.ok.cab x c hfn hc)))).trans e1⟩
    · by_cases hj : j = i
      · subst hj
        rw [hi] at e1; cases e1
        rw [List.getElem?_set_self hiσ] at e2
        cases e2
        exact ⟨u, r, .inr ⟨.inl hk, c, hc, hc'⟩⟩
      · rw [List.getElem?_set_ne (Ne.symm hj)] at e2
        refine Classical.byContradiction fun hnzq => ?_; obtain ⟨u', r', q⟩ := hl j y v' e1 e2 e3
        refine hnzq ?_; clear hnzq
        refine ⟨u', r', ?_⟩
        rcases q with q | ⟨k, c', e, z'⟩
        · exact .inl q
        · refine .inr ⟨k, c', e, z'.sameBut hs ?_⟩
          rintro rfl
          exact hj (nodup_ix hN e1 (I.ok.inj _ _ _ e hc ▸ hi))
    · by_cases hcc : c' = c
      · subst hcc; exact ⟨_, hc'⟩
      · obtain ⟨w2, z2⟩ := I.cell y c' e
        exact ⟨w2, z2.sameBut hs hcc⟩
    · refine Classical.byContradiction fun hnzq => ?_; obtain ⟨e, n, ne, nf, d⟩ := I.pin p hp
      refine hnzq ?_; clear hnzq
      refine ⟨(hs.2 p.1 ?_).trans e, n, ne, nf, d⟩
      intro q
      rw [q, hoc] at e
      have q' : oc = p.2 := Option.some.inj e
      exact d w' (by rw [← q']; exact hocd)
theorem store_ok {M : Model} {A : Around} {E : Value → Shared → Prop} {i : Nat} {x : Str} {v : V} {u : Value} {Q : Unit → Shared → Prop} (I : Inv X pins σ H s) (hN : X.N.Nodup) (hi : X.N[i]? = some x) (hx : Loc X.env.scope x) (r : RelV v u)
    (h : ∀ s', Inv X pins (σ.set i (some v)) H s' → Q () s') (hf : X.fn x = true ∨ X.env.scope.names.lookup x = some .local := by first | exact .inl rfl | exact .inr rfl | assumption) : wpAny M A (storeName X.env x u) Q E s :=
  store_ok2 I hN hi hx r (fun s' I' _ => h s' I') hf
theorem Inv.call' {s' : Shared} {ch : List Addr} (I : Inv X pins σ H s) (ho : s'.os = s.os) (u : Un (frs X.stack) ch H H' s.heap s'.heap) (hok : HOk X.prog X.w H' s'.heap) (hg : AllBare s'.gens)
    (hch : ∀ b ∈ ch, (b ∈ X.ex ∨ X.s₀.heap.objs.size ≤ b) ∧ b ≠ X.env.locals ∧ (∀ x c, X.env.cells.lookup x = some c → c ≠ b) ∧ ∀ p ∈ X.pn ++ pins, p.1 ≠ b) : Inv X pins σ H' s' := by
  refine Classical.byContradiction fun hnzq => ?_; obtain ⟨h', g', d', t', o'⟩ := s'
  refine hnzq ?_; clear hnzq
  have e : o' = s.os := ho
  subst e
  exact I.call (g' := g') (t' := t') (d' := d') u hok hg hch
end
noncomputable abbrev XK := Value → Option Addr → Hp → Prop
noncomputable abbrev St := List (Option V)
noncomputable abbrev VK := V → Hp → Prop
noncomputable abbrev TE := St → Hp → VK → Prop
noncomputable abbrev TT := St → Hp → (Bool → Hp → Prop) → Prop
noncomputable abbrev TA := St → Hp → (List V → Hp → Prop) → Prop
set_option genInjectivity false in
set_option genSizeOf false in
set_option genSizeOfSpec false in
structure Ends where
  nx : St → Hp → Prop
  rt : VK
  bk : St → Hp → Prop := fun _ _ => False
  ct : St → Hp → Prop := fun _ _ => False
noncomputable abbrev TS := Ends → St → Hp → Prop
noncomputable def EP (X : Cx) (pins : List (Addr × Obj)) (σ : St) (Q : VK) (u : Value) (s' : Shared) : Prop := ∃ v H', Inv X pins σ H' s' ∧ RelV v u ∧ Q v H'
noncomputable def TP (X : Cx) (pins : List (Addr × Obj)) (σ : St) (Q : Bool → Hp → Prop) (b : Bool) (s' : Shared) : Prop := ∃ H', Inv X pins σ H' s' ∧ Q b H'
noncomputable def AP (X : Cx) (pins : List (Addr × Obj)) (σ : St) (Q : List V → Hp → Prop) (us : List Value) (s' : Shared) : Prop := ∃ vs H', Inv X pins σ H' s' ∧ Vals vs us ∧ Q vs H'
noncomputable def SP (X : Cx) (pins : List (Addr × Obj)) (D : Ends) (f : Flow) (s' : Shared) : Prop :=
  match f with
  | .next => ∃ σ' H', Inv X pins σ' H' s' ∧ D.nx σ' H'
  | .brk => ∃ σ' H', Inv X pins σ' H' s' ∧ D.bk σ' H'
  | .cont => ∃ σ' H', Inv X pins σ' H' s' ∧ D.ct σ' H'
  | .ret u => ∃ v σ' H', Inv X pins σ' H' s' ∧ RelV v u ∧ D.rt v H'
noncomputable def PE (X : Cx) (e : Expr) (t : TE) : Prop :=
  ∀ (pins : List (Addr × Obj)) (s : Shared) (σ : St) (H : Hp) (Q : VK), Inv X pins σ H s → t σ H Q → wpAny (model X.prog X.w) X.A (eval e X.env) (EP X pins σ Q) X.xe s
noncomputable def PT (X : Cx) (e : Expr) (t : TT) : Prop :=
  ∀ (pins : List (Addr × Obj)) (s : Shared) (σ : St) (H : Hp) (Q : Bool → Hp → Prop), Inv X pins σ H s → t σ H Q → wpAny (model X.prog X.w) X.A (isTrue e X.env (eval e X.env)) (TP X pins σ Q) X.xe s
noncomputable def PW (X : Cx) (e : Expr) (t : TT) : Prop :=
  ∀ (whole : Sem Value) (pins : List (Addr × Obj)) (s : Shared) (σ : St) (H : Hp) (Q : Bool → Hp → Prop), Inv X pins σ H s → t σ H Q → wpAny (model X.prog X.w) X.A (isTrue e X.env whole) (TP X pins σ Q) X.xe s
theorem PW.pt {X : Cx} {e : Expr} {t : TT} (h : PW X e t) : PT X e t := h _
noncomputable def PA (X : Cx) (es : List Expr) (t : TA) : Prop :=
  ∀ (pos : Pos) (pins : List (Addr × Obj)) (s : Shared) (σ : St) (H : Hp) (Q : List V → Hp → Prop), Inv X pins σ H s → t σ H Q → wpAny (model X.prog X.w) X.A (spliced (backTo pos (starEach es X.env))) (AP X pins σ Q) X.xe s
noncomputable def PS (X : Cx) (st : Stmt) (t : TS) : Prop :=
  ∀ (pins : List (Addr × Obj)) (s : Shared) (σ : St) (H : Hp) (D : Ends), Inv X pins σ H s → t D σ H → wpAny (model X.prog X.w) X.A (exec st X.env) (SP X pins D) X.xe s
noncomputable def PSs (X : Cx) (st : List Stmt) (t : TS) : Prop :=
  ∀ (pins : List (Addr × Obj)) (s : Shared) (σ : St) (H : Hp) (D : Ends), Inv X pins σ H s → t D σ H → wpAny (model X.prog X.w) X.A (execs st X.env) (SP X pins D) X.xe s
theorem thn {α : Type} {t : Sem α} {Q Q' : α → Shared → Prop} {M : Model} {A : Around} {E : Value → Shared → Prop} {s : Shared} (h : wpAny M A t Q E s) (hQ : ∀ a s, Q a s → Q' a s) : wpAny M A t Q' E s := wpAny_mono h hQ fun _ _ x => x
end L2
namespace L2
open PySem PySem.Spec PyProof.Rows
section
variable {X : Cx}
noncomputable def tVar (i : Nat) : TE := fun σ H Q => ∃ v, σ[i]? = some (some v) ∧ Q v H
noncomputable def tC (v : V) : TE := fun _ H Q => Q v H
theorem pe_var {i : Nat} {x : Str} {pos : Pos} (hN : X.N[i]? = some x) (hv : Vis X.env.scope x) (hd : (x == ("__debug__" : Str)) = false := by decide) (hcd : (x == ("__classdict__" : Str)) = false := by decide) : PE X (.Name x pos) (tVar i) := by
  intro pins s σ H Q I h
  refine Classical.byContradiction fun hnzq => ?_; obtain ⟨v, e, h⟩ := h
  refine hnzq ?_; clear hnzq
  refine Classical.byContradiction fun hnzq => ?_; obtain ⟨m, hn, hl⟩ := I.loc
  refine hnzq ?_; clear hnzq
  refine Classical.byContradiction fun hnzq => ?_; obtain ⟨u, r, l⟩ := hl i x v hN e hv
  refine hnzq ?_; clear hnzq
  have fin : EP X pins σ Q u s := ⟨v, H, I, r, h⟩
  rcases l with ⟨hk, hm⟩ | ⟨hk, c, hc, hcell⟩
  · exact wpAny_Name (wpAny_loadName_local I.ok.kind hk hn hm fin) hd
  · rcases hk with hk | hk
    · exact wpAny_Name (wpAny_loadName_cell I.ok.kind hk hc hcell fin) hd
    · exact wpAny_Name (wpAny_loadName_free I.ok.kind hk hc hcell fin hcd) hd
theorem pe_int {i j pos} : PE X (.Constant (.int i) j pos) (tC (.int i)) := fun _ _ _ H _ I h => wpAny_Constant_int ⟨.int i, H, I.tok _, ⟨_, rfl⟩, h⟩
theorem pe_bl {b j pos} : PE X (.Constant (.bool b) j pos) (tC (.bl b)) := fun _ _ _ H _ I h => Constant_bool ⟨.bl b, H, I, rfl, h⟩
theorem pe_non {j pos} : PE X (.Constant .none j pos) (tC .non) := fun _ _ _ H _ I h => Constant_none ⟨.non, H, I, rfl, h⟩
theorem pe_str {x j pos} : PE X (.Constant (.str x) j pos) (tC (.str x)) := fun _ _ _ H _ I h => Calls.Constant_str ⟨.str x, H, I.tok _, ⟨_, rfl⟩, h⟩
noncomputable def Gl (X : Cx) (x : Str) : Prop := X.env.kindOf x = some .globalImplicit
theorem ld_glob {E : Value → Shared → Prop} {pins : List (Addr × Obj)} {s : Shared} {σ : St} {H : Hp} {x : Str} {u : Value} {pos : Pos} {Q : Value → Shared → Prop} (I : Inv X pins σ H s) (hg : Gl X x) (hm : X.mg x = some u) (h : Q u s)
    (hd : (x == ("__debug__" : Str)) = false := by decide) : wpAny (model X.prog X.w) X.A (eval (.Name x pos) X.env) Q E s :=
  Calls.Name_function_global I.ok.kind hg (Calls.loadGlobal_global (by rw [I.ok.glob]; exact I.mod.glob.keeps I.bk) hm h) hd
theorem ld_blt {E : Value → Shared → Prop} {pins : List (Addr × Obj)} {s : Shared} {σ : St} {H : Hp} {x : Str} {u : Value} {pos : Pos} {Q : Value → Shared → Prop} (I : Inv X pins σ H s) (hg : Gl X x) (hm : X.mg x = none) (hv : bootBuiltins x = some u) (h : Q u s)
    (hn : x ≠ "__name__" := by decide) (hd : (x == ("__debug__" : Str)) = false := by decide) : wpAny (model X.prog X.w) X.A (eval (.Name x pos) X.env) Q E s := by
  refine Classical.byContradiction fun hnzq => ?_; obtain ⟨mb, h1, h2⟩ := I.mod.blt
  refine hnzq ?_; clear hnzq
  exact Calls.Name_function_global I.ok.kind hg (Calls.loadGlobal_builtin (by rw [I.ok.glob]; exact I.mod.glob.keeps I.bk) hm (by rw [I.ok.blt]; exact h1.keeps I.bk) ((h2 x hn).trans hv) h) hd
theorem pe_glob {x : Str} {v : V} {u : Value} {pos : Pos} (hg : Gl X x) (hm : X.mg x = some u) (r : RelV v u) (hd : (x == ("__debug__" : Str)) = false := by decide) : PE X (.Name x pos) (tC v) :=
  fun _ _ _ H _ I h => ld_glob I hg hm ⟨v, H, I, r, h⟩ hd
theorem pe_bltn {x : Str} {v : V} {u : Value} {pos : Pos} (hg : Gl X x) (hm : X.mg x = none) (hv : bootBuiltins x = some u) (r : RelV v u) (hn : x ≠ "__name__" := by decide) (hd : (x == ("__debug__" : Str)) = false := by decide) : PE X (.Name x pos) (tC v) :=
  fun _ _ _ H _ I h => ld_blt I hg hm hv ⟨v, H, I, r, h⟩ hn hd
variable {a b : Expr} {ta tb : TE} {pos : Pos}
noncomputable def PC (X : Cx) (op : CmpOp) (a b : Expr) (t : TE) : Prop :=
  ∀ (pins : List (Addr × Obj)) (s : Shared) (σ : St) (H : Hp) (Q : VK), Inv X pins σ H s → t σ H Q →
    wpAny (model X.prog X.w) X.A (eval a X.env) (fun v s₁ => wpAny (model X.prog X.w) X.A (eval b X.env) (fun u s₂ => wpAny (model X.prog X.w) X.A (compareOp op v u) (EP X pins σ Q) X.xe s₂) X.xe s₁) X.xe s
noncomputable def tB (t : TE) : TT := fun σ H Q => t σ H fun x H1 => ∃ c, x = .bl c ∧ Q c H1
theorem pt_cmp {op : CmpOp} {t : TE} (h : PC X op a b t) (h1 : behindInMarks op b = false := by first | exact nobehind _ (by decide) (by decide) | rfl) : PT X (.Compare a [op] [b] pos) (tB t) := by
  intro pins s σ H Q I hw
  refine wpAny_isTrue_Compare1 (thn (h pins s σ H _ I hw) fun v s1 h1 => thn h1 fun u s2 h2 => thn h2 fun c s3 ⟨x, H1, I1, r1, q1⟩ => ?_) h1
  refine Classical.byContradiction fun hnzq => ?_; obtain ⟨d, rfl, q⟩ := q1
  refine hnzq ?_; clear hnzq
  cases r1
  exact wpAny_truthy_bool ⟨H1, I1, q⟩
theorem pt_val {e : Expr} {t : TE} (h : PE X e t) (he : ∀ whole, isTrue e X.env whole = (do let v ← whole; standAt e.pos; holding [v] (truthy v)) := by intro _; rfl) : PT X e (tB t) := by
  intro pins s σ H Q I hw
  refine isTrue_plain (thn (h pins s σ H _ I hw) fun v s1 ⟨x, H1, I1, r1, q1⟩ => ?_) (he _)
  refine Classical.byContradiction fun hnzq => ?_; obtain ⟨d, rfl, q⟩ := q1
  refine hnzq ?_; clear hnzq
  cases r1
  exact wpAny_truthy_bool ⟨H1, I1, q⟩
variable {tA tB' : TT} {rest : List Expr}
noncomputable def tAnd (t u : TT) : TT := fun σ H Q => t σ H fun c H1 => if c = true then u σ H1 Q else Q false H1
noncomputable def tOr (t u : TT) : TT := fun σ H Q => t σ H fun c H1 => if c = true then Q true H1 else u σ H1 Q
noncomputable def tNot (t : TT) : TT := fun σ H Q => t σ H fun c H1 => Q (!c) H1
theorem pw_and1 (ha : PT X a tA) : PW X (.BoolOp .And [a] pos) tA := by
  intro wh pins s σ H Q I h
  refine isTrue_and (thn (ha pins s σ H Q I h) fun c s1 e => ?_)
  cases c with
  | true => exact isTrue_and_nil e
  | false => exact e
theorem pw_or1 (ha : PT X a tA) : PW X (.BoolOp .Or [a] pos) tA := by
  intro wh pins s σ H Q I h
  refine isTrue_or (thn (ha pins s σ H Q I h) fun c s1 e => ?_)
  cases c with
  | false => exact isTrue_or_nil e
  | true => exact e
theorem pw_and (ha : PT X a tA) (hb : PW X (.BoolOp .And (b :: rest) pos) tB') : PW X (.BoolOp .And (a :: b :: rest) pos) (tAnd tA tB') := by
  intro wh pins s σ H Q I h
  refine isTrue_and (thn (ha pins s σ H _ I h) fun c s1 zzq => ?_)
  refine Classical.byContradiction fun hnzq => ?_; obtain ⟨H1, I1, q1⟩ := zzq; refine hnzq ?_; clear hnzq
  cases c with
  | true => exact hb wh pins s1 σ H1 Q I1 q1
  | false => exact ⟨H1, I1, q1⟩
theorem pw_or (ha : PT X a tA) (hb : PW X (.BoolOp .Or (b :: rest) pos) tB') : PW X (.BoolOp .Or (a :: b :: rest) pos) (tOr tA tB') := by
  intro wh pins s σ H Q I h
  refine isTrue_or (thn (ha pins s σ H _ I h) fun c s1 zzq => ?_)
  refine Classical.byContradiction fun hnzq => ?_; obtain ⟨H1, I1, q1⟩ := zzq; refine hnzq ?_; clear hnzq
  cases c with
  | true => exact ⟨H1, I1, q1⟩
  | false => exact hb wh pins s1 σ H1 Q I1 q1
theorem pt_not (ha : PT X a tA) : PT X (.UnaryOp .Not a pos) (tNot tA) := by
  intro pins s σ H Q I h
  exact isTrue_not (ha pins s σ H (fun c H1 => Q (!c) H1) I h)
noncomputable def tAndV (ta tb : TE) : TE := fun σ H Q => ta σ H fun x H1 => ∃ c, x = .bl c ∧ if c = true then tb σ H1 Q else Q (.bl false) H1
noncomputable def tNotV (ta : TE) : TE := fun σ H Q => ta σ H fun x H1 => ∃ c, x = .bl c ∧ Q (.bl (!c)) H1
theorem pe_one {op} {t : TE} (h : PE X a t) : PE X (.BoolOp op [a] pos) t := fun pins s σ H Q I hw => BoolOp_one (h pins s σ H Q I hw)
theorem pe_and (ha : PE X a ta) (hb : PE X (.BoolOp .And (b :: rest) pos) tb) : PE X (.BoolOp .And (a :: b :: rest) pos) (tAndV ta tb) := by
  intro pins s σ H Q I h
  refine BoolOp_and (thn (ha pins s σ H _ I h) fun v s1 zzq => ?_)
  refine Classical.byContradiction fun hnzq => ?_; obtain ⟨x, H1, I1, r1, q1⟩ := zzq; refine hnzq ?_; clear hnzq
  refine Classical.byContradiction fun hnzq => ?_; obtain ⟨c, rfl, q1⟩ := q1
  refine hnzq ?_; clear hnzq
  cases r1
  refine wpAny_truthy_bool ?_
  cases c with
  | true => exact hb pins s1 σ H1 Q I1 q1
  | false => exact ⟨.bl false, H1, I1, rfl, q1⟩
theorem pe_not (ha : PE X a ta) : PE X (.UnaryOp .Not a pos) (tNotV ta) := by
  intro pins s σ H Q I h
  refine UnaryOp_ (thn (ha pins s σ H _ I h) fun v s1 zzq => ?_)
  refine Classical.byContradiction fun hnzq => ?_; obtain ⟨x, H1, I1, r1, q1⟩ := zzq; refine hnzq ?_; clear hnzq
  refine Classical.byContradiction fun hnzq => ?_; obtain ⟨c, rfl, q1⟩ := q1
  refine hnzq ?_; clear hnzq
  cases r1
  exact not_of (wpAny_truthy_bool ⟨.bl (!c), H1, I1, rfl, q1⟩)
end
end L2
namespace L2
open PySem PySem.Spec PyProof.Rows
noncomputable def SqL (K : PySem.W.Frag) (H : Hp) (a : Addr) (xs : List V) : Prop :=
  Rd H a (.lst xs) ∨
    ∃ (o : Obj) (its : Array Value) (n : Nat), K.lookup a = some o ∧ o.cls = .type "list" ∧ o.dict = none ∧ o.data = .seq its n ∧ its.size ≤ sizeLine ∧ Vals xs its.toList
noncomputable def SqT (K : PySem.W.Frag) (H : Hp) (a : Addr) (xs : List V) : Prop :=
  Rd H a (.tup xs) ∨
    ∃ (o : Obj) (its : Array Value) (n : Nat), K.lookup a = some o ∧ o.cls = .type "tuple" ∧ o.data = .seq its n ∧ its.size ≤ sizeLine ∧ Vals xs its.toList
noncomputable def absV : Value → Option V
  | .none => some .non
  | .bool b => some (.bl b)
  | .int i _ => some (.int i)
  | .str x _ => some (.str x)
  | .bytes b _ => some (.byt b)
  | .float b _ => some (.flt b)
  | .ref a => some (.ref a)
  | .type n => some (.ty n)
  | _ => none
theorem RelV.abs {x : V} {u : Value} (r : RelV x u) : absV u = some x := by
  cases x with
  | non => cases r; rfl
  | bl _ => cases r; rfl
  | int _ => obtain ⟨t, rfl⟩ := r; rfl
  | str _ => obtain ⟨t, rfl⟩ := r; rfl
  | byt _ => obtain ⟨t, rfl⟩ := r; rfl
  | flt _ => obtain ⟨t, rfl⟩ := r; rfl
  | ref _ => cases r; rfl
  | ty _ => cases r; rfl
theorem RelV.inj {x y : V} {u : Value} (r : RelV x u) (q : RelV y u) : x = y := Option.some.inj (r.abs.symm.trans q.abs)
theorem Vals.inj : ∀ {xs ys : List V} {us : List Value}, Vals xs us → Vals ys us → xs = ys
  | _, _, _, .nil, .nil => rfl
  | _, _, _, .cons r t, .cons r' t' => by rw [r.inj r', Vals.inj t t']
section
variable {X : Cx} {pins : List (Addr × Obj)} {σ : St} {H : Hp} {s : Shared} {a : Addr} {xs ys : List V}
theorem Inv.list (I : Inv X pins σ H s) (h : SqL X.K H a xs) : ∃ its : List Value, Vals xs its ∧ PlainL s.heap a its.toArray ∧ xs.length ≤ sizeLine := by
  rcases h with h | ⟨o, its, n, hk, hc, hd, hs, hz, r⟩
  · refine Classical.byContradiction fun hnzq => ?_; obtain ⟨z, its, n, r, e⟩ := h.ok I.hok
    refine hnzq ?_; clear hnzq
    exact ⟨its, r, ⟨_, n, e, rfl, rfl, rfl⟩, z⟩
  · refine ⟨its.toList, r, ⟨o, n, I.kIn a o hk, hc, hd, by simpa using hs⟩, ?_⟩
    have e := r.length
    simp only [Array.length_toList] at e
    lia
theorem Inv.tuple (I : Inv X pins σ H s) (h : SqT X.K H a xs) : ∃ its : List Value, Vals xs its ∧ IsTup s.heap a its.toArray ∧ xs.length ≤ sizeLine := by
  rcases h with h | ⟨o, its, n, hk, hc, hs, hz, r⟩
  · refine Classical.byContradiction fun hnzq => ?_; obtain ⟨z, its, r, p⟩ := h.ok I.hok
    refine hnzq ?_; clear hnzq
    exact ⟨its, r, p, z⟩
  · refine ⟨its.toList, r, ⟨o, I.kIn a o hk, hc, n, by simpa using hs⟩, ?_⟩
    have e := r.length
    simp only [Array.length_toList] at e
    omega
theorem Inv.list_inj (I : Inv X pins σ H s) (h : SqL X.K H a xs) (h' : SqL X.K H a ys) : xs = ys := by
  refine Classical.byContradiction fun hnzq => ?_; obtain ⟨its, r, ⟨o, n, e, _, _, d⟩, _⟩ := I.list h
  refine hnzq ?_; clear hnzq
  refine Classical.byContradiction fun hnzq => ?_; obtain ⟨its', r', ⟨o', n', e', _, _, d'⟩, _⟩ := I.list h'
  refine hnzq ?_; clear hnzq
  rw [e] at e'; cases e'
  rw [d] at d'
  injection d' with d1 _
  have : its = its' := by simpa using congrArg Array.toList d1
  subst this
  exact r.inj r'
end
noncomputable abbrev Cx.wish (X : Cx) (E : Value → Shared → Prop) : Cx := { X with xe := E }
noncomputable abbrev Cx.nox (X : Cx) : Cx := X.wish fun _ _ => False
theorem Cx.Ok.wish {X : Cx} (ok : X.Ok) (E : Value → Shared → Prop) : (X.wish E).Ok :=
  ⟨ok.mod, ok.kind, ok.glob, ok.blt, ok.above, ok.inj, ok.has, ok.cab, ok.hd, ok.frames, ok.stk, ok.exf, ok.bs, ok.bsz, ok.noex, ok.exfs, ok.funs, ok.frf⟩
theorem Cx.Ok.unwish {X : Cx} {E : Value → Shared → Prop} (ok : (X.wish E).Ok) : X.Ok :=
  ⟨ok.mod, ok.kind, ok.glob, ok.blt, ok.above, ok.inj, ok.has, ok.cab, ok.hd, ok.frames, ok.stk, ok.exf, ok.bs, ok.bsz, ok.noex, ok.exfs, ok.funs, ok.frf⟩
section
variable {X : Cx} {pins : List (Addr × Obj)} {σ : St} {H : Hp} {s : Shared} {E : Value → Shared → Prop}
theorem Inv.wish (I : Inv X pins σ H s) (E : Value → Shared → Prop) : Inv (X.wish E) pins σ H s := ⟨I.ok.wish E, I.os, I.bare, I.base, I.loc, I.cell, I.free, I.freeC, I.pin, I.hok, I.len⟩
theorem Inv.unwish (I : Inv (X.wish E) pins σ H s) : Inv X pins σ H s := ⟨I.ok.unwish, I.os, I.bare, I.base, I.loc, I.cell, I.free, I.freeC, I.pin, I.hok, I.len⟩
theorem SP.unwish {D : Ends} {f : Flow} {s' : Shared} (h : SP (X.wish E) pins D f s') : SP X pins D f s' := by
  cases f with
  | next => refine Classical.byContradiction fun hnzq => ?_; obtain ⟨σ', H', I, q⟩ := h; refine hnzq ?_; clear hnzq; exact ⟨σ', H', I.unwish, q⟩
  | brk => refine Classical.byContradiction fun hnzq => ?_; obtain ⟨σ', H', I, q⟩ := h; refine hnzq ?_; clear hnzq; exact ⟨σ', H', I.unwish, q⟩
  | cont => refine Classical.byContradiction fun hnzq => ?_; obtain ⟨σ', H', I, q⟩ := h; refine hnzq ?_; clear hnzq; exact ⟨σ', H', I.unwish, q⟩
  | ret u => refine Classical.byContradiction fun hnzq => ?_; obtain ⟨v, σ', H', I, r, q⟩ := h; refine hnzq ?_; clear hnzq; exact ⟨v, σ', H', I.unwish, r, q⟩
theorem PSs.nox {st : List Stmt} {t : TS} (h : PSs X.nox st t) : PSs X st t := fun pins s σ H D I hw =>
  wpAny_mono (h pins s σ H D (I.wish _) hw) (fun _ _ q => q.unwish) fun _ _ z => False.elim z
end
section
variable {X : Cx} {st : Stmt} {rest : List Stmt} {t u : TS} {e : Expr} {te : TE} {pos : Pos}
noncomputable def tNext : TS := fun D σ H => D.nx σ H
noncomputable def tSeq (t u : TS) : TS := fun D σ H => t { D with nx := u D } σ H
theorem pss_nil : PSs X [] tNext := fun _ _ σ H _ I h => wpAny_execs_nil ⟨σ, H, I, h⟩
theorem pss_cons (h1 : PS X st t) (h2 : PSs X rest u) : PSs X (st :: rest) (tSeq t u) := by
  intro pins s σ H D I h
  refine wpAny_execs_cons (thn (h1 pins s σ H { D with nx := u D } I h) fun f s1 q => ?_)
  cases f with
  | next =>
    refine Classical.byContradiction fun hnzq => ?_; obtain ⟨σ', H', I', q⟩ := q
    refine hnzq ?_; clear hnzq
    exact h2 pins s1 σ' H' D I' q
  | ret v => exact q
  | brk => exact q
  | cont => exact q
theorem pss_one (h1 : PS X st t) : PSs X [st] t := by
  intro pins s σ H D I h
  refine wpAny_execs_cons (thn (h1 pins s σ H D I h) fun f s1 q => ?_)
  cases f with
  | next => exact wpAny_execs_nil q
  | ret v => exact q
  | brk => exact q
  | cont => exact q
theorem Inv.quiet {pins : List (Addr × Obj)} {σ : St} {H : Hp} {s : Shared} (I : Inv X pins σ H s) : interactive X.env = false := by simp [interactive, I.ok.kind]
noncomputable def tDrop (te : TE) : TS := fun D σ H => te σ H fun _ H1 => D.nx σ H1
theorem ps_expr (he : PE X e te) (hs : swapsWith e none pos.line X.env = pure false := by rfl) : PS X (.Expr e pos) (tDrop te) := by
  intro pins s σ H D I h
  exact wpAny_Expr_any (thn (he pins s σ H _ I h) fun v s1 ⟨x, H1, I1, r1, q1⟩ => ⟨σ, H1, I1, q1⟩) I.quiet hs
noncomputable def tRet (te : TE) : TS := fun D σ H => te σ H D.rt
theorem ps_ret (he : PE X e te) : PS X (.Return (some e) pos) (tRet te) := by
  intro pins s σ H D I h
  exact wpAny_Return_some (thn (he pins s σ H _ I h) fun v s1 ⟨x, H1, I1, r1, q1⟩ => ⟨x, σ, H1, I1, r1, q1⟩)
noncomputable def tIfS (c : TT) (t u : TS) : TS := fun D σ H => c σ H fun b H1 => if b = true then t D σ H1 else u D σ H1
theorem ps_if {c : Expr} {a b : List Stmt} {tc : TT} (hc : PT X c tc) (ha : PSs X a t) (hb : PSs X b u) : PS X (.If c a b pos) (tIfS tc t u) := by
  intro pins s σ H D I h
  refine wpAny_If (thn (hc pins s σ H _ I h) fun d s1 zzq => ?_)
  refine Classical.byContradiction fun hnzq => ?_; obtain ⟨H1, I1, q1⟩ := zzq; refine hnzq ?_; clear hnzq
  cases d with
  | true => exact ha pins s1 σ H1 D I1 q1
  | false => exact hb pins s1 σ H1 D I1 q1
end
noncomputable abbrev TG := V → St → Hp → (St → Hp → Prop) → Prop
noncomputable def PG (X : Cx) (target : Expr) (t : TG) : Prop :=
  ∀ (pins : List (Addr × Obj)) (s : Shared) (σ : St) (H : Hp) (v : V) (u : Value) (Q : St → Hp → Prop), Inv X pins σ H s → RelV v u → t v σ H Q →
    wpAny (model X.prog X.w) X.A (assign target X.env u) (fun _ s' => ∃ σ' H', Inv X pins σ' H' s' ∧ Q σ' H') X.xe s
section
variable {X : Cx} {pos : Pos}
noncomputable def gName (i : Nat) : TG := fun v σ H Q => Q (σ.set i (some v)) H
theorem pg_name {i : Nat} {x : Str} (hN : X.N.Nodup) (hi : X.N[i]? = some x) (hx : Loc X.env.scope x) (hf : X.fn x = true ∨ X.env.scope.names.lookup x = some .local := by first | exact .inl rfl | exact .inr rfl | assumption) : PG X (.Name x pos) (gName i) := by
  intro pins s σ H v u Q I r h
  exact wpAny_assign_Name (store_ok I hN hi hx r (fun s' I' => ⟨_, H, I', h⟩) hf)
noncomputable def tAsg (te : TE) (g : TG) : TS := fun D σ H => te σ H fun x H1 => g x σ H1 D.nx
theorem ps_set {i : Nat} {x : Str} {e : Expr} {te : TE} {pos' : Pos} (hN : X.N.Nodup) (hi : X.N[i]? = some x) (hx : Loc X.env.scope x) (he : PE X e te) (hs : swapsWith e (some (.Name x pos')) pos.line X.env = pure false := by rfl) (hf : X.fn x = true ∨ X.env.scope.names.lookup x = some .local := by first | exact .inl rfl | exact .inr rfl | assumption) :
    PS X (.Assign [.Name x pos'] e pos) (tAsg te (gName i)) := by
  intro pins s σ H D I h
  refine wpAny_Assign_Name (thn (he pins s σ H _ I h) fun v s1 ⟨y, H1, I1, r1, q1⟩ => ?_) hs
  exact store_ok I1 hN hi hx r1 (fun s2 I2 => ⟨_, H1, I2, q1⟩) hf
end
section
variable {X : Cx} {pos : Pos}
end
set_option genInjectivity false in
set_option genSizeOf false in
set_option genSizeOfSpec false in
structure It where
  go : Nat → Hp → Prop
  yld : Nat → Hp → V → Hp → Prop
  stop : Nat → Hp → Prop
noncomputable def FpOk (X : Cx) (pins : List (Addr × Obj)) (H : Hp) (b : Addr) : Prop :=
  H b = none ∧ b ≠ X.env.locals ∧ b ∉ X.fs ∧ (b ∈ X.ex ∨ X.s₀.heap.objs.size ≤ b) ∧ (∀ x c, X.env.cells.lookup x = some c → c ≠ b) ∧ ∀ p ∈ X.pn ++ pins, p.1 ≠ b
theorem Inv.fpOk {X : Cx} {pins : List (Addr × Obj)} {σ : St} {H H' : Hp} {s : Shared} {b : Addr} (I : Inv X pins σ H s) (hb : s.heap.objs.size ≤ b) (hn : H' b = none) : FpOk X pins H' b := by
  refine ⟨hn, Nat.ne_of_gt (Nat.lt_of_lt_of_le I.lt hb), I.nofs hb, .inr (Nat.le_trans I.sz hb), fun x c e z => ?_, fun p hp z => ?_⟩
  · obtain ⟨v, q⟩ := I.cell x c e
    exact absurd (Nat.lt_of_lt_of_le q.lt (by rw [z]; exact hb)) (Nat.lt_irrefl _)
  · exact absurd (Nat.lt_of_lt_of_le (Heap.lt_size (I.pin p hp).1) (by rw [z]; exact hb)) (Nat.lt_irrefl _)
set_option genInjectivity false in
set_option genSizeOf false in
set_option genSizeOfSpec false in
structure Turn (P : Program) (w : World) (K : PySem.W.Frag) (tg : Expr) (J : It) (fp : List Addr) (it : Addr) (tn : Nat → Heap → Prop) : Prop where
  mem : it ∈ fp
  obj : ∀ i h, tn i h → ∀ b ∈ fp, ∃ o, h.get? b = some o ∧ ∀ v, o.data ≠ .cell v
  keep : ∀ i h h', tn i h → (∀ b ∈ fp, ∀ o, h.get? b = some o → h'.get? b = some o) → tn i h'
  item : ∀ (X : Cx), X.prog = P → X.w = w → X.K = K → X.calm = true → ∀ (i : Nat) (pins : List (Addr × Obj)) (s : Shared) (σ : St) (H : Hp) (E : Value → Shared → Prop), Inv X pins σ H s → (∀ b ∈ fp, FpOk X pins H b) → tn i s.heap → J.go i H →
    wpAny (model P w) X.A (pyNext (.ref it)) (fun r s1 => ∃ u, r = some u ∧
      wpAny (model P w) X.A (letOwnedTupleGo tg (.ref it) u) (fun _ s2 => ∃ x H', Inv X pins σ H' s2 ∧ RelV x u ∧ J.yld i H x H' ∧ tn (i + 1) s2.heap ∧ ∀ b ∈ fp, H' b = none) E s1) E s
  done : ∀ (X : Cx), X.prog = P → X.w = w → X.K = K → X.calm = true → ∀ (i : Nat) (pins : List (Addr × Obj)) (s : Shared) (σ : St) (H : Hp) (E : Value → Shared → Prop), Inv X pins σ H s → (∀ b ∈ fp, FpOk X pins H b) → tn i s.heap → J.stop i H →
    wpAny (model P w) X.A (pyNext (.ref it)) (fun r s1 => r = none ∧ Inv X pins σ H s1) E s
  self : ∀ (A : Around) (i : Nat) (s : Shared) (Q : Value → Shared → Prop) (E : Value → Shared → Prop), tn i s.heap → Q (.ref it) s → wpAny (model P w) A (pyIter (.ref it)) Q E s
noncomputable abbrev TI := St → Hp → (It → Hp → Prop) → Prop
noncomputable def PIE (X : Cx) (pins : List (Addr × Obj)) (σ : St) (tg : Expr) (R : It → Hp → Prop) (itv : Value) (s2 : Shared) : Prop :=
  ∃ (it : Addr) (fp : List Addr) (tn : Nat → Heap → Prop) (J : It) (H' : Hp), itv = .ref it ∧ Inv X pins σ H' s2 ∧ Turn X.prog X.w X.K tg J fp it tn ∧ tn 0 s2.heap ∧ (∀ b ∈ fp, FpOk X pins H' b) ∧ R J H'
noncomputable def PI (X : Cx) (tg iter : Expr) (wi : TI) : Prop :=
  ∀ (pins : List (Addr × Obj)) (s : Shared) (σ : St) (H : Hp) (R : It → Hp → Prop), Inv X pins σ H s → wi σ H R →
    wpAny (model X.prog X.w) X.A (eval iter X.env) (fun v s1 => wpAny (model X.prog X.w) X.A (pyIter v) (PIE X pins σ tg R) X.xe s1) X.xe s
theorem go_of {M : Model} {A : Around} {E : Value → Shared → Prop} {s : Shared} {tg : Expr} {it : Addr} {u : Value} {o : Obj} {n : String} {vs : Array Value} {Q : Unit → Shared → Prop} (ho : s.heap.get? it = some o) (hc : o.cls = .type n) (hd : o.data = .fields vs)
    (hn : ["enumerate", "zip", "dict_itemiterator", "dict_reverseitemiterator", "odict_iterator", "itertools.zip_longest", "itertools.pairwise"].contains n = false) (hQ : Q () s) : wpAny M A (letOwnedTupleGo tg (.ref it) u) Q E s := by
  unfold letOwnedTupleGo
  cases tg <;> first
    | exact wpAny_pure hQ
    | (cases u <;> first
        | exact wpAny_pure hQ
        | (refine wpAny_bind (wpAny_load ho ?_)
           rw [hc, hd]
           show wpAny M A (if (["enumerate", "zip", "dict_itemiterator", "dict_reverseitemiterator", "odict_iterator", "itertools.zip_longest", "itertools.pairwise"].contains n && vs[0]? == some (rawInt _)) = true then _ else _) Q E s
           rw [if_neg (by intro h; rw [hn, Bool.false_and] at h; cases h)]
           exact wpAny_pure hQ))
noncomputable def Itl (K : PySem.W.Frag) (a : Addr) : It :=
  ⟨fun i H => ∃ xs x, SqL K H a xs ∧ xs[i]? = some x, fun i H x H' => H' = H ∧ ∀ xs, SqL K H a xs → xs[i]? = some x, fun i H => ∃ xs, SqL K H a xs ∧ xs.length ≤ i⟩
noncomputable def Itr (lo : Int) (n : Nat) : It := ⟨fun i _ => i < n, fun i H x H' => H' = H ∧ x = .int (lo + i), fun i _ => n ≤ i⟩
theorem turn_list {P : Program} {w : World} {K : PySem.W.Frag} {tg : Expr} (a it : Addr) : Turn P w K tg (Itl K a) [it] it (fun i h => h.IsListIter it a i) where
  mem := by simp
  obj := fun i h st b hb => by
    have e : b = it := by simpa using hb
    subst e
    refine Classical.byContradiction fun hnzq => ?_; obtain ⟨o, e, c, d⟩ := st
    refine hnzq ?_; clear hnzq
    exact ⟨o, e, fun v z => by rw [d] at z; cases z⟩
  keep := fun i h h' st k => st.at fun o e => k it (by simp) o e
  item := by
    intro X hP hw hK hc i pins s σ H E I hf st hg
    subst hP hw hK
    refine Classical.byContradiction fun hnzq => ?_; obtain ⟨xs, x, hq, hx⟩ := hg
    refine hnzq ?_; clear hnzq
    refine Classical.byContradiction fun hnzq => ?_; obtain ⟨its, rv, p, hz⟩ := I.list hq
    refine hnzq ?_; clear hnzq
    refine Classical.byContradiction fun hnzq => ?_; obtain ⟨u, hu, ru⟩ := rv.get hx
    refine hnzq ?_; clear hnzq
    refine Classical.byContradiction fun hnzq => ?_; obtain ⟨f0, f1, f2, f3, f4, f5⟩ := hf it (by simp)
    refine hnzq ?_; clear hnzq
    refine wpAny_pyNext_list_item st p.isList (x := u) (by simpa using hu) fun h' st' sb => ?_
    have I1 : Inv X pins σ H { s with heap := h' } := I.turned (t' := s.toks) (fun b o hb e => (sb.2 b hb).trans e) f0 f1 f3 f4 f5
    refine Classical.byContradiction fun hnzq => ?_; obtain ⟨o, e, c, d⟩ := id st'
    refine hnzq ?_; clear hnzq
    exact ⟨u, rfl, go_of (s := { s with heap := h' }) e c d (by decide) ⟨x, H, I1, ru, ⟨rfl, fun ys hy => by rw [I.list_inj hy hq]; exact hx⟩, st', fun b hb => (hf b hb).1⟩⟩
  done := by
    intro X hP hw hK hc i pins s σ H E I hf st hg
    subst hP hw hK
    refine Classical.byContradiction fun hnzq => ?_; obtain ⟨xs, hq, hx⟩ := hg
    refine hnzq ?_; clear hnzq
    refine Classical.byContradiction fun hnzq => ?_; obtain ⟨its, rv, p, hz⟩ := I.list hq
    refine hnzq ?_; clear hnzq
    refine Classical.byContradiction fun hnzq => ?_; obtain ⟨f0, f1, f2, f3, f4, f5⟩ := hf it (by simp)
    refine hnzq ?_; clear hnzq
    have hl := rv.length
    exact wpAny_pyNext_list_end (I.ok.hd hc) st p.isList (by simp; lia) fun h' eb => ⟨rfl, I.turned (t' := s.toks) (fun b o hb e => eb b o hb e) f0 f1 f3 f4 f5⟩
  self := fun _ _ _ _ _ st h => wpAny_pyIter_listiter st h
theorem turn_range {P : Program} {w : World} {K : PySem.W.Frag} {tg : Expr} (it : Addr) (lo : Int) (n : Nat) : Turn P w K tg (Itr lo n) [it] it (fun i h => IsRangeIter h it (lo + (i : Nat) * 1) ((n : Int) - (i : Nat)) 1) where
  mem := by simp
  obj := fun i h st b hb => by
    have e : b = it := by simpa using hb
    subst e
    exact ⟨_, st, fun v z => by
      have z' : Data.fields _ = Data.cell v := z
      cases z'⟩
  keep := fun i h h' st k => k it (by simp) _ st
  item := by
    intro X hP hw hK hc i pins s σ H E I hf st hg
    subst hP hw hK
    refine Classical.byContradiction fun hnzq => ?_; obtain ⟨f0, f1, f2, f3, f4, f5⟩ := hf it (by simp)
    refine hnzq ?_; clear hnzq
    have W := Walks.range (prog := X.prog) (w := X.w) (I.ok.hd hc) it lo 1 n
    refine W.item i s _ _ hg st fun v h' tk hv st' kk => ?_
    obtain ⟨t, rfl⟩ := hv
    have I1 : Inv X pins σ H { s with heap := h', toks := tk } := I.turned (fun b o hb e => kk b o (by simpa using hb) e) f0 f1 f3 f4 f5
    refine ⟨_, rfl, go_of (s := { s with heap := h', toks := tk }) (n := "range_iterator") st' rfl rfl (by decide) ⟨.int (lo + i), H, I1, ⟨t, ?_⟩, ⟨rfl, rfl⟩, st', fun b hb => (hf b hb).1⟩⟩
    rw [Int.mul_one]
  done := by
    intro X hP hw hK hc i pins s σ H E I hf st hg
    subst hP hw hK
    refine Classical.byContradiction fun hnzq => ?_; obtain ⟨f0, f1, f2, f3, f4, f5⟩ := hf it (by simp)
    refine hnzq ?_; clear hnzq
    exact wpAny_pyNext_range_end (I.ok.hd hc) st (by have : n ≤ i := hg; lia) fun h' eb => ⟨rfl, I.turned (t' := s.toks) (fun b o hb e => eb b o hb e) f0 f1 f3 f4 f5⟩
  self := fun _ _ _ _ _ st h => wpAny_pyIter_rangeiter st h
end L2
namespace L2
open PySem PySem.Spec PyProof.Rows
section
variable {X : Cx} {tg : Expr}
noncomputable def iList (K : PySem.W.Frag) (tl : TE) : TI := fun σ H R => tl σ H fun x H1 => ∃ a, x = .ref a ∧ (∃ xs, SqL K H1 a xs) ∧ R (Itl K a) H1
theorem pi_list {l : Expr} {tl : TE} (hl : PE X l tl) : PI X tg l (iList X.K tl) := by
  intro pins s σ H R I h
  refine thn (hl pins s σ H _ I h) fun v s1 zzq => ?_
  refine Classical.byContradiction fun hnzq => ?_; obtain ⟨x, H1, I1, r1, q1⟩ := zzq; refine hnzq ?_; clear hnzq
  refine Classical.byContradiction fun hnzq => ?_; obtain ⟨a, e, ⟨xs, hq⟩, q⟩ := q1
  refine hnzq ?_; clear hnzq
  subst e
  cases r1
  refine Classical.byContradiction fun hnzq => ?_; obtain ⟨its, rv, p, hz⟩ := I1.list hq
  refine hnzq ?_; clear hnzq
  refine wpAny_pyIter_list p.isList ?_
  refine ⟨s1.heap.objs.size, [s1.heap.objs.size], _, _, H1, rfl, I1.kept (t' := s1.toks) fun b o e => Heap.get?_push_of_some _ e, turn_list a _, ⟨_, Heap.get?_push_size _ rfl, rfl, rfl⟩, fun b hb => ?_, q⟩
  have e : b = s1.heap.objs.size := by simpa using hb
  subst e
  exact I1.fpOk (Nat.le_refl _) (I1.hok.fresh (Nat.le_refl _))
theorem range_it {pins : List (Addr × Obj)} {σ : St} {H : Hp} {s : Shared} {R : It → Hp → Prop} {E : Value → Shared → Prop} {lo hi : Int} {t u v : Tok} {tk : Nat} (I : Inv X pins σ H s) (h1 : -(2 ^ 62) ≤ lo) (h2 : lo < 2 ^ 62) (h3 : -(2 ^ 62) ≤ hi) (h4 : hi < 2 ^ 62)
    (q : R (Itr lo (hi - lo).toNat) H) : wpAny (model X.prog X.w) X.A (pyIter (.ref s.heap.objs.size)) (PIE X pins σ tg R) E { s with heap := s.heap.push { cls := .type "range", data := .fields #[.int lo t, .int hi u, .int 1 v] }, toks := tk } := by
  refine wpAny_pyIter_range (IsRange.new ..) (small_one h1 h2 h3 h4) ?_
  have I1 : Inv X pins σ H { s with heap := s.heap.push { cls := .type "range", data := .fields #[.int lo t, .int hi u, .int 1 v] }, toks := tk } := I.kept fun b o e => Heap.get?_push_of_some _ e
  refine ⟨(s.heap.push { cls := .type "range", data := .fields #[.int lo t, .int hi u, .int 1 v] }).objs.size, [(s.heap.push { cls := .type "range", data := .fields #[.int lo t, .int hi u, .int 1 v] }).objs.size], _, _, H, rfl,
    I1.kept (t' := tk) fun b o e => Heap.get?_push_of_some _ e, turn_range _ lo (hi - lo).toNat, ?_, fun b hb => ?_, q⟩
  · have e1 : lo + ((0 : Nat) : Int) * 1 = lo := by simp
    have e2 : (((hi - lo).toNat : Nat) : Int) - ((0 : Nat) : Int) = Builtin.Range.rangeSize lo hi 1 := by rw [rangeSize_one]; split <;> lia
    show IsRangeIter _ _ (lo + ((0 : Nat) : Int) * 1) ((((hi - lo).toNat : Nat) : Int) - ((0 : Nat) : Int)) 1
    rw [e1, e2]
    exact Heap.get?_push_size _ rfl
  · have e : b = (s.heap.push { cls := .type "range", data := .fields #[.int lo t, .int hi u, .int 1 v] }).objs.size := by simpa using hb
    subst e
    exact I1.fpOk (Nat.le_refl _) (I1.hok.fresh (Nat.le_refl _))
noncomputable def iRng1 (ta : TA) : TI := fun σ H R => ta σ H fun vs H1 => ∃ j : Int, vs = [.int j] ∧ -(2 ^ 62) ≤ j ∧ j < 2 ^ 62 ∧ R (Itr 0 j.toNat) H1
noncomputable def iRng2 (ta : TA) : TI := fun σ H R => ta σ H fun vs H1 => ∃ i j : Int, vs = [.int i, .int j] ∧ (-(2 ^ 62) ≤ i ∧ i < 2 ^ 62 ∧ -(2 ^ 62) ≤ j ∧ j < 2 ^ 62) ∧ R (Itr i (j - i).toNat) H1
theorem pi_range1 {a : Expr} {ta : TA} {p pos : Pos} (hg : Gl X "range") (hm : X.mg "range" = none) (ha : PA X [a] ta) (hs : starEach [a] X.env = [(false, eval a X.env)] := by rfl) : PI X tg (.Call (.Name "range" p) [a] [] pos) (iRng1 ta) := by
  intro pins s σ H R I h
  refine Call_ (ld_blt I hg hm boot_range (PyProof.Rows.callWith_type1 (thn (ha pos pins s σ H _ I h) fun us s1 ⟨vs, H1, I1, r1, q1⟩ => ?_) hs rfl))
  refine Classical.byContradiction fun hnzq => ?_; obtain ⟨j, e, q1, q2, q⟩ := q1
  refine hnzq ?_; clear hnzq
  subst e
  cases r1 with
  | cons r rr =>
    cases rr
    obtain ⟨t, rfl⟩ := r
    exact call_range_1 (range_it I1 (by (exact Int.ofNat_nonneg _)) (by (exact Int.ofNat_nonneg _)) q1 q2 (by simpa using q))
theorem pi_range2 {a b : Expr} {ta : TA} {p pos : Pos} (hg : Gl X "range") (hm : X.mg "range" = none) (ha : PA X [a, b] ta) (hs : starEach [a, b] X.env = [(false, eval a X.env), (false, eval b X.env)] := by rfl) (hs2 : starEach [b] X.env = [(false, eval b X.env)] := by rfl) :
    PI X tg (.Call (.Name "range" p) [a, b] [] pos) (iRng2 ta) := by
  intro pins s σ H R I h
  refine Call_ (ld_blt I hg hm boot_range (PyProof.Rows.callWith_type1 (thn (ha pos pins s σ H _ I h) fun us s1 ⟨vs, H1, I1, r1, q1⟩ => ?_) (by rw [hs, hs2]) (by rw [hs2]; rfl)))
  refine Classical.byContradiction fun hnzq => ?_; obtain ⟨i, j, e, ⟨q1, q2, q3, q4⟩, q⟩ := q1
  refine hnzq ?_; clear hnzq
  subst e
  cases r1 with
  | cons r rr =>
    cases rr with
    | cons r' rr =>
      cases rr
      obtain ⟨t, rfl⟩ := r
      obtain ⟨t', rfl⟩ := r'
      exact call_range_2 (range_it I1 q1 q2 q3 q4 q)
noncomputable def tFor (wi : TI) (g : TG) (tb : TS) : TS := fun D σ H => wi σ H fun J H1 => ∃ W : Nat → Nat → St → Hp → Prop, (∃ m, W 0 m σ H1) ∧ ∀ i m σ H, W i m σ H →
  (J.stop i H ∧ D.nx σ H) ∨ (J.go i H ∧ ∃ N : St → Hp → Prop, (∀ σ' H', N σ' H' → ∃ m', m' < m ∧ W (i + 1) m' σ' H') ∧ ∀ x H', J.yld i H x H' → g x σ H' fun σ2 H2 => tb { D with nx := N, ct := N, bk := D.nx } σ2 H2)
noncomputable def pinsAt (fp : List Addr) (h : Heap) : List (Addr × Obj) := fp.filterMap fun b => (h.get? b).map fun o => (b, o)
theorem mem_pinsAt {fp : List Addr} {h : Heap} {b : Addr} {o : Obj} (hb : b ∈ fp) (e : h.get? b = some o) : (b, o) ∈ pinsAt fp h := List.mem_filterMap.mpr ⟨b, hb, by rw [e]; rfl⟩
theorem of_pinsAt {fp : List Addr} {h : Heap} {p : Addr × Obj} (hp : p ∈ pinsAt fp h) : p.1 ∈ fp ∧ h.get? p.1 = some p.2 := by
  refine Classical.byContradiction fun hnzq => ?_; obtain ⟨b, hb, e⟩ := List.mem_filterMap.mp hp
  refine hnzq ?_; clear hnzq
  cases q : h.get? b with
  | none => rw [q] at e; cases e
  | some o =>
    rw [q] at e
    have e' : (b, o) = p := Option.some.inj e
    subst e'
    exact ⟨hb, q⟩
theorem Inv.pinned {pins : List (Addr × Obj)} {σ : St} {H : Hp} {s : Shared} {fp : List Addr} (I : Inv X pins σ H s) (hf : ∀ b ∈ fp, FpOk X pins H b) (ho : ∀ b ∈ fp, ∃ o, s.heap.get? b = some o ∧ ∀ v, o.data ≠ .cell v) : Inv X (pins ++ pinsAt fp s.heap) σ H s :=
  I.pins_of fun p hp => (List.mem_append.mp hp).elim (fun z => I.pin p (List.mem_append_right _ z)) fun z => by
    obtain ⟨hb, e⟩ := of_pinsAt z
    refine Classical.byContradiction fun hnzq => ?_; obtain ⟨f0, f1, f2, _⟩ := hf p.1 hb
    refine hnzq ?_; clear hnzq
    refine Classical.byContradiction fun hnzq => ?_; obtain ⟨o, e', d⟩ := ho p.1 hb
    refine hnzq ?_; clear hnzq
    rw [e] at e'; cases e'
    exact ⟨e, f0, f1, f2, d⟩
theorem Inv.unpinned {pins pl : List (Addr × Obj)} {σ : St} {H : Hp} {s : Shared} (I : Inv X (pins ++ pl) σ H s) : Inv X pins σ H s := I.pins_of fun p hp => I.pin p (List.mem_append_right _ (List.mem_append_left _ hp))
theorem ps_for {iter : Expr} {body : List Stmt} {wi : TI} {g : TG} {tb : TS} {pos : Pos} (hp : PassesOwn (model X.prog X.w) X.A X.env X.xe) (hc : X.calm = true) (hi : PI X tg iter wi) (hg : PG X tg g) (hb : PSs X body tb)
    (hs : ∀ x, foldedSetIterable iter X.env x = pure x := by intro _; rfl) : PS X (.For tg iter body [] pos) (tFor wi g tb) := by
  intro pins s σ H D I h
  refine wpAny_For (thn (hi pins s σ H _ I h) fun v s1 h1 => thn h1 fun itv s2 h2 => ?_) hs
  refine Classical.byContradiction fun hnzq => ?_; obtain ⟨it, fp, tn, J, H2, e, I2, T, st2, f2, W, ⟨m0, w0⟩, turn⟩ := h2
  refine hnzq ?_; clear hnzq
  subst e
  have stat : ∀ {H' : Hp}, (∀ b ∈ fp, H' b = none) → ∀ b ∈ fp, FpOk X pins H' b := fun hn b hb => ⟨hn b hb, (f2 b hb).2⟩
  refine codeAny_forLoop_any (fun n s' => ∃ i σ' H', Inv X pins σ' H' s' ∧ tn i s'.heap ∧ (∀ b ∈ fp, H' b = none) ∧ W i n σ' H') ?_ m0 ⟨0, σ, H2, I2, st2, fun b hb => (f2 b hb).1, w0⟩
  rintro n s3 ⟨i, σ3, H3, I3, st3, fr3, w3⟩
  rcases turn i n σ3 H3 w3 with ⟨stop, qn⟩ | ⟨go, N, hN, step⟩
  · refine wpAny_passesOwn hp (thn (T.done X rfl rfl rfl hc i pins s3 σ3 H3 X.xe I3 (stat fr3) st3 stop) fun r s4 zzq => ?_)
    refine Classical.byContradiction fun hnzq => ?_; obtain ⟨hr, I4⟩ := zzq; refine hnzq ?_; clear hnzq
    subst hr
    exact wpAny_execs_nil ⟨σ3, H3, I4, qn⟩
  · refine wpAny_passesOwn hp (thn (T.item X rfl rfl rfl hc i pins s3 σ3 H3 X.xe I3 (stat fr3) st3 go) fun r s4 zzq => ?_)
    refine Classical.byContradiction fun hnzq => ?_; obtain ⟨u, hr, h4⟩ := zzq; refine hnzq ?_; clear hnzq
    subst hr
    refine wpAny_passesOwn hp (thn h4 fun _ s5 zzq => ?_)
    refine Classical.byContradiction fun hnzq => ?_; obtain ⟨x, H5, I5, r5, y5, st5, fr5⟩ := zzq; refine hnzq ?_; clear hnzq
    have I5' := I5.pinned (stat fr5) (T.obj _ _ st5)
    refine wpAny_passesOwn hp (thn (hg _ s5 σ3 H5 x u _ I5' r5 (step x H5 y5)) fun _ s6 zzq => ?_)
    refine Classical.byContradiction fun hnzq => ?_; obtain ⟨σ6, H6, I6, q6⟩ := zzq; refine hnzq ?_; clear hnzq
    refine wpAny_passesOwn hp (thn (hb _ s6 σ6 H6 _ I6 q6) fun f s7 q7 => ?_)
    have again : ∀ {σ7 : St} {H7 : Hp}, Inv X (pins ++ pinsAt fp s5.heap) σ7 H7 s7 → N σ7 H7 → ∃ m, m < n ∧ ∃ i σ' H', Inv X pins σ' H' s7 ∧ tn i s7.heap ∧ (∀ b ∈ fp, H' b = none) ∧ W i m σ' H' := fun {σ7 H7} I7 n7 => by
      refine Classical.byContradiction fun hnzq => ?_; obtain ⟨m', hm, w7⟩ := hN σ7 H7 n7
      refine hnzq ?_; clear hnzq
      refine ⟨m', hm, i + 1, σ7, H7, I7.unpinned, T.keep _ _ _ st5 fun b hb o e => (I7.pin (b, o) (List.mem_append_right _ (List.mem_append_right _ (mem_pinsAt hb e)))).1, fun b hb => ?_, w7⟩
      refine Classical.byContradiction fun hnzq => ?_; obtain ⟨o, e, d⟩ := T.obj _ _ st5 b hb
      refine hnzq ?_; clear hnzq
      exact (I7.pin (b, o) (List.mem_append_right _ (List.mem_append_right _ (mem_pinsAt hb e)))).2.1
    cases f with
    | next => refine Classical.byContradiction fun hnzq => ?_; obtain ⟨σ7, H7, I7, n7⟩ := q7; refine hnzq ?_; clear hnzq; exact again I7 n7
    | cont => refine Classical.byContradiction fun hnzq => ?_; obtain ⟨σ7, H7, I7, n7⟩ := q7; refine hnzq ?_; clear hnzq; exact again I7 n7
    | brk => refine Classical.byContradiction fun hnzq => ?_; obtain ⟨σ7, H7, I7, q7⟩ := q7; refine hnzq ?_; clear hnzq; exact ⟨σ7, H7, I7.unpinned, q7⟩
    | ret v => refine Classical.byContradiction fun hnzq => ?_; obtain ⟨x7, σ7, H7, I7, r7, q7⟩ := q7; refine hnzq ?_; clear hnzq; exact ⟨x7, σ7, H7, I7.unpinned, r7, q7⟩
end
theorem for_list {K : PySem.W.Frag} {a : Addr} {xs : List V} {g : TG} {tb : TS} {D : Ends} {σ : St} {H : Hp} (Pv : Nat → St → Hp → Prop) (h0 : Pv 0 σ H) (hl : ∀ i σ H, i ≤ xs.length → Pv i σ H → SqL K H a xs)
    (hs : ∀ i x σ H, xs[i]? = some x → Pv i σ H → g x σ H fun σ2 H2 => tb { D with nx := Pv (i + 1), ct := Pv (i + 1), bk := D.nx } σ2 H2) (hd : ∀ σ H, Pv xs.length σ H → D.nx σ H) :
    ∃ W : Nat → Nat → St → Hp → Prop, (∃ m, W 0 m σ H) ∧ ∀ i m σ H, W i m σ H →
      ((Itl K a).stop i H ∧ D.nx σ H) ∨ ((Itl K a).go i H ∧ ∃ N : St → Hp → Prop, (∀ σ' H', N σ' H' → ∃ m', m' < m ∧ W (i + 1) m' σ' H') ∧ ∀ x H', (Itl K a).yld i H x H' → g x σ H' fun σ2 H2 => tb { D with nx := N, ct := N, bk := D.nx } σ2 H2) := by
  refine ⟨fun i m σ H => m = xs.length - i ∧ i ≤ xs.length ∧ Pv i σ H, ⟨xs.length, by simp, Nat.zero_le _, h0⟩, ?_⟩
  rintro i m σ H ⟨rfl, hi, p⟩
  have q := hl i σ H hi p
  by_cases hlt : i < xs.length
  · refine .inr ⟨⟨xs, xs[i], q, by simp [hlt]⟩, Pv (i + 1), fun σ' H' p' => ⟨xs.length - (i + 1), by omega, rfl, hlt, p'⟩, fun x H' y => ?_⟩
    obtain ⟨e, y⟩ := y
    subst e
    exact hs i x σ _ (y xs q) p
  · have e : i = xs.length := by lia
    subst e
    exact .inl ⟨⟨xs, q, Nat.le_refl _⟩, hd σ H p⟩
theorem for_range {lo : Int} {n : Nat} {g : TG} {tb : TS} {D : Ends} {σ : St} {H : Hp} (Pv : Nat → St → Hp → Prop) (h0 : Pv 0 σ H)
    (hs : ∀ i σ H, i < n → Pv i σ H → g (.int (lo + i)) σ H fun σ2 H2 => tb { D with nx := Pv (i + 1), ct := Pv (i + 1), bk := D.nx } σ2 H2) (hd : ∀ σ H, Pv n σ H → D.nx σ H) :
    ∃ W : Nat → Nat → St → Hp → Prop, (∃ m, W 0 m σ H) ∧ ∀ i m σ H, W i m σ H →
      ((Itr lo n).stop i H ∧ D.nx σ H) ∨ ((Itr lo n).go i H ∧ ∃ N : St → Hp → Prop, (∀ σ' H', N σ' H' → ∃ m', m' < m ∧ W (i + 1) m' σ' H') ∧ ∀ x H', (Itr lo n).yld i H x H' → g x σ H' fun σ2 H2 => tb { D with nx := N, ct := N, bk := D.nx } σ2 H2) := by
  refine ⟨fun i m σ H => m = n - i ∧ i ≤ n ∧ Pv i σ H, ⟨n, by simp, Nat.zero_le _, h0⟩, ?_⟩
  rintro i m σ H ⟨rfl, hi, p⟩
  by_cases hlt : i < n
  · refine .inr ⟨hlt, Pv (i + 1), fun σ' H' p' => ⟨n - (i + 1), by omega, rfl, hlt, p'⟩, fun x H' y => ?_⟩
    obtain ⟨e, y⟩ := y
    subst e y
    exact hs i σ _ hlt p
  · have e : i = n := by lia
    subst e
    exact .inl ⟨Nat.le_refl _, hd σ H p⟩
end L2
namespace L2
open PySem PySem.Spec PyProof.Rows
noncomputable abbrev R2 := V → V → Hp → VK → Prop
noncomputable def OpR (X : Cx) (f : Value → Value → Sem Value) (r : R2) : Prop :=
  ∀ (pins : List (Addr × Obj)) (s : Shared) (σ : St) (H : Hp) (x y : V) (v u : Value) (Q : VK), Inv X pins σ H s → RelV x v → RelV y u → r x y H Q →
    wpAny (model X.prog X.w) X.A (f v u) (EP X pins σ Q) X.xe s
noncomputable def UnR (X : Cx) (f : Value → Sem Value) (r : V → Hp → VK → Prop) : Prop :=
  ∀ (pins : List (Addr × Obj)) (s : Shared) (σ : St) (H : Hp) (x : V) (v : Value) (Q : VK), Inv X pins σ H s → RelV x v → r x H Q →
    wpAny (model X.prog X.w) X.A (f v) (EP X pins σ Q) X.xe s
noncomputable def CallR (X : Cx) (f : Value) (r : List V → Hp → VK → Prop) : Prop :=
  ∀ (pins : List (Addr × Obj)) (s : Shared) (σ : St) (H : Hp) (xs : List V) (us : List Value) (Q : VK), Inv X pins σ H s → Vals xs us → r xs H Q →
    wpAny (model X.prog X.w) X.A (call f us) (EP X pins σ Q) X.xe s
noncomputable def tOp (r : R2) (ta tb : TE) : TE := fun σ H Q => ta σ H fun x H1 => tb σ H1 fun y H2 => r x y H2 Q
noncomputable def tUn (r : V → Hp → VK → Prop) (ta : TE) : TE := fun σ H Q => ta σ H fun x H1 => r x H1 Q
noncomputable def rI (C : Int → Int → Prop) (g : Int → Int → V) : R2 := fun x y H Q => ∃ i j, x = .int i ∧ y = .int j ∧ C i j ∧ Q (g i j) H
noncomputable def rI0 (g : Int → Int → V) : R2 := fun x y H Q => ∃ i j, x = .int i ∧ y = .int j ∧ Q (g i j) H
noncomputable def rU (g : Int → V) : V → Hp → VK → Prop := fun x H Q => ∃ i, x = .int i ∧ Q (g i) H
section
variable {X : Cx} {a b c : Expr} {ta tb tc : TE} {pos : Pos}
theorem binT (ha : PE X a ta) (hb : PE X b tb) {pins : List (Addr × Obj)} {s : Shared} {σ : St} {H : Hp} {R : V → V → Hp → Prop} (I : Inv X pins σ H s)
    (h : ta σ H fun x H1 => tb σ H1 fun y H2 => R x y H2) {Q : Value → Shared → Prop} {f : Value → Value → Sem Value}
    (hf : ∀ v u s2 x y H2, Inv X pins σ H2 s2 → RelV x v → RelV y u → R x y H2 → wpAny (model X.prog X.w) X.A (f v u) Q X.xe s2) :
    wpAny (model X.prog X.w) X.A (eval a X.env) (fun v s₁ => wpAny (model X.prog X.w) X.A (eval b X.env) (fun u s₂ => wpAny (model X.prog X.w) X.A (f v u) Q X.xe s₂) X.xe s₁) X.xe s := by
  refine thn (ha pins s σ H _ I h) fun v s1 zzq => ?_
  refine Classical.byContradiction fun hnzq => ?_; obtain ⟨x, H1, I1, r1, q1⟩ := zzq; refine hnzq ?_; clear hnzq
  refine thn (hb pins s1 σ H1 _ I1 q1) fun u s2 zzq => ?_
  refine Classical.byContradiction fun hnzq => ?_; obtain ⟨y, H2, I2, r2, q2⟩ := zzq; refine hnzq ?_; clear hnzq
  exact hf v u s2 x y H2 I2 r1 r2 q2
theorem pe_op {op : Operator} {r : R2} (ho : OpR X (binaryOp op) r) (ha : PE X a ta) (hb : PE X b tb) : PE X (.BinOp a op b pos) (tOp r ta tb) := by
  intro pins s σ H Q I h
  exact wpAny_BinOp (binT ha hb I h fun v u s2 x y H2 I2 rx ry q => ho pins s2 σ H2 x y v u Q I2 rx ry q)
theorem pe_un {op : UnaryOp} {r : V → Hp → VK → Prop} (ho : UnR X (unaryOp op) r) (ha : PE X a ta) : PE X (.UnaryOp op a pos) (tUn r ta) := by
  intro pins s σ H Q I h
  exact UnaryOp_ (thn (ha pins s σ H _ I h) fun v s1 ⟨x, H1, I1, r1, q1⟩ => ho pins s1 σ H1 x v Q I1 r1 q1)
theorem opI {f : Value → Value → Sem Value} {C : Int → Int → Prop} {g : Int → Int → Int}
    (rule : ∀ (i j : Int) (t u : Tok) (s : Shared) (Q : Value → Shared → Prop) (E : Value → Shared → Prop), C i j → Q (.int (g i j) s.toks) { s with toks := s.toks + 1 } → wpAny (model X.prog X.w) X.A (f (.int i t) (.int j u)) Q E s) :
    OpR X f (rI C fun i j => .int (g i j)) := by
  intro pins s σ H x y v u Q I rx ry h
  refine Classical.byContradiction fun hnzq => ?_; obtain ⟨i, j, rfl, rfl, hc, q⟩ := h
  refine hnzq ?_; clear hnzq
  obtain ⟨t, rfl⟩ := rx
  obtain ⟨t', rfl⟩ := ry
  exact rule i j t t' s _ _ hc ⟨.int (g i j), H, I.tok _, ⟨_, rfl⟩, q⟩
theorem opI0 {f : Value → Value → Sem Value} {g : Int → Int → Int}
    (rule : ∀ (i j : Int) (t u : Tok) (s : Shared) (Q : Value → Shared → Prop) (E : Value → Shared → Prop), Q (.int (g i j) s.toks) { s with toks := s.toks + 1 } → wpAny (model X.prog X.w) X.A (f (.int i t) (.int j u)) Q E s) :
    OpR X f (rI0 fun i j => .int (g i j)) := by
  intro pins s σ H x y v u Q I rx ry h
  refine Classical.byContradiction fun hnzq => ?_; obtain ⟨i, j, rfl, rfl, q⟩ := h
  refine hnzq ?_; clear hnzq
  obtain ⟨t, rfl⟩ := rx
  obtain ⟨t', rfl⟩ := ry
  exact rule i j t t' s _ _ ⟨.int (g i j), H, I.tok _, ⟨_, rfl⟩, q⟩
theorem opB0 {f : Value → Value → Sem Value} {g : Int → Int → Bool}
    (rule : ∀ (i j : Int) (t u : Tok) (s : Shared) (Q : Value → Shared → Prop) (E : Value → Shared → Prop), Q (.bool (g i j)) s → wpAny (model X.prog X.w) X.A (f (.int i t) (.int j u)) Q E s) :
    OpR X f (rI0 fun i j => .bl (g i j)) := by
  intro pins s σ H x y v u Q I rx ry h
  refine Classical.byContradiction fun hnzq => ?_; obtain ⟨i, j, rfl, rfl, q⟩ := h
  refine hnzq ?_; clear hnzq
  obtain ⟨t, rfl⟩ := rx
  obtain ⟨t', rfl⟩ := ry
  exact rule i j t t' s _ _ ⟨.bl (g i j), H, I, rfl, q⟩
noncomputable def CDiv (i j : Int) : Prop := 0 < j ∧ j < 1073741824
noncomputable def CPow (i j : Int) : Prop := 0 ≤ j ∧ j ≤ 1000000 ∧ i.natAbs < 2 ^ 64
noncomputable def CMul (i j : Int) : Prop := (-(2 ^ 64) < i ∧ i < 2 ^ 64) ∨ (-(2 ^ 64) < j ∧ j < 2 ^ 64)
theorem CMul.ok {i j : Int} (h : CMul i j) : IntMulOk i j := by
  rcases h with ⟨h1, h2⟩ | ⟨h1, h2⟩
  · exact .of_left (intBits_le_64 h1 h2)
  · exact .of_right (intBits_le_64 h1 h2)
theorem op_add : OpR X (binaryOp .Add) (rI0 fun i j => .int (i + j)) := opI0 fun _ _ _ _ _ _ _ q => add_int q
theorem op_sub : OpR X (binaryOp .Sub) (rI0 fun i j => .int (i - j)) := opI0 fun _ _ _ _ _ _ _ q => sub_int q
theorem op_mul : OpR X (binaryOp .Mult) (rI CMul fun i j => .int (i * j)) := opI fun _ _ _ _ _ _ _ hc q => mul_int q hc.ok
theorem op_fdiv : OpR X (binaryOp .FloorDiv) (rI CDiv fun i j => .int (i / j)) := opI fun i j _ _ _ _ _ hc q => by
  have h1 : (0 : Int) < j := hc.1
  have h2 : j < 1073741824 := hc.2
  exact floordiv_int (by (exact Int.ne_of_gt (by assumption))) (by rw [Int.fdiv_eq_ediv_of_nonneg i (by (exact Int.le_of_lt (by assumption)))]; exact q) (.inl (PyProof.noPylong_small (by omega)))
theorem op_mod : OpR X (binaryOp .Mod) (rI (fun _ j => 0 < j) fun i j => .int (i % j)) := opI fun i j _ _ _ _ _ hc q => by
  have h1 : (0 : Int) < j := hc
  exact mod_int' (by (exact Int.ne_of_gt (by assumption))) (by rw [Int.fmod_eq_emod_of_nonneg i (by (exact Int.le_of_lt (by assumption)))]; exact q)
theorem op_pow : OpR X (binaryOp .Pow) (rI CPow fun i j => .int (i ^ j.toNat)) := opI fun _ _ _ _ _ _ _ hc q => pow_int_small hc.1 hc.2.1 hc.2.2 q
theorem unI {f : Value → Sem Value} {g : Int → Int}
    (rule : ∀ (i : Int) (t : Tok) (s : Shared) (Q : Value → Shared → Prop) (E : Value → Shared → Prop), Q (.int (g i) s.toks) { s with toks := s.toks + 1 } → wpAny (model X.prog X.w) X.A (f (.int i t)) Q E s) :
    UnR X f (rU fun i => .int (g i)) := by
  intro pins s σ H x v Q I rx h
  refine Classical.byContradiction fun hnzq => ?_; obtain ⟨i, rfl, q⟩ := h
  refine hnzq ?_; clear hnzq
  obtain ⟨t, rfl⟩ := rx
  exact rule i t s _ _ ⟨.int (g i), H, I.tok _, ⟨_, rfl⟩, q⟩
theorem un_neg : UnR X (unaryOp .USub) (rU fun i => .int (-i)) := unI fun _ _ _ _ _ q => neg_int q
end
noncomputable def scal : V → V → Bool
  | .non, .non => true | .non, .int _ => true | .int _, .non => true | .non, .bl _ => true | .bl _, .non => true | .non, .str _ => true | .str _, .non => true
  | .int _, .int _ => true | .bl _, .bl _ => true | .str _, .str _ => true | .byt _, .byt _ => true
  | .int _, .str _ => true | .str _, .int _ => true | .bl _, .str _ => true | .str _, .bl _ => true
  | _, _ => false
noncomputable def rEq : R2 := fun x y H Q => scal x y = true ∧ Q (.bl (decide (x = y))) H
noncomputable def rNe : R2 := fun x y H Q => scal x y = true ∧ Q (.bl (!decide (x = y))) H
theorem dec_int {i j : Int} : decide (V.int i = V.int j) = (i == j) := by
  rw [Bool.eq_iff_iff]
  simp
theorem dec_bl {i j : Bool} : decide (V.bl i = V.bl j) = (i == j) := by
  rw [Bool.eq_iff_iff]
  simp
theorem dec_str {i j : Str} : decide (V.str i = V.str j) = (i == j) := by
  rw [Bool.eq_iff_iff]
  simp
theorem dec_byt {i j : Array UInt8} : decide (V.byt i = V.byt j) = (i.toList == j.toList) := by
  rw [Bool.eq_iff_iff]
  cases i
  cases j
  simp
section
variable {X : Cx} {a b c : Expr} {ta tb tc : TE} {pos : Pos}
theorem fin_bl {pins : List (Addr × Obj)} {σ : St} {H : Hp} {s : Shared} {Q : VK} {k k' : Bool} (I : Inv X pins σ H s) (q : Q (.bl k) H) (e : k = k') : EP X pins σ Q (.bool k') s := by
  subst e
  exact ⟨.bl k, H, I, rfl, q⟩
theorem op_eq : OpR X (compareOp .Eq) rEq := by
  intro pins s σ H x y v u Q I rx ry h
  obtain ⟨hs, q⟩ := h
  cases x with
  | non =>
    cases rx
    cases y with
    | non => cases ry; exact PySem.EqNone.eq_none_none (fin_bl I q (by simp))
    | bl j => cases ry; exact PySem.EqNone.eq_none_bool (fin_bl I q (by simp))
    | int j => obtain ⟨t', rfl⟩ := ry; exact PySem.EqNone.eq_none_int (fin_bl I q (by simp))
    | str j => obtain ⟨t', rfl⟩ := ry; exact PySem.EqNone.eq_none_str (fin_bl I q (by simp))
    | _ => exact absurd (show false = true from hs) Bool.false_ne_true
  | bl i =>
    cases rx
    cases y with
    | non => cases ry; exact PySem.EqNone.eq_bool_none (fin_bl I q (by simp))
    | bl j => cases ry; exact eq_bool (fin_bl I q dec_bl)
    | str j => obtain ⟨t', rfl⟩ := ry; exact PySem.EqMixed.eq_bool_str (fin_bl I q (by simp))
    | _ => exact absurd (show false = true from hs) Bool.false_ne_true
  | int i =>
    obtain ⟨t, rfl⟩ := rx
    cases y with
    | non => cases ry; exact PySem.EqNone.eq_int_none (fin_bl I q (by simp))
    | int j => obtain ⟨t', rfl⟩ := ry; exact eq_int (fin_bl I q dec_int)
    | str j => obtain ⟨t', rfl⟩ := ry; exact PySem.EqMixed.eq_int_str (fin_bl I q (by simp))
    | _ => exact absurd (show false = true from hs) Bool.false_ne_true
  | str i =>
    obtain ⟨t, rfl⟩ := rx
    cases y with
    | non => cases ry; exact PySem.EqNone.eq_str_none (fin_bl I q (by simp))
    | bl j => cases ry; exact PySem.EqMixed.eq_str_bool (fin_bl I q (by simp))
    | int j => obtain ⟨t', rfl⟩ := ry; exact PySem.EqMixed.eq_str_int (fin_bl I q (by simp))
    | str j => obtain ⟨t', rfl⟩ := ry; exact eq_str (fin_bl I q dec_str)
    | _ => exact absurd (show false = true from hs) Bool.false_ne_true
  | byt i =>
    obtain ⟨t, rfl⟩ := rx
    cases y with
    | byt j => obtain ⟨t', rfl⟩ := ry; exact PySem.W.eq_bytes (fin_bl I q dec_byt)
    | _ => exact absurd (show false = true from hs) Bool.false_ne_true
  | _ => cases y <;> exact absurd (show false = true from hs) Bool.false_ne_true
theorem op_ne : OpR X (compareOp .NotEq) rNe := by
  intro pins s σ H x y v u Q I rx ry h
  obtain ⟨hs, q⟩ := h
  cases x with
  | non =>
    cases rx
    cases y with
    | non => cases ry; exact PySem.EqNone.ne_none_none (fin_bl I q (by simp))
    | bl j => cases ry; exact PySem.EqNone.ne_none_bool (fin_bl I q (by simp))
    | int j => obtain ⟨t', rfl⟩ := ry; exact PySem.EqNone.ne_none_int (fin_bl I q (by simp))
    | str j => obtain ⟨t', rfl⟩ := ry; exact PySem.EqNone.ne_none_str (fin_bl I q (by simp))
    | _ => exact absurd (show false = true from hs) Bool.false_ne_true
  | bl i =>
    cases rx
    cases y with
    | non => cases ry; exact PySem.EqNone.ne_bool_none (fin_bl I q (by simp))
    | bl j => cases ry; exact ne_bool (fin_bl I q (congrArg not dec_bl))
    | str j => obtain ⟨t', rfl⟩ := ry; exact PySem.EqMixed.ne_bool_str (fin_bl I q (by simp))
    | _ => exact absurd (show false = true from hs) Bool.false_ne_true
  | int i =>
    obtain ⟨t, rfl⟩ := rx
    cases y with
    | non => cases ry; exact PySem.EqNone.ne_int_none (fin_bl I q (by simp))
    | int j => obtain ⟨t', rfl⟩ := ry; exact ne_int (fin_bl I q (congrArg not dec_int))
    | str j => obtain ⟨t', rfl⟩ := ry; exact PySem.EqMixed.ne_int_str (fin_bl I q (by simp))
    | _ => exact absurd (show false = true from hs) Bool.false_ne_true
  | str i =>
    obtain ⟨t, rfl⟩ := rx
    cases y with
    | non => cases ry; exact PySem.EqNone.ne_str_none (fin_bl I q (by simp))
    | bl j => cases ry; exact PySem.EqMixed.ne_str_bool (fin_bl I q (by simp))
    | int j => obtain ⟨t', rfl⟩ := ry; exact PySem.EqMixed.ne_str_int (fin_bl I q (by simp))
    | str j => obtain ⟨t', rfl⟩ := ry; exact ne_str (fin_bl I q (congrArg not dec_str))
    | _ => exact absurd (show false = true from hs) Bool.false_ne_true
  | byt i =>
    obtain ⟨t, rfl⟩ := rx
    cases y with
    | byt j => obtain ⟨t', rfl⟩ := ry; exact PySem.W.ne_bytes (fin_bl I q (congrArg not dec_byt))
    | _ => exact absurd (show false = true from hs) Bool.false_ne_true
  | _ => cases y <;> exact absurd (show false = true from hs) Bool.false_ne_true
theorem op_lt : OpR X (compareOp .Lt) (rI0 fun i j => .bl (decide (i < j))) := opB0 fun _ _ _ _ _ _ _ q => lt_int q
theorem op_le : OpR X (compareOp .LtE) (rI0 fun i j => .bl (decide (i ≤ j))) := opB0 fun _ _ _ _ _ _ _ q => le_int q
theorem op_gt : OpR X (compareOp .Gt) (rI0 fun i j => .bl (decide (j < i))) := opB0 fun _ _ _ _ _ _ _ q => gt_int q
theorem op_in_str : OpR X (compareOp .In) (fun x y H Q => ∃ i j, x = .str i ∧ y = .str j ∧ Q (.bl (!(Builtin.Str.occurrences j i 0 j.length 1).isEmpty)) H) := by
  intro pins s σ H x y v u Q I rx ry h
  refine Classical.byContradiction fun hnzq => ?_; obtain ⟨i, j, rfl, rfl, q⟩ := h
  refine hnzq ?_; clear hnzq
  obtain ⟨t, rfl⟩ := rx
  obtain ⟨t', rfl⟩ := ry
  exact in_str (fin_bl I q rfl)
theorem op_isN : OpR X (compareOp .Is) (fun x y H Q => y = .non ∧ Q (.bl (decide (x = .non))) H) := by
  intro pins s σ H x y v u Q I rx ry h
  obtain ⟨rfl, q⟩ := h
  cases ry
  refine is_none_gen (fin_bl I q ?_)
  cases x <;> first
    | (cases rx; rfl)
    | (obtain ⟨t, rfl⟩ := rx; rfl)
theorem nomark (b : Expr) {op : CmpOp} (h : op ≠ .In := by decide) (h2 : op ≠ .NotIn := by decide) : behindInMarks op b = false := by
  have e1 : (op == CmpOp.In) = false := by cases op <;> first | rfl | exact absurd rfl h
  have e2 : (op == CmpOp.NotIn) = false := by cases op <;> first | rfl | exact absurd rfl h2
  cases b <;> simp [behindInMarks, e1, e2]
theorem pe_cmpR {op : CmpOp} {r : R2} (ho : OpR X (compareOp op) r) (ha : PE X a ta) (hb : PE X b tb) (hm : behindInMarks op b = false) : PE X (.Compare a [op] [b] pos) (tOp r ta tb) := by
  intro pins s σ H Q I h
  exact wpAny_Compare1 (binT ha hb I h fun v u s2 x y H2 I2 rx ry q => ho pins s2 σ H2 x y v u Q I2 rx ry q) hm
set_option genInjectivity false in
set_option genSizeOf false in
set_option genSizeOfSpec false in
set_option genInjectivity false in
set_option genSizeOf false in
set_option genSizeOfSpec false in
noncomputable def tTest (t : TE) : TT := fun σ H Q => t σ H fun x H' => ∃ k, x = .bl k ∧ Q k H'
theorem pt_cmpR {op : CmpOp} {r : R2} (ho : OpR X (compareOp op) r) (ha : PE X a ta) (hb : PE X b tb) (hm : behindInMarks op b = false) : PT X (.Compare a [op] [b] pos) (tTest (tOp r ta tb)) := by
  intro pins s σ H Q I h
  refine wpAny_isTrue_Compare1 (thn (ha pins s σ H _ I h) fun v s1 ⟨x, H1, I1, r1, q1⟩ => thn (hb pins s1 σ H1 _ I1 q1) fun u s2 ⟨y, H2, I2, r2, q2⟩ =>
    thn (ho pins s2 σ H2 x y v u _ I2 r1 r2 q2) fun c s3 ⟨z, H3, I3, r3, k, e, q3⟩ => ?_) hm
  subst e
  cases r3
  exact wpAny_truthy_bool ⟨H3, I3, q3⟩
theorem line63 : (sizeLine : Nat) < 2 ^ 63 := by rw [sizeLine_eq]; decide
theorem op_add_str : OpR X (binaryOp .Add) (fun x y H Q => ∃ i j, x = .str i ∧ y = .str j ∧ i.length + j.length ≤ sizeLine ∧ Q (.str (i ++ j)) H) := by
  intro pins s σ H x y v u Q I rx ry h
  refine Classical.byContradiction fun hnzq => ?_; obtain ⟨i, j, rfl, rfl, hz, q⟩ := h
  refine hnzq ?_; clear hnzq
  obtain ⟨t, rfl⟩ := rx
  obtain ⟨t', rfl⟩ := ry
  exact add_str (fun t' tk => ⟨.str (i ++ j), H, I.tok _, ⟨_, rfl⟩, q⟩) hz
theorem vals1 {x : V} {us : List Value} (r : Vals [x] us) : ∃ u, us = [u] ∧ RelV x u := by
  cases r with
  | cons r1 r2 => cases r2; exact ⟨_, rfl, r1⟩
theorem vals2 {x y : V} {us : List Value} (r : Vals [x, y] us) : ∃ u w', us = [u, w'] ∧ RelV x u ∧ RelV y w' := by
  cases r with
  | cons r1 r2 =>
    cases r2 with
    | cons r3 r4 => cases r4; exact ⟨_, _, rfl, r1, r3⟩
theorem call_min2 (hc : X.calm = true) : CallR X (.builtin "min") (fun xs H Q => ∃ i j, xs = [.int i, .int j] ∧ Q (.int (if j < i then j else i)) H) := by
  intro pins s σ H xs us Q I r h
  refine Classical.byContradiction fun hnzq => ?_; obtain ⟨i, j, rfl, q⟩ := h
  refine hnzq ?_; clear hnzq
  refine Classical.byContradiction fun hnzq => ?_; obtain ⟨u, w', rfl, ⟨t, rfl⟩, ⟨t', rfl⟩⟩ := vals2 r
  refine hnzq ?_; clear hnzq
  refine min_two_ints (I.ok.hd hc) fun h' tk k => ⟨_, H, I.kept k, ?_, q⟩
  by_cases hj : j < i
  · rw [if_pos hj, if_pos hj]; exact ⟨_, rfl⟩
  · rw [if_neg hj, if_neg hj]; exact ⟨_, rfl⟩
theorem call_str_int : CallR X (.type "str") (fun xs H Q => ∃ i, xs = [.int i] ∧ i.natAbs.log2 < 1920 ∧ Q (.str (toString i)) H) := by
  intro pins s σ H xs us Q I r h
  refine Classical.byContradiction fun hnzq => ?_; obtain ⟨i, rfl, hz, q⟩ := h
  refine hnzq ?_; clear hnzq
  refine Classical.byContradiction fun hnzq => ?_; obtain ⟨u, rfl, t, rfl⟩ := vals1 r
  refine hnzq ?_; clear hnzq
  exact PySem.P.str_of_int hz ⟨.str _, H, I.tok _, ⟨_, rfl⟩, q⟩
end
end L2
namespace L2
open PySem PySem.Spec PyProof.Rows
structure ObjM (h : Heap) (x dx C : Addr) (mA : Str → Option Value) : Prop where
  obj : h.get? x = some (PySem.W.instObj C dx)
  ns : h.Ns1 dx mA
  ne : dx ≠ x
theorem lookIn_ns {h : Heap} {dx : Addr} {mA : Str → Option Value} (n : h.Ns1 dx mA) : ∃ od, h.get? dx = some od ∧ ∀ name, PySem.W.lookIn name od = some (mA name) := by
  refine Classical.byContradiction fun hnzq => ?_; obtain ⟨o, es, ep, ho, hd, hk, _, hm⟩ := n
  refine hnzq ?_; clear hnzq
  refine ⟨o, ho, fun name => ?_⟩
  have e := hm name
  unfold nsFind findBy at e
  rw [← Array.find?_toList] at e
  unfold PySem.W.lookIn
  rw [hd]
  dsimp only
  split
  · rename_i y q
    rw [q] at e
    exact congrArg some e
  · rename_i q
    rw [q] at e
    have a : es.toList.any (·.refKey) = false := by
      rw [List.any_eq_false]
      intro y hy
      refine Classical.byContradiction fun hnzq => ?_; obtain ⟨z, t, hkey⟩ := hk y (Array.mem_toList_iff.mp hy)
      refine hnzq ?_; clear hnzq
      simp [DictEntry.refKey, hkey]
    have a' : ¬ es.toList.any (·.refKey) = true := by rw [a]; exact Bool.false_ne_true
    rw [if_neg a']
    exact congrArg some e
theorem ObjM.look {h : Heap} {x dx C : Addr} {mA : Str → Option Value} (I : ObjM h x dx C mA) : ∃ od, PySem.W.InstAt h x (PySem.W.instObj C dx) C (some od) ∧ ∀ name, PySem.W.lookIn name od = some (mA name) :=
  let ⟨od, ho, hl⟩ := lookIn_ns I.ns
  ⟨od, ⟨I.obj, rfl, rfl, ho⟩, hl⟩
section
variable {prog : Program} {w : World} {A : Around} {E : Value → Shared → Prop} {s : Shared} {K : PySem.W.Frag} {x dx C f : Addr} {mA : Str → Option Value} {name : Str} {v : Value}
end
theorem RelO.some_of {v : V} {o : Option Value} (r : RelO (some v) o) : ∃ u, o = some u ∧ RelV v u := by
  cases o with
  | none => exact (show False from r).elim
  | some u => exact ⟨u, rfl, r⟩
section
variable {P : Program} {w : World} {H H' : Hp} {h h' : Heap} {a C dx : Addr} {fs fs' : List (Str × V)}
theorem ins_get (hok : HOk P w H h) (e : H a = some (.ins C dx fs)) : ∃ mA, ObjM h a dx C mA ∧ (∀ f, RelO (fs.lookup f) (mA f)) ∧ PySem.Within mA (fs.map (·.1)) ∧ fs.length ≤ 1000 ∧ H dx = some (.own a) := by
  refine Classical.byContradiction fun hnzq => ?_; obtain ⟨d, z, ne, ob, mA, n, r, q⟩ := (show ObjOk P w H h a (.ins C dx fs) from hok a _ e)
  refine hnzq ?_; clear hnzq
  exact ⟨mA, ⟨ob, n, ne⟩, r, q, z, d⟩
end
structure Cls (K : PySem.W.Frag) (C : Addr) : Prop where
  pg : PySem.W.plainGet K C Str.empty = true
  hd : PySem.W.hasDictIn K C = true
  po : PySem.W.plainOver K C = true
  sa : PySem.W.findIn K (.ref C) "__setattr__" = some (some (.builtin "object.__setattr__"))
theorem Cls.get {K : PySem.W.Frag} {C : Addr} (c : Cls K C) (f : Str) : PySem.W.plainGet K C f = true := c.pg
section
variable {X : Cx} {pins : List (Addr × Obj)} {σ : St} {H : Hp} {s : Shared} {a C dx : Addr} {fs : List (Str × V)} {f : Str} {v : V} {A : Around} {E : Value → Shared → Prop}
end
section
variable {X : Cx} {o e value : Expr} {f : Str} {pos pos' tpos : Pos} {ta tv : TE}
end
section
variable {X : Cx} {pins : List (Addr × Obj)} {σ : St} {H : Hp} {s : Shared} {A : Around} {E : Value → Shared → Prop} {Q : Value → Shared → Prop} {c : Value} {b : Bool}
inductive TyOf (K : PySem.W.Frag) (H : Hp) : V → Value → Prop where
  | non : TyOf K H .non (.type "NoneType")
  | bl (x : Bool) : TyOf K H (.bl x) (.type "bool")
  | int (i : Int) : TyOf K H (.int i) (.type "int")
  | str (x : Str) : TyOf K H (.str x) (.type "str")
  | flt (x : UInt64) : TyOf K H (.flt x) (.type "float")
  | lst {a : Addr} {xs : List V} (e : H a = some (.lst xs)) : TyOf K H (.ref a) (.type "list")
  | frz {a : Addr} {o : Obj} {xs : List V} (e : H a = some (.frz o (.lst xs))) : TyOf K H (.ref a) (.type "list")
  | tup {a : Addr} {xs : List V} (e : H a = some (.tup xs)) : TyOf K H (.ref a) (.type "tuple")
  | dK {a : Addr} {kvs : List (Key × V)} (e : H a = some (.dK kvs)) : TyOf K H (.ref a) (.type "dict")
  | dT {a : Addr} {kvs : List (List Key × V)} (e : H a = some (.dT kvs)) : TyOf K H (.ref a) (.type "dict")
  | ins {a C dx : Addr} {fs : List (Str × V)} (e : H a = some (.ins C dx fs)) (cl : Cls K C) (ha : PySem.W.findIn K (.ref C) "__class__" = some (some (.builtin "object.__class__")))
      (hn : PySem.W.specialIn K (.builtin "object.__class__") "__get__" = some (some (.builtin "getset_descriptor.__get__"))) (htk : PySem.W.takesIn K (.builtin "object.__class__") = some true)
      (hm : PySem.W.mroIn K C (.type "object") = some true) : TyOf K H (.ref a) (.ref C)
set_option genInjectivity false in
set_option genSizeOf false in
set_option genSizeOfSpec false in
theorem isinst_ok {x : V} {u t : Value} (I : Inv X pins σ H s) (rx : RelV x u) (ty : TyOf X.K H x t) (e : PySem.W.kitOne X.K t c = some b) (h : ∀ tk, Q (.bool b) { s with toks := tk }) :
    wpAny (model X.prog X.w) A (call (.builtin "isinstance") [u, c]) Q E s := by
  cases ty with
  | non => cases (show u = Value.none from rx); exact PySem.W.kia_one PySem.W.kitx_none I.kIn True.intro e (fun z => nomatch z) h
  | bl y => cases (show u = Value.bool y from rx); exact PySem.W.kia_one PySem.W.kitx_bool I.kIn True.intro e (fun z => nomatch z) h
  | int i => obtain ⟨t, q⟩ := (show ∃ t, u = Value.int i t from rx); cases q; exact PySem.W.kia_one PySem.W.kitx_int I.kIn True.intro e (fun z => nomatch z) h
  | str y => obtain ⟨t, q⟩ := (show ∃ t, u = Value.str y t from rx); cases q; exact PySem.W.kia_one PySem.W.kitx_str I.kIn True.intro e (fun z => nomatch z) h
  | flt y => obtain ⟨t, q⟩ := (show ∃ t, u = Value.float y t from rx); cases q; exact PySem.W.kia_one PySem.W.kitx_float I.kIn True.intro e (fun z => nomatch z) h
  | @lst a xs ea =>
    cases (show u = Value.ref a from rx)
    refine Classical.byContradiction fun hnzq => ?_; obtain ⟨_, _, n, _, h1⟩ := (show ObjOk X.prog X.w H s.heap a (.lst xs) from I.hok a _ ea)
    refine hnzq ?_; clear hnzq
    exact PySem.W.kia_one PySem.W.kitx_list I.kIn ⟨_, h1, rfl⟩ e (fun z => nomatch z) h
  | @frz a ob xs ea =>
    cases (show u = Value.ref a from rx)
    refine Classical.byContradiction fun hnzq => ?_; obtain ⟨_, _, _, n, _, h1⟩ := (show ObjOk X.prog X.w H s.heap a (.frz ob (.lst xs)) from I.hok a _ ea)
    refine hnzq ?_; clear hnzq
    exact PySem.W.kia_one PySem.W.kitx_list I.kIn ⟨_, h1, rfl⟩ e (fun z => nomatch z) h
  | @tup a xs ea =>
    cases (show u = Value.ref a from rx)
    refine Classical.byContradiction fun hnzq => ?_; obtain ⟨_, _, _, p⟩ := (show ObjOk X.prog X.w H s.heap a (.tup xs) from I.hok a _ ea)
    refine hnzq ?_; clear hnzq
    refine Classical.byContradiction fun hnzq => ?_; obtain ⟨o, h1, h2, _⟩ := p
    refine hnzq ?_; clear hnzq
    exact PySem.W.kia_one PySem.W.kitx_tuple I.kIn ⟨o, h1, h2⟩ e (fun z => nomatch z) h
  | @dK a kvs ea =>
    cases (show u = Value.ref a from rx)
    refine Classical.byContradiction fun hnzq => ?_; obtain ⟨_, _, vs, _, p⟩ := (show ObjOk X.prog X.w H s.heap a (.dK kvs) from I.hok a _ ea)
    refine hnzq ?_; clear hnzq
    refine Classical.byContradiction fun hnzq => ?_; obtain ⟨o, es, ep, h1, h2, _⟩ := p
    refine hnzq ?_; clear hnzq
    exact PySem.W.kia_one PySem.W.kitx_dict I.kIn ⟨o, h1, h2.1⟩ e (fun z => nomatch z) h
  | @dT a kvs ea =>
    cases (show u = Value.ref a from rx)
    refine Classical.byContradiction fun hnzq => ?_; obtain ⟨_, _, xs, _, o, es, ep, h1, h2, _⟩ := (show ObjOk X.prog X.w H s.heap a (.dT kvs) from I.hok a _ ea)
    refine hnzq ?_; clear hnzq
    exact PySem.W.kia_one PySem.W.kitx_dict I.kIn ⟨o, h1, h2.1⟩ e (fun z => nomatch z) h
  | @ins a C dx fs ea cl ha hn htk hm =>
    cases (show u = Value.ref a from rx)
    refine Classical.byContradiction fun hnzq => ?_; obtain ⟨mA, O, _⟩ := ins_get I.hok ea
    refine hnzq ?_; clear hnzq
    refine Classical.byContradiction fun hnzq => ?_; obtain ⟨od, J, _⟩ := O.look
    refine hnzq ?_; clear hnzq
    exact PySem.W.kia_one (PySem.W.kitx_own (cl.get _) cl.hd ha hn htk hm) I.kIn J e (fun z => nomatch z) h
end
end L2
namespace L2
open PySem PySem.Spec PyProof.Rows
structure Room (k : Nat) (A : Around) : Prop where
  hd : A.handled = none
  dp : A.depth + 3 * k + 5 < recursionLimit
  un : A.units + 16 * k + 200 < cLine
theorem Room.mono {j k : Nat} {A : Around} (r : Room k A) (h : j ≤ k) : Room j A := ⟨r.hd, by have := r.dp; lia, by have := r.un; lia⟩
theorem Room.deeper {k : Nat} {A : Around} (r : Room (k + 1) A) (env : Env) : Room k (A.deeper env) :=
  ⟨r.hd, by have := r.dp; show A.depth + 1 + 3 * k + 5 < _; lia, by have := r.un; show A.units + 3 + 16 * k + 200 < _; lia⟩
theorem Room.depth {k : Nat} {A : Around} (r : Room k A) : A.depth < recursionLimit := by have := r.dp; lia
theorem Room.units {k : Nat} {A : Around} (r : Room k A) : A.units + 64 < cLine := by have := r.un; lia
theorem Room.units0 {k : Nat} {A : Around} (r : Room k A) : A.units < cLine := by have := r.un; lia
noncomputable def tNil : TA := fun _ H Q => Q [] H
noncomputable def tCons (ta : TE) (tr : TA) : TA := fun σ H Q => ta σ H fun x H1 => tr σ H1 fun xs H2 => Q (x :: xs) H2
section
variable {X : Cx} {e : Expr} {es : List Expr} {te : TE} {t : TA} {pos : Pos}
theorem pa_nil : PA X [] tNil := fun _ _ _ _ H Q I h => Calls.spliced_nil ⟨[], H, I, .nil, h⟩
theorem pa_cons (ha : PE X e te) (hr : PA X es t) (hs : starEach (e :: es) X.env = (false, eval e X.env) :: starEach es X.env := by rfl) : PA X (e :: es) (tCons te t) := by
  intro pos pins s σ H Q I h
  rw [hs]
  show wpAny _ _ (spliced ((false, eval e X.env) :: backTo pos (starEach es X.env))) _ _ s
  refine Calls.spliced_cons (thn (ha pins s σ H _ I h) fun u s1 zzq => ?_)
  refine Classical.byContradiction fun hnzq => ?_; obtain ⟨x, H1, I1, r1, q1⟩ := zzq; refine hnzq ?_; clear hnzq
  exact thn (hr pos pins s1 σ H1 _ I1 q1) fun us s2 ⟨xs, H2, I2, r2, q2⟩ => ⟨x :: xs, H2, I2, .cons r1 r2, q2⟩
noncomputable def tTup (t : TA) : TE := fun σ H Q => t σ H fun xs H1 => xs.length ≤ sizeLine ∧ ∀ p, H1 p = none → Q (.ref p) (upd H1 p (.tup xs))
noncomputable def tLst (t : TA) : TE := fun σ H Q => t σ H fun xs H1 => xs.length ≤ sizeLine ∧ ∀ p, H1 p = none → Q (.ref p) (upd H1 p (.lst xs))
theorem pe_tup {x1} (h : PA X es t) : PE X (.Tuple es x1 pos) (tTup t) := by
  intro pins s σ H Q I hq
  refine wpAny_Tuple_spliced (thn (h pos pins s σ H _ I hq) fun us s1 ⟨xs, H1, I1, r, z, q⟩ => ⟨by rw [← r.length]; exact z, ?_⟩)
  have hf : H1 s1.heap.objs.size = none := I1.hok.fresh (Nat.le_refl _)
  refine ⟨.ref s1.heap.objs.size, upd H1 s1.heap.objs.size (.tup xs), I1.laid (t' := s1.toks) (fun b u e => Heap.get?_push_of_some _ e) (Nat.le_refl _) ?_, rfl, q _ hf⟩
  exact ⟨z, us, r, ⟨_, Heap.get?_push_size _ rfl, rfl, _, rfl⟩⟩
theorem pe_lst (h : PA X es t) : PE X (.List es pos) (tLst t) := by
  intro pins s σ H Q I hq
  refine wpAny_List_spliced (thn (h pos pins s σ H _ I hq) fun us s1 ⟨xs, H1, I1, r, z, q⟩ => ⟨by rw [← r.length]; exact z, ?_⟩)
  have hf : H1 s1.heap.objs.size = none := I1.hok.fresh (Nat.le_refl _)
  refine ⟨.ref s1.heap.objs.size, upd H1 s1.heap.objs.size (.lst xs), I1.laid (t' := s1.toks) (fun b u e => Heap.get?_push_of_some _ e) (Nat.le_refl _) ?_, rfl, q _ hf⟩
  exact ⟨z, us, 0, r, Heap.get?_push_size _ rfl⟩
end
noncomputable abbrev Sp := List V → Hp → VK → XK → Prop
noncomputable abbrev CXT := List Env → Hp → Shared → XK → Value → Shared → Prop
set_option genInjectivity false in
set_option genSizeOf false in
set_option genSizeOfSpec false in
structure Env0 (P : Program) (w : World) (K : PySem.W.Frag) (mg : Str → Option Value) (base : Heap) (A : Around) (outer : List Env) (s : Shared) (H : Hp) : Prop where
  frames : A.frames = some outer
  mod : Mod K mg base
  bs : ∀ b o, base.get? b = some o → s.heap.get? b = some o ∧ H b = none
  bsz : base.objs.size ≤ s.heap.objs.size
  funs : s.heap.FunFrames base outer
  frf : ∀ b ∈ frs outer, H b = none
  hok : HOk P w H s.heap
  bare : AllBare s.gens
noncomputable def CE (outer : List Env) (P : Program) (w : World) (H : Hp) (s : Shared) (Q : VK) (u : Value) (s' : Shared) : Prop :=
  ∃ v H', s'.os = s.os ∧ AllBare s'.gens ∧ Un (frs outer) [] H H' s.heap s'.heap ∧ HOk P w H' s'.heap ∧ RelV v u ∧ Q v H'
noncomputable def CR (CX : CXT) (outer : List Env) (P : Program) (w : World) (H : Hp) (s : Shared) (Q : VK) (E : XK) (r : Result) (s' : Shared) : Prop :=
  match r with
  | .ok (.ret u) => CE outer P w H s Q u s'
  | .ok _ => False
  | .error e => CX outer H s E e s'
set_option genInjectivity false in
set_option genSizeOf false in
set_option genSizeOfSpec false in
structure FnOk (P : Program) (w : World) (K : PySem.W.Frag) (mg : Str → Option Value) (base : Heap) (CX : CXT) (k : Nat) (f : Addr) (fd : FuncData) (ps : List Str) (sp : Sp) : Prop where
  len : ∀ vs H Q E, sp vs H Q E → vs.length = ps.length
  run : ∀ (A : Around) (outer : List Env) (s : Shared) (H : Hp) (args : Args) (us : List Value) (vs : List V) (Q : VK) (E : XK), Room k A → Env0 P w K mg base A outer s H → BindsTo s fd args (ps.zip us) → Vals vs us → sp vs H Q E →
    codeAny (model P w) A (.call (.ref f) args) (CR CX outer P w H s Q E) s
section
variable {X : Cx} {pins : List (Addr × Obj)} {σ : St} {H : Hp} {s s' : Shared}
theorem Inv.env0 (I : Inv X pins σ H s) : Env0 X.prog X.w X.K X.mg X.base X.A X.stack s H :=
  ⟨I.ok.frames, I.ok.mod, I.bs, Nat.le_trans I.ok.bsz I.sz, I.stack, I.stkFree, I.hok, I.bare⟩
theorem Inv.after {Q : VK} {u : Value} (I : Inv X pins σ H s) (h : CE X.stack X.prog X.w H s Q u s') : EP X pins σ Q u s' := by
  refine Classical.byContradiction fun hnzq => ?_; obtain ⟨v, H', os, bare, un, hok, r, q⟩ := h
  refine hnzq ?_; clear hnzq
  refine Classical.byContradiction fun hnzq => ?_; obtain ⟨hh, g, d, t, os'⟩ := s'
  refine hnzq ?_; clear hnzq
  obtain rfl : os' = s.os := os
  exact ⟨v, H', I.call (h' := hh) (g' := g) (d' := d) (t' := t) (ch := []) un hok bare (fun b z => absurd z (by simp)), r, q⟩
end
noncomputable def tCall (sp : Sp) (dvs : List V) (E : XK) (t : TA) : TE := fun σ H Q => t σ H fun vs H1 => sp (vs ++ dvs) H1 Q E
noncomputable def Binds (K : PySem.W.Frag) (fd : FuncData) (ps : List Str) (ds : List Value) : Prop :=
  ∀ (s : Shared) (us : List Value), K.In s.heap → (us ++ ds).length = ps.length → BindsTo s fd ⟨us, []⟩ (ps.zip (us ++ ds))
theorem Binds.all {K : PySem.W.Frag} {fd : FuncData} {ps : List Str} (h : ∀ us : List Value, us.length = ps.length → bindArgs fd ⟨us, []⟩ = pure (ps.zip us)) : Binds K fd ps [] := fun s us _ hl => by
  rw [List.append_nil] at hl ⊢
  exact .of_eq (h us hl)
noncomputable def Passes (CX : CXT) (X : Cx) (E : XK) : Prop := ∀ (pins : List (Addr × Obj)) (σ : St) (H : Hp) (s : Shared) (e : Value) (s' : Shared), Inv X pins σ H s → CX X.stack H s E e s' → X.xe e s'
section
variable {X : Cx} {CX : CXT} {k : Nat} {f C : Addr} {fd : FuncData} {ps : List Str} {sp : Sp} {dvs : List V} {ds : List Value} {E : XK} {x m : Str} {p pos apos : Pos} {e o : Expr} {es : List Expr} {ta : TE} {t : TA}
theorem run_fn {pins : List (Addr × Obj)} {σ : St} {H : Hp} {s : Shared} {Q : VK} {us : List Value} {vs : List V} (F : FnOk X.prog X.w X.K X.mg X.base CX k f fd ps sp) (hr : Room k X.A) (hb : Binds X.K fd ps ds) (hd : Vals dvs ds) (hx : Passes CX X E)
    (I : Inv X pins σ H s) (r : Vals vs us) (h : sp (vs ++ dvs) H Q E) : wpAny (model X.prog X.w) X.A (call (.ref f) us) (EP X pins σ Q) X.xe s := by
  have r2 : Vals (vs ++ dvs) (us ++ ds) := r.append hd
  have hl : (us ++ ds).length = ps.length := by rw [← r2.length]; exact F.len _ _ _ _ h
  refine wpAny_call (codeAny_mono (F.run X.A X.stack s H ⟨us, []⟩ (us ++ ds) (vs ++ dvs) Q E hr I.env0 (hb s us I.kIn hl) r2 h) fun r s' hq => ?_)
  cases r with
  | error e => exact hx pins σ H s e s' I hq
  | ok fl =>
    cases fl with
    | ret u => exact I.after hq
    | next => exact False.elim hq
    | brk => exact False.elim hq
    | cont => exact False.elim hq
theorem pe_call (F : FnOk X.prog X.w X.K X.mg X.base CX k f fd ps sp) (hr : Room k X.A) (hg : Gl X x) (hm : X.mg x = some (.ref f)) (hk : PySem.W.keepIn X.K (.ref f) = true) (hb : Binds X.K fd ps ds) (hd : Vals dvs ds) (hx : Passes CX X E)
    (ha : PA X (e :: es) t) (hdb : (x == ("__debug__" : Str)) = false := by decide) (he : starEach (e :: es) X.env = (false, eval e X.env) :: starEach es X.env := by rfl) (hpl : (backTo pos (starEach es X.env)).any (·.1) = false := by rfl) :
    PE X (.Call (.Name x p) (e :: es) [] pos) (tCall sp dvs E t) := by
  intro pins s σ H Q I h
  refine wpAny_Call_Name_kw (ld_glob I hg hm ?_ hdb)
  refine PySem.W.callWith_K (h₀ := X.base) I.ok.mod.kin hk (thn (ha pos pins s σ H _ I h) fun us s1 ⟨vs, H1, I1, r, q⟩ => ⟨I1.kIn, ?_⟩) he hpl
  exact run_fn F hr hb hd hx I1 r q
end
section
variable {X : Cx} {CX : CXT} {k : Nat} {f C : Addr} {fd : FuncData} {ps ks : List Str} {sp : Sp} {E : XK} {x m : Str} {p pos apos kpos : Pos} {e o : Expr} {es : List Expr} {kws : List Keyword} {te ta : TE} {t tk : TA} {nm : Option Str}
variable {g : List Value → List Value → List Value} {gV : List V → List V → List V}
end
set_option genInjectivity false in
set_option genSizeOf false in
set_option genSizeOfSpec false in
structure FnScope (N P : List Str) (sc : Scope) : Prop where
  kind : sc.kind = .function
  co : sc.isCoroutine = false
  gen : sc.isGenerator = false
  nd : N.Nodup
  pre : N.take P.length = P
  par : ∀ x ∈ P, sc.names.lookup x = some .local ∨ sc.names.lookup x = some .cell
  nofree : ∀ y ∈ sc.names, y.2 ≠ .free
theorem bindL_out {kindOf : Str → Option NameKind} {x : Str} : ∀ {binds : List (Str × Value)} {m : Str → Option Value}, (∀ v, (x, v) ∉ binds) → bindL kindOf binds m x = m x
  | [], _, _ => rfl
  | (n, v) :: r, m, h => by
    unfold bindL
    rw [bindL_out fun w hw => h w (List.mem_cons_of_mem _ hw)]
    split
    · have : x ≠ n := by rintro rfl; exact h v List.mem_cons_self
      simp [this]
    · rfl
theorem bindC_out {kindOf : Str → Option NameKind} {x : Str} : ∀ {binds : List (Str × Value)} {m : Str → Option Value}, (∀ v, (x, v) ∉ binds) → bindC kindOf binds m x = m x
  | [], _, _ => rfl
  | (n, v) :: r, m, h => by
    unfold bindC
    rw [bindC_out fun w hw => h w (List.mem_cons_of_mem _ hw)]
    split
    · rfl
    · have : x ≠ n := by rintro rfl; exact h v List.mem_cons_self
      simp [this]
theorem bindL_get {kindOf : Str → Option NameKind} {x : Str} {v : Value} : ∀ {P : List Str} {vs : List Value} {i : Nat} {m : Str → Option Value}, P.Nodup → P[i]? = some x → vs[i]? = some v → kindOf x = some .local →
    bindL kindOf (P.zip vs) m x = some v
  | [], _, _, _, _, h, _, _ => by simp at h
  | _ :: _, [], _, _, _, _, h, _ => by simp at h
  | p :: P, w :: vs, 0, m, nd, h1, h2, hk => by
    simp at h1 h2; subst h1; subst h2
    show bindL kindOf ((p, w) :: P.zip vs) m p = _
    unfold bindL
    rw [bindL_out fun v hv => (List.nodup_cons.mp nd).1 (List.of_mem_zip hv).1, if_pos hk]
    simp
  | p :: P, w :: vs, i + 1, m, nd, h1, h2, hk => by
    show bindL kindOf ((p, w) :: P.zip vs) m x = _
    unfold bindL
    exact bindL_get (i := i) (List.nodup_cons.mp nd).2 (by simpa using h1) (by simpa using h2) hk
theorem bindC_get {kindOf : Str → Option NameKind} {x : Str} {v : Value} : ∀ {P : List Str} {vs : List Value} {i : Nat} {m : Str → Option Value}, P.Nodup → P[i]? = some x → vs[i]? = some v → kindOf x ≠ some .local →
    bindC kindOf (P.zip vs) m x = some v
  | [], _, _, _, _, h, _, _ => by simp at h
  | _ :: _, [], _, _, _, _, h, _ => by simp at h
  | p :: P, w :: vs, 0, m, nd, h1, h2, hk => by
    simp at h1 h2; subst h1; subst h2
    show bindC kindOf ((p, w) :: P.zip vs) m p = _
    unfold bindC
    rw [bindC_out fun v hv => (List.nodup_cons.mp nd).1 (List.of_mem_zip hv).1, if_neg hk]
    simp
  | p :: P, w :: vs, i + 1, m, nd, h1, h2, hk => by
    show bindC kindOf ((p, w) :: P.zip vs) m x = _
    unfold bindC
    exact bindC_get (i := i) (List.nodup_cons.mp nd).2 (by simpa using h1) (by simpa using h2) hk
noncomputable def start (N : List Str) (vs : List V) : St := vs.map some ++ List.replicate (N.length - vs.length) none
noncomputable def cxOf (CX : CXT) (P : Program) (w : World) (K : PySem.W.Frag) (mg : Str → Option Value) (base : Heap) (N : List Str) (qual : Str) (scope : Scope) (f : Addr) (cd : Value) (A : Around) (outer : List Env) (s : Shared) (H : Hp) (E : XK) : Cx where
  prog := P
  w := w
  K := K
  mg := mg
  base := base
  A := A.deeper (envOfC qual scope s.heap.objs.size f cd)
  N := N
  s₀ := s
  H₀ := H
  env := envOfC qual scope s.heap.objs.size f cd
  outer := outer
  stack := envOfC qual scope s.heap.objs.size f cd :: outer
  ex := []
  calm := true
  fn := fun _ => true
  pn := []
  xe := fun e s' => wpAny (model P w) (A.deeper (envOfC qual scope s.heap.objs.size f cd)) (leaving (envOfC qual scope s.heap.objs.size f cd) e) (fun _ s'' => CX outer H s E e s'') (fun e' s'' => CX outer H s E e' s'') s'
theorem cell_has {sc : Scope} {n : Nat} {x : Str} (h : sc.names.lookup x = some .cell) : ∃ c, (cellsFrom n sc.names []).lookup x = some c := by
  have q := PySem.W.cellsFrom_some sc.names n [] (.inl h)
  exact Option.isSome_iff_exists.mp q
theorem inv_start {CX : CXT} {P : Program} {w : World} {K : PySem.W.Frag} {mg : Str → Option Value} {base : Heap} {N ps : List Str} {qual : Str} {scope : Scope} {f : Addr} {cd : Value} {A : Around} {outer : List Env} {s s1 : Shared} {H : Hp} {E : XK} {us : List Value} {vs : List V}
    (S : FnScope N ps scope) (hd : A.handled = none) (e0 : Env0 P w K mg base A outer s H) (hl : vs.length = ps.length) (r : Vals vs us)
    (x : InCallC s s.heap.objs.size (bindL (envOfC qual scope s.heap.objs.size f cd).kindOf (ps.zip us) fun _ => none) (cellsFrom (s.heap.objs.size + 1) scope.names []) (bindC (envOfC qual scope s.heap.objs.size f cd).kindOf (ps.zip us) fun _ => none) s1) :
    Inv (cxOf CX P w K mg base N qual scope f cd A outer s H E) [] (start N vs) H s1 := by
  have hpl : ps.length ≤ N.length := by have := congrArg List.length S.pre; rw [List.length_take] at this; lia
  refine Classical.byContradiction fun hnzq => ?_; obtain ⟨h1, tk, rfl, hk⟩ := x.done
  refine hnzq ?_; clear hnzq
  have noA : ∀ b : Addr, b ∉ (cxOf CX P w K mg base N qual scope f cd A outer s H E).ex := fun b z => absurd (show b ∈ ([] : List Addr) from z) (by simp)
  refine ⟨⟨e0.mod, S.kind, rfl, rfl, Nat.le_refl _, fun y z c h1 h2 => ?_, fun y hy => ?_, fun y c _ h => ?_, fun _ => hd, Around.frames_deeper e0.frames, .inr ⟨rfl, rfl⟩, fun b z => absurd z (noA b), e0.bs, e0.bsz, fun b _ _ => noA b, fun b z => absurd z (noA b), e0.funs, e0.frf⟩,
    rfl, e0.bare, Un.kept hk, ⟨_, x.toInCall.ns, fun i y v h1 h2 h3 => ?_⟩, fun y c h => ⟨_, x.cell y c h⟩, e0.hok.fresh (Nat.le_refl _), fun y c h => ?_, fun p hp => absurd (show p ∈ ([] : List (Addr × Obj)) from hp) (by simp), e0.hok.kept hk, ?_⟩
  · exact name_of_addr x.apart (PySem.mem_of_lookup h1) (PySem.mem_of_lookup h2)
  · have hy : scope.names.lookup y = some .cell ∨ scope.names.lookup y = some .free := hy
    rcases hy with hy | hy
    · exact cell_has hy
    · exact absurd rfl (S.nofree _ (PySem.mem_of_lookup hy))
  · exact Nat.le_of_lt (x.above y c (PySem.mem_of_lookup h))
  · have hi : i < vs.length := by
      unfold start at h2
      by_cases hi : i < vs.length
      · exact hi
      · rw [List.getElem?_append_right (by simpa using hi)] at h2
        rw [List.getElem?_replicate] at h2
        split at h2 <;> cases h2
    have ha : vs[i]? = some v := by
      unfold start at h2
      rw [List.getElem?_append_left (by simpa using hi), List.getElem?_map] at h2
      cases e : vs[i]? with
      | none => rw [e] at h2; cases h2
      | some a => rw [e] at h2; cases h2; rfl
    refine Classical.byContradiction fun hnzq => ?_; obtain ⟨u, hu, rv⟩ := r.get ha
    refine hnzq ?_; clear hnzq
    have hp : ps[i]? = some y := by
      rw [← S.pre, List.getElem?_take_of_lt (by lia)]; exact h1
    have ndP : ps.Nodup := by rw [← S.pre]; exact S.nd.sublist (List.take_sublist _ _)
    refine ⟨u, rv, ?_⟩
    rcases S.par y (List.mem_of_getElem? hp) with k | k
    · exact .inl ⟨k, bindL_get ndP hp hu k⟩
    · obtain ⟨c, e⟩ := cell_has (n := s.heap.objs.size + 1) k
      refine .inr ⟨.inl k, c, e, ?_⟩
      have q := x.cell y c e
      rw [bindC_get ndP hp hu (by show scope.names.lookup y ≠ _; rw [k]; decide)] at q
      exact q
  · exact e0.hok.fresh (Nat.le_of_lt (x.above y c (PySem.mem_of_lookup h)))
  · unfold start
    show _ = N.length
    rw [List.length_append, List.length_map, List.length_replicate]
    lia
theorem fn_of {CX : CXT} {P : Program} {w : World} {K : PySem.W.Frag} {mg : Str → Option Value} {base : Heap} {k : Nat} {f : Addr} {name qual : Str} {params : Arguments} {body : List Stmt} {scope : Scope} {dV kV doc pm cdv ct oc : Value} {an od : Option Addr}
    {osl : Array (Option Value)} {N ps : List Str} {sp : Sp} (lk : K.lookup f = some ⟨oc, od, .func (PySem.W.fnOf name qual params body scope dV kV doc pm an cdv ct), osl⟩) (hcd : PySem.W.codeIn K cdv qual = true) (S : FnScope N ps scope)
    (len : ∀ vs H Q E, sp vs H Q E → vs.length = ps.length)
    (hbody : ∀ (A : Around) (outer : List Env) (s : Shared) (H : Hp) (vs : List V) (Q : VK) (E : XK), Room k (A.deeper (envOfC qual scope s.heap.objs.size f cdv)) → sp vs H Q E →
      ∃ t, PSs (cxOf CX P w K mg base N qual scope f cdv A outer s H E) body t ∧ t { nx := fun _ H' => Q .non H', rt := Q } (start N vs) H) :
    FnOk P w K mg base CX (k + 1) f (PySem.W.fnOf name qual params body scope dV kV doc pm an cdv ct) ps sp := by
  refine ⟨len, fun A outer s H args us vs Q E hr e0 hb r hsp => ?_⟩
  have hl := len _ _ _ _ hsp
  have KX : K.In s.heap := e0.mod.kin.keeps fun b o e => (e0.bs b o e).1
  have lim : s.heap.NoLimit := e0.mod.nolimit.keeps fun b o e => (e0.bs b o e).1
  have hkind : ∀ y ∈ ps.zip us, scope.names.lookup y.1 = some .local ∨ (scope.names.lookup y.1 = some .cell ∧ ((cellsFrom (s.heap.objs.size + 1) scope.names []).lookup y.1).isSome = true) := fun ⟨n, v⟩ hy => by
    rcases S.par n (List.of_mem_zip hy).1 with q | q
    · exact .inl q
    · exact .inr ⟨q, PySem.W.cellsFrom_some _ _ _ (.inl q)⟩
  refine codeAny_call_function hr.depth (KX _ _ lk) rfl S.co S.gen rfl (PySem.W.codeRec_of KX hcd) (hb _ _ _ _ ?_)
  refine wpAny_newFunctionEnv_cells S.kind hkind fun env he s1 x => ?_
  subst he
  refine ⟨lim.keeps x.toInCall.keep, codeAny_func ?_⟩
  refine Classical.byContradiction fun hnzq => ?_; obtain ⟨t, ht, hq⟩ := hbody A outer s H vs Q E (hr.deeper _) hsp
  refine hnzq ?_; clear hnzq
  have I : Inv (cxOf CX P w K mg base N qual scope f cdv A outer s H E) [] (start N vs) H s1 := inv_start S hr.hd e0 hl r x
  refine wpAny_mono (ht [] s1 (start N vs) H _ I hq) (fun fl s' hs => ?_) fun e s' hs => hs
  have fin : ∀ {σ' : St} {H' : Hp} {v : V} {u : Value}, Inv (cxOf CX P w K mg base N qual scope f cdv A outer s H E) [] σ' H' s' → RelV v u → Q v H' → CE outer P w H s Q u s' :=
    fun {σ' H' v u} J rv q => ⟨v, H', J.os, J.bare, J.base, J.hok, rv, q⟩
  cases fl with
  | ret u =>
    refine Classical.byContradiction fun hnzq => ?_; obtain ⟨v, σ', H', J, rv, q⟩ := hs
    refine hnzq ?_; clear hnzq
    exact fin J rv q
  | next =>
    refine Classical.byContradiction fun hnzq => ?_; obtain ⟨σ', H', J, q⟩ := hs
    refine hnzq ?_; clear hnzq
    exact fin (v := V.non) (u := Value.none) J rfl q
  | brk =>
    refine Classical.byContradiction fun hnzq => ?_; obtain ⟨_, _, _, q⟩ := hs
    refine hnzq ?_; clear hnzq
    exact False.elim q
  | cont =>
    refine Classical.byContradiction fun hnzq => ?_; obtain ⟨_, _, _, q⟩ := hs
    refine hnzq ?_; clear hnzq
    exact False.elim q
end L2
namespace L2
open PySem PySem.Spec PyProof.Rows
section
variable {X : Cx} {x : Str} {p pos : Pos} {e : Expr} {es : List Expr} {t : TA} {id T : String} {r : List V → Hp → VK → Prop}
noncomputable def tCB (r : List V → Hp → VK → Prop) (t : TA) : TE := fun σ H Q => t σ H fun vs H1 => r vs H1 Q
theorem pe_callB (hc : CallR X (.builtin id) r) (hg : Gl X x) (hm : X.mg x = none) (hv : bootBuiltins x = some (.builtin id)) (ha : PA X (e :: es) t) (hn : x ≠ "__name__" := by decide) (hdb : (x == ("__debug__" : Str)) = false := by decide)
    (he : starEach (e :: es) X.env = (false, eval e X.env) :: starEach es X.env := by rfl) (hpl : (backTo pos (starEach es X.env)).any (·.1) = false := by rfl) : PE X (.Call (.Name x p) (e :: es) [] pos) (tCB r t) := by
  intro pins s σ H Q I h
  refine wpAny_Call_Name_kw (ld_blt I hg hm hv ?_ hn hdb)
  exact PyProof.Rows.callWith_builtin1 (thn (ha pos pins s σ H _ I h) fun us s1 ⟨vs, H1, I1, r1, q1⟩ => hc pins s1 σ H1 vs us Q I1 r1 q1) he hpl
theorem pe_callTy (hc : CallR X (.type T) r) (hg : Gl X x) (hm : X.mg x = none) (hv : bootBuiltins x = some (.type T)) (ha : PA X (e :: es) t) (hn : x ≠ "__name__" := by decide) (hdb : (x == ("__debug__" : Str)) = false := by decide)
    (he : starEach (e :: es) X.env = (false, eval e X.env) :: starEach es X.env := by rfl) (hpl : (backTo pos (starEach es X.env)).any (·.1) = false := by rfl) : PE X (.Call (.Name x p) (e :: es) [] pos) (tCB r t) := by
  intro pins s σ H Q I h
  refine wpAny_Call_Name_kw (ld_blt I hg hm hv ?_ hn hdb)
  exact PyProof.Rows.callWith_type1 (thn (ha pos pins s σ H _ I h) fun us s1 ⟨vs, H1, I1, r1, q1⟩ => hc pins s1 σ H1 vs us Q I1 r1 q1) he hpl
end
end L2
namespace HT
open PySem PyProof.Rows
section
open PySem.SeqAt
open PySem.AutoSeq1 (wpAny_loadPart')
open PySem.MeetsSeq PySem.MeetsSeq2 PySem.MeetsSeq3
end
section
variable {prog : Program} {w : World} {A : Around} {E : Value → Shared → Prop} {s : Shared}
theorem cat_tup {t b : Addr} {vs ws : List Value} {Q : Value → Shared → Prop} (ht : IsTup s.heap t vs.toArray) (hb : IsTup s.heap b ws.toArray) (hv : vs ≠ [])
    (h1 : ws = [] → Q (.ref t) s) (h2 : ws ≠ [] → Q (.ref s.heap.objs.size) { s with heap := s.heap.push { cls := .type "tuple", data := .seq (vs ++ ws).toArray } })
    (hsz : vs.length + ws.length ≤ sizeLine) : wpAny (model prog w) A (binaryOp .Add (.ref t) (.ref b)) Q E s := by
  refine Classical.byContradiction fun hnzq => ?_; obtain ⟨⟨cls, dd, data, sl⟩, ho, hc, n, hd⟩ := id ht
  refine hnzq ?_; clear hnzq
  refine Classical.byContradiction fun hnzq => ?_; obtain ⟨⟨cls2, dd2, data2, sl2⟩, ho2, hc2, n2, hd2⟩ := id hb
  refine hnzq ?_; clear hnzq
  simp only at hc hd hc2 hd2
  subst hc hd hc2 hd2
  have e : vs.toArray ++ ws.toArray = (vs ++ ws).toArray := by simp
  by_cases hw : ws = []
  · exact concat_meets ⟨_, ho, rfl⟩ ⟨_, ho2, rfl⟩ noFill_tuple_add seq_tuple_add PySem.F.slot_tuple_add PySem.F.entry_tuple_add (PySem.F.args_tuple_add_2 _ _)
      (tuple_addW1 t b vs.toArray ws.toArray n n2 dd dd2 sl sl2 (by simpa using hv) (by simp [hw])) ⟨ho, ho2, h1 hw⟩
  · refine concat_meets ⟨_, ho, rfl⟩ ⟨_, ho2, rfl⟩ noFill_tuple_add seq_tuple_add PySem.F.slot_tuple_add PySem.F.entry_tuple_add (PySem.F.args_tuple_add_2 _ _)
      (tuple_addW2 t b vs.toArray ws.toArray n n2 dd dd2 sl sl2 (by simpa using hv) (by simpa using hw) (by rw [List.size_toArray, List.size_toArray]; exact hsz)) ⟨ho, ho2, ?_⟩
    rw [e]
    exact h2 hw
noncomputable def sIx (n d : Nat) : Option Int → Nat
  | none => d
  | some v => if v < 0 then (v + (n : Int)).toNat else min v.toNat n
theorem sIx_nat (n d k : Nat) : sIx n d (some (k : Int)) = min k n := by
  show (if (k : Int) < 0 then ((k : Int) + (n : Int)).toNat else min (k : Int).toNat n) = min k n
  rw [if_neg (by lia), Int.toNat_natCast]
theorem sIx_le (n d : Nat) (hd : d ≤ n) (o : Option Int) : sIx n d o ≤ n := by
  cases o with
  | none => exact hd
  | some v =>
    show (if v < 0 then (v + (n : Int)).toNat else min v.toNat n) ≤ n
    by_cases hv : v < 0
    · rw [if_pos hv]; lia
    · rw [if_neg hv]; exact Nat.min_le_right _ _
theorem clip_eq (v : Int) (n d : Nat) : (if v < 0 then max (v + (n : Int)) 0 else min v (n : Int)) = ((sIx n d (some v) : Nat) : Int) := by
  show (if v < 0 then max (v + (n : Int)) 0 else min v (n : Int)) = (((if v < 0 then (v + (n : Int)).toNat else min v.toNat n) : Nat) : Int)
  by_cases hv : v < 0
  · simp only [if_pos hv]; lia
  · simp only [if_neg hv]; lia
theorem adjust_gen (lo hi : Option Int) (n : Nat) : Builtin.Slice.sliceAdjust lo hi 1 (n : Int) = (((sIx n 0 lo : Nat) : Int), ((sIx n n hi : Nat) : Int)) := by
  have h1 : ¬ ((1 : Int) < 0) := by (decide)
  unfold Builtin.Slice.sliceAdjust
  simp only [h1, if_false]
  refine Prod.ext ?_ ?_
  · cases lo with
    | none => rfl
    | some v => exact clip_eq v n 0
  · cases hi with
    | none => rfl
    | some v => exact clip_eq v n n
theorem places_gen (i j : Nat) : Builtin.Slice.slicePlaces (i : Int) (j : Int) 1 = j - i := by
  unfold Builtin.Slice.slicePlaces
  have h1 : (1 : Int) > 0 := by (exact Int.le_refl _)
  simp only [h1, if_true, Int.ediv_one]
  split <;> lia
theorem slicePart_ {v : Value} {o : Option Int} {Q : Option Int → Shared → Prop} (p : IsPart v o) (h : Q o s) : wpAny (model prog w) A (Builtin.Slice.slicePartIndex v) Q E s := by
  cases p with
  | none => exact slicePart_none h
  | int i t => exact slicePart_int h
theorem sliceApplied_gen {sl : Addr} {vl vu : Value} {lo hi : Option Int} {n : Nat} {Q : Int × Int × Nat → Shared → Prop} (hs : s.heap.IsSliceOf sl vl vu .none) (pl : IsPart vl lo) (pu : IsPart vu hi)
    (h : Q (((sIx n 0 lo : Nat) : Int), 1, sIx n n hi - sIx n 0 lo) s) : wpAny (model prog w) A (Builtin.Slice.sliceApplied (.ref sl) (pure (n : Int))) Q E s := by
  refine Classical.byContradiction fun hnzq => ?_; obtain ⟨os, hos, hcs, hds⟩ := id hs
  refine hnzq ?_; clear hnzq
  unfold Builtin.Slice.sliceApplied Builtin.Slice.sliceFields
  refine wpAny_bind (wpAny_bind (wpAny_field hos hds (x := vl) rfl (wpAny_bind (wpAny_field hos hds (x := vu) rfl (wpAny_bind (wpAny_field hos hds (x := .none) rfl (wpAny_pure ?_)))))))
  refine wpAny_bind (slicePart_none ?_)
  show wpAny _ _ (if ((1 : Int) == 0) = true then _ else _) _ _ s
  rw [if_neg (by decide)]
  refine wpAny_bind (slicePart_ pl (wpAny_bind (slicePart_ pu (wpAny_bind (wpAny_pure ?_)))))
  show wpAny _ _ (match Builtin.Slice.sliceAdjust lo hi 1 (n : Int) with | (lo, hi) => pure (lo, (1 : Int), Builtin.Slice.slicePlaces lo hi 1)) _ _ s
  rw [adjust_gen lo hi n]
  show wpAny _ _ (pure (((sIx n 0 lo : Nat) : Int), (1 : Int), Builtin.Slice.slicePlaces ((sIx n 0 lo : Nat) : Int) ((sIx n n hi : Nat) : Int) 1)) _ _ s
  rw [places_gen]
  exact wpAny_pure h
theorem pick_gen (xs : Array Value) (i k : Nat) : ((List.range k).filterMap fun (m : Nat) => xs[((i : Int) + (m : Int) * 1).toNat]?).toArray = ((xs.toList.drop i).take k).toArray := by
  have e : (fun (m : Nat) => xs[((i : Int) + (m : Int) * 1).toNat]?) = fun m => xs[i + m]? := by
    funext m
    have : ((i : Int) + (m : Int) * 1).toNat = i + m := by lia
    rw [this]
  rw [e]
  have := pick_run xs i k
  rw [List.filterMap_map] at this
  have e2 : ((fun x => xs[x]?) ∘ fun x => i + x) = fun m => xs[i + m]? := rfl
  rw [e2] at this
  rw [this]
theorem getItem_tuple_cut {t sl : Addr} {items : Array Value} {vl vu : Value} {lo hi : Option Int} {Q : Value → Shared → Prop} (ht : IsTup s.heap t items) (hs : s.heap.IsSliceOf sl vl vu .none) (pl : IsPart vl lo) (pu : IsPart vu hi)
    (hw : ¬ (sIx items.size 0 lo = 0 ∧ sIx items.size items.size hi = items.size))
    (h : Q (.ref s.heap.objs.size) { s with heap := s.heap.push { cls := .type "tuple", data := .seq ((items.toList.drop (sIx items.size 0 lo)).take (sIx items.size items.size hi - sIx items.size 0 lo)).toArray } })
    (hsz : items.size ≤ sizeLine) : wpAny (model prog w) A (getItem (.ref t) (.ref sl)) Q E s := by
  have htake : sizeOk (.seq ((items.toList.drop (sIx items.size 0 lo)).take (sIx items.size items.size hi - sIx items.size 0 lo)).toArray) := by
    show ((items.toList.drop (sIx items.size 0 lo)).take (sIx items.size items.size hi - sIx items.size 0 lo)).toArray.size ≤ sizeLine
    rw [List.size_toArray, List.length_take, List.length_drop, Array.length_toList]
    omega
  have hj : sIx items.size items.size hi ≤ items.size := sIx_le _ _ (Nat.le_refl _) hi
  refine Classical.byContradiction fun hnzq => ?_; obtain ⟨os, hos, hcs, hds⟩ := id hs
  refine hnzq ?_; clear hnzq
  have hTs : s.TypeIs (.ref sl) "slice" := ⟨os, hos, hcs⟩
  unfold getItem
  try with_reducible refine wpAny_holding ?_
  first | refine wpAny_bind (wpAny_pure ?_) | skip
  refine wpAny_bind (wpAny_sequenceKey ht.typeIs (by decide) ?_)
  refine wpAny_bind (wpAny_callSpecial?_slot (name := Str.ofString "__getitem__") ht.typeIs PyProof.Rows.slot_tuple_getitem
    (wpAny_call_entry PyProof.Rows.slot_tuple_getitem ht.typeIs entry_tuple_getitem ?_ (args_tuple_getitem _ _)))
  show wpAny _ _ (Builtin.Tuple.tupleItemsOf (.ref t) >>= _) _ _ s
  refine wpAny_bind (tupleItemsOf_ ht ?_)
  refine wpAny_bind (wpAny_typeOf hTs ?_)
  rw [if_pos (by decide)]
  refine wpAny_bind (sliceApplied_gen hs pl pu ?_)
  have hno : ¬ ((((sIx items.size 0 lo : Nat) : Int) == 0 && (1 : Int) == 1 && (sIx items.size items.size hi - sIx items.size 0 lo) == items.size) = true) := by
    intro q
    rw [Bool.and_eq_true, Bool.and_eq_true] at q
    have q1 : ((sIx items.size 0 lo : Nat) : Int) = 0 := eq_of_beq q.1.1
    have q2 : sIx items.size items.size hi - sIx items.size 0 lo = items.size := eq_of_beq q.2
    exact hw ⟨by lia, by (clear ht hs pl pu hw h hsz htake hos hcs hds hTs q; omega)⟩
  show wpAny _ _ (if (((sIx items.size 0 lo : Nat) : Int) == 0 && (1 : Int) == 1 && (sIx items.size items.size hi - sIx items.size 0 lo) == items.size) = true then _ else _) _ _ s
  rw [if_neg hno, pick_gen]
  first
    | exact wpAny_bind (m := Builtin.Tuple.tupleExact _) (wpAny_newObj_type (wpAny_pure ⟨_, rfl, wpAny_pure h⟩) htake)
    | exact wpAny_bind (m := Builtin.Tuple.tupleExact _) (wpAny_newObj_type (wpAny_bind (wpAny_pure (wpAny_pure ⟨_, rfl, wpAny_pure h⟩))) htake)
    | exact wpAny_bind (wpAny_bind (m := Builtin.Tuple.tupleExact _) (wpAny_newObj_type (wpAny_pure (wpAny_pure ⟨_, rfl, wpAny_pure h⟩)) htake))
    | exact wpAny_bind (wpAny_bind (m := Builtin.Tuple.tupleExact _) (wpAny_newObj_type (wpAny_pure ⟨_, rfl, wpAny_pure h⟩) htake))
end
end HT
namespace L2
open PySem PySem.Spec PyProof.Rows
noncomputable abbrev TO := St → Hp → (Option Int → Hp → Prop) → Prop
noncomputable def PO (X : Cx) (e : Option Expr) (t : TO) : Prop :=
  ∀ (pins : List (Addr × Obj)) (s : Shared) (σ : St) (H : Hp) (Q : Option Int → Hp → Prop), Inv X pins σ H s → t σ H Q →
    wpAny (model X.prog X.w) X.A (evalPart e X.env) (fun u s' => ∃ o H', Inv X pins σ H' s' ∧ IsPart u o ∧ Q o H') X.xe s
noncomputable def tNoPart : TO := fun _ H Q => Q none H
noncomputable def tPart (t : TE) : TO := fun σ H Q => t σ H fun x H1 => ∃ i, x = .int i ∧ Q (some i) H1
section
variable {X : Cx} {e : Expr} {te : TE} {lo hi : Option Expr} {tl th : TO} {pos p2 : Pos}
theorem po_none : PO X none tNoPart := by
  intro pins s σ H Q I h
  rw [evalPart_none]
  exact wpAny_pure ⟨none, H, I, .none, h⟩
theorem po_some (h : PE X e te) : PO X (some e) (tPart te) := by
  intro pins s σ H Q I hw
  rw [evalPart_some]
  refine thn (h pins s σ H _ I hw) fun u s1 zzq => ?_
  refine Classical.byContradiction fun hnzq => ?_; obtain ⟨x, H1, I1, r1, q1⟩ := zzq; refine hnzq ?_; clear hnzq
  refine Classical.byContradiction fun hnzq => ?_; obtain ⟨i, rfl, q⟩ := q1
  refine hnzq ?_; clear hnzq
  obtain ⟨t, rfl⟩ := r1
  exact ⟨some i, H1, I1, .int i t, q⟩
noncomputable def SlR (X : Cx) (r : V → Option Int → Option Int → Hp → VK → Prop) : Prop :=
  ∀ (pins : List (Addr × Obj)) (s : Shared) (σ : St) (H : Hp) (x : V) (v vl vu : Value) (lo hi : Option Int) (sl : Addr) (Q : VK), Inv X pins σ H s → RelV x v → s.heap.IsSliceOf sl vl vu .none → IsPart vl lo → IsPart vu hi → r x lo hi H Q →
    ∃ T id, typeLookup (.type T) "__getitem__" = pure (some (.builtin id)) ∧ s.TypeIs v T ∧ wpAny (model X.prog X.w) X.A (getItem v (.ref sl)) (EP X pins σ Q) X.xe s
noncomputable def tSl (r : V → Option Int → Option Int → Hp → VK → Prop) (te : TE) (tl th : TO) : TE := fun σ H Q => te σ H fun x H1 => tl σ H1 fun l H2 => th σ H2 fun u H3 => r x l u H3 Q
theorem pe_slice {r : V → Option Int → Option Int → Hp → VK → Prop} (hr : SlR X r) (he : PE X e te) (hl : PO X lo tl) (hu : PO X hi th) : PE X (.Subscript e (.Slice lo hi none p2) pos) (tSl r te tl th) := by
  intro pins s σ H Q I h
  refine Subscript_ (thn (he pins s σ H _ I h) fun v s1 zzq => ?_)
  refine Classical.byContradiction fun hnzq => ?_; obtain ⟨x, H1, I1, r1, q1⟩ := zzq; refine hnzq ?_; clear hnzq
  refine wpAny_Slice (thn (hl pins s1 σ H1 _ I1 q1) fun vl s2 ⟨l, H2, I2, pl, q2⟩ => thn (hu pins s2 σ H2 _ I2 q2) fun vu s3 zzq => ?_)
  refine Classical.byContradiction fun hnzq => ?_; obtain ⟨u, H3, I3, pu, q3⟩ := zzq; refine hnzq ?_; clear hnzq
  rw [evalPart_none]
  refine wpAny_pure ?_
  have I4 : Inv X pins σ H3 { s3 with heap := s3.heap.push { cls := .type "slice", data := .fields #[vl, vu, .none] } } := I3.kept (t' := s3.toks) fun b ob q => Heap.get?_push_of_some _ q
  refine Classical.byContradiction fun hnzq => ?_; obtain ⟨T, id, hT, ht, hg⟩ := hr pins { s3 with heap := s3.heap.push { cls := .type "slice", data := .fields #[vl, vu, .none] } } σ H3 x v vl vu l u s3.heap.objs.size Q I4 r1 (Heap.IsSliceOf.new ..) pl pu q3
  refine hnzq ?_; clear hnzq
  show wpAny (model X.prog X.w) X.A (subscriptTail e (.Slice lo hi none p2) v (.ref s3.heap.objs.size)) (EP X pins σ Q) X.xe { s3 with heap := s3.heap.push { cls := .type "slice", data := .fields #[vl, vu, .none] } }
  exact tail_any (ops := [.ref s3.heap.objs.size, v]) ht hT hg (by with_unfolding_all rfl)
noncomputable def cutV (xs : List V) (lo hi : Option Int) : List V := (xs.drop (HT.sIx xs.length 0 lo)).take (HT.sIx xs.length xs.length hi - HT.sIx xs.length 0 lo)
theorem cutV_length (xs : List V) (lo hi : Option Int) : (cutV xs lo hi).length ≤ xs.length := by
  unfold cutV
  rw [List.length_take, List.length_drop]
  lia
noncomputable def rSlT (K : PySem.W.Frag) : V → Option Int → Option Int → Hp → VK → Prop := fun x lo hi H Q => ∃ a xs, x = .ref a ∧ SqT K H a xs ∧
  ¬ (HT.sIx xs.length 0 lo = 0 ∧ HT.sIx xs.length xs.length hi = xs.length) ∧ ∀ p, H p = none → Q (.ref p) (upd H p (.tup (cutV xs lo hi)))
theorem sl_tup : SlR X (rSlT X.K) := by
  intro pins s σ H x v vl vu lo hi sl Q I rx hs pl pu h
  refine Classical.byContradiction fun hnzq => ?_; obtain ⟨a, xs, rfl, hx, hw, q⟩ := h
  refine hnzq ?_; clear hnzq
  cases rx
  refine Classical.byContradiction fun hnzq => ?_; obtain ⟨its, r, ht, hz⟩ := I.tuple hx
  refine hnzq ?_; clear hnzq
  have hlen : its.toArray.size = xs.length := by rw [List.size_toArray]; exact r.length.symm
  refine ⟨"tuple", _, PyProof.Rows.slot_tuple_getitem.lookup, ht.typeIs, ?_⟩
  refine HT.getItem_tuple_cut ht hs pl pu (by rw [hlen]; exact hw) ?_ (by rw [hlen]; exact hz)
  rw [hlen]
  refine ⟨.ref s.heap.objs.size, _, I.laid (t' := s.toks) (o := .tup (cutV xs lo hi)) (fun b ob q => Heap.get?_push_of_some _ q) (Nat.le_refl _) ?_, rfl, q _ (I.hok.fresh (Nat.le_refl _))⟩
  exact ⟨Nat.le_trans (cutV_length xs lo hi) hz, _, (r.drop (HT.sIx xs.length 0 lo)).take (HT.sIx xs.length xs.length hi - HT.sIx xs.length 0 lo), IsTup.new _ _⟩
noncomputable def rCatT (K : PySem.W.Frag) : R2 := fun x y H Q => ∃ a b xs ys, x = .ref a ∧ y = .ref b ∧ SqT K H a xs ∧ SqT K H b ys ∧ xs ≠ [] ∧ xs.length + ys.length ≤ sizeLine ∧
  (ys = [] → Q (.ref a) H) ∧ (ys ≠ [] → ∀ p, H p = none → Q (.ref p) (upd H p (.tup (xs ++ ys))))
theorem Vals.nil_iff {xs : List V} {us : List Value} (r : Vals xs us) : us = [] ↔ xs = [] := by
  cases r with
  | nil => simp
  | cons _ _ => simp
theorem op_catT : OpR X (binaryOp .Add) (rCatT X.K) := by
  intro pins s σ H x y v u Q I rx ry h
  refine Classical.byContradiction fun hnzq => ?_; obtain ⟨a, b, xs, ys, rfl, rfl, ha, hb, hx, hz, q1, q2⟩ := h
  refine hnzq ?_; clear hnzq
  cases rx
  cases ry
  refine Classical.byContradiction fun hnzq => ?_; obtain ⟨its, r1, p1, _⟩ := I.tuple ha
  refine hnzq ?_; clear hnzq
  refine Classical.byContradiction fun hnzq => ?_; obtain ⟨its2, r2, p2, _⟩ := I.tuple hb
  refine hnzq ?_; clear hnzq
  refine HT.cat_tup p1 p2 (fun z => hx (r1.nil_iff.mp z)) (fun z => ⟨.ref a, H, I, rfl, q1 (r2.nil_iff.mp z)⟩) (fun z => ?_) (by rw [← r1.length, ← r2.length]; exact hz)
  refine ⟨.ref s.heap.objs.size, _, I.laid (t' := s.toks) (o := .tup (xs ++ ys)) (fun b ob q => Heap.get?_push_of_some _ q) (Nat.le_refl _) ?_, rfl, q2 (fun w => z (r2.nil_iff.mpr w)) _ (I.hok.fresh (Nat.le_refl _))⟩
  exact ⟨by rw [List.length_append]; exact hz, _, r1.append r2, IsTup.new _ _⟩
end
end L2
namespace L2
open PySem PySem.Spec PyProof.Rows
noncomputable def ixN (n : Nat) (i : Int) : Option Nat := if 0 ≤ i then (if i < n then some i.toNat else none) else if -(n : Int) ≤ i then some (i + n).toNat else none
noncomputable def atI {α : Type} (xs : List α) (i : Int) : Option α := (ixN xs.length i).bind fun j => xs[j]?
theorem ixN_seq {n : Nat} {i : Int} {j : Nat} (h : ixN n i = some j) : seqIndex? i n = some j ∧ j < n ∧ -(n : Int) ≤ i ∧ i < n := by
  unfold ixN at h
  by_cases h0 : 0 ≤ i
  · rw [if_pos h0] at h
    by_cases h1 : i < n
    · rw [if_pos h1] at h
      have e : i.toNat = j := Option.some.inj h
      exact ⟨by rw [seqIndex_of h0 h1, e], by lia, by lia, h1⟩
    · rw [if_neg h1] at h; cases h
  · rw [if_neg h0] at h
    by_cases h1 : -(n : Int) ≤ i
    · rw [if_pos h1] at h
      have e : (i + n).toNat = j := Option.some.inj h
      exact ⟨by rw [seqIndex_neg (by (exact Int.lt_of_not_ge (by assumption))) h1, e], by lia, h1, by lia⟩
    · rw [if_neg h1] at h; cases h
theorem atI_get {α : Type} {xs : List α} {i : Int} {v : α} (h : atI xs i = some v) : ∃ j, seqIndex? i xs.length = some j ∧ xs[j]? = some v ∧ j < xs.length ∧ -(xs.length : Int) ≤ i ∧ i < xs.length := by
  unfold atI at h
  cases e : ixN xs.length i with
  | none => rw [e] at h; cases h
  | some j =>
    rw [e] at h
    refine Classical.byContradiction fun hnzq => ?_; obtain ⟨h1, h2, h3, h4⟩ := ixN_seq e
    refine hnzq ?_; clear hnzq
    exact ⟨j, h1, h, h2, h3, h4⟩
theorem atI_nat {α : Type} {xs : List α} {j : Nat} {v : α} (h : xs[j]? = some v) : atI xs (j : Int) = some v := by
  have hj : j < xs.length := (List.getElem?_eq_some_iff.mp h).1
  have e : ixN xs.length (j : Int) = some j := by
    unfold ixN
    rw [if_pos (by (exact Int.ofNat_nonneg _)), if_pos (by (exact Int.ofNat_lt.mpr (by assumption)))]; simp
  unfold atI; rw [e]; exact h
noncomputable def PlainIx (b : Expr) : Prop := ∀ o i, subscripted b false o i = operate [o, i] (getItem o i)
noncomputable def IxR (X : Cx) (r : R2) : Prop :=
  ∀ (value slice : Expr) (pins : List (Addr × Obj)) (s : Shared) (σ : St) (H : Hp) (x y : V) (v u : Value) (Q : VK), Inv X pins σ H s → RelV x v → RelV y u → r x y H Q →
    subscripted slice false v u = operate [v, u] (getItem v u) → wpAny (model X.prog X.w) X.A (subscriptTail value slice v u) (EP X pins σ Q) X.xe s
noncomputable def MtR (X : Cx) (id : String) (r : V → List V → Hp → VK → Prop) : Prop :=
  ∀ (pins : List (Addr × Obj)) (s : Shared) (σ : St) (H : Hp) (x : V) (xs : List V) (v : Value) (us : List Value) (Q : VK), Inv X pins σ H s → RelV x v → Vals xs us → r x xs H Q →
    wpAny (model X.prog X.w) X.A (call (.builtin id) (v :: us)) (EP X pins σ Q) X.xe s
section
variable {X : Cx} {a b : Expr} {ta tb : TE} {pos : Pos}
theorem pe_ix {r : R2} (hr : IxR X r) (ha : PE X a ta) (hb : PE X b tb) (hs : PlainIx b) : PE X (.Subscript a b pos) (tOp r ta tb) := by
  intro pins s σ H Q I h
  exact Subscript_ (binT ha hb I h fun v u s2 x y H2 I2 rx ry q => hr a b pins s2 σ H2 x y v u Q I2 rx ry q (hs _ _))
noncomputable def rIxL (K : PySem.W.Frag) : R2 := fun x y H Q => ∃ p xs i v, x = .ref p ∧ y = .int i ∧ SqL K H p xs ∧ atI xs i = some v ∧ Q v H
noncomputable def rIxT (K : PySem.W.Frag) : R2 := fun x y H Q => ∃ p xs i v, x = .ref p ∧ y = .int i ∧ SqT K H p xs ∧ atI xs i = some v ∧ Q v H
noncomputable def rIxS : R2 := fun x y H Q => ∃ z i c, x = .str z ∧ y = .int i ∧ z.length ≤ sizeLine ∧ atI z.cps.toList i = some c ∧ Q (.str ⟨#[c]⟩) H
theorem ix_list : IxR X (rIxL X.K) := by
  intro value slice pins s σ H x y v u Q I rx ry h hs
  refine Classical.byContradiction fun hnzq => ?_; obtain ⟨p, xs, i, z, rfl, rfl, hq, he, q⟩ := h
  refine hnzq ?_; clear hnzq
  cases rx
  obtain ⟨t, rfl⟩ := ry
  refine Classical.byContradiction fun hnzq => ?_; obtain ⟨its, r, pl, hz⟩ := I.list hq
  refine hnzq ?_; clear hnzq
  refine Classical.byContradiction fun hnzq => ?_; obtain ⟨j, h1, h2, h3, h4, h5⟩ := atI_get he
  refine hnzq ?_; clear hnzq
  refine Classical.byContradiction fun hnzq => ?_; obtain ⟨w, ew, rw'⟩ := r.get h2
  refine hnzq ?_; clear hnzq
  have hl := r.length
  have hn := line63
  have fin : EP X pins σ Q w s := ⟨z, H, I, rw', q⟩
  by_cases h0 : 0 ≤ i
  · have hj : i.toNat = j := by
      rw [seqIndex_of h0 h5] at h1
      exact Option.some.inj h1
    exact item_listR pl.isList h0 (by omega) (by rw [hj]; simpa using ew) fin hs
  · have hj : (i + (its.toArray.size : Int)).toNat = j := by
      rw [seqIndex_neg (by (exact Int.lt_of_not_ge (by assumption))) h4] at h1
      rw [List.size_toArray, ← hl]
      exact Option.some.inj h1
    exact subscriptTail_builtinR (x := w) pl.isList.typeIs slot_list_getitem.lookup
      (wpAny_getItem_list_neg (Q := fun r s' => r = w ∧ EP X pins σ Q r s') pl.isList (by (exact Int.lt_of_not_ge (by assumption))) (by rw [List.size_toArray] <;> lia) (by lia) (by rw [hj]; simpa using ew) ⟨rfl, fin⟩) hs
theorem ix_tup : IxR X (rIxT X.K) := by
  intro value slice pins s σ H x y v u Q I rx ry h hs
  refine Classical.byContradiction fun hnzq => ?_; obtain ⟨p, xs, i, z, rfl, rfl, hq, he, q⟩ := h
  refine hnzq ?_; clear hnzq
  cases rx
  obtain ⟨t, rfl⟩ := ry
  refine Classical.byContradiction fun hnzq => ?_; obtain ⟨its, r, pl, hz⟩ := I.tuple hq
  refine hnzq ?_; clear hnzq
  refine Classical.byContradiction fun hnzq => ?_; obtain ⟨j, h1, h2, h3, h4, h5⟩ := atI_get he
  refine hnzq ?_; clear hnzq
  refine Classical.byContradiction fun hnzq => ?_; obtain ⟨w, ew, rw'⟩ := r.get h2
  refine hnzq ?_; clear hnzq
  have hl := r.length
  have hn := line63
  have fin : EP X pins σ Q w s := ⟨z, H, I, rw', q⟩
  exact subscriptTail_builtinR (x := w) pl.typeIs slot_tuple_getitem.lookup
    (getItem_tuple (j := j) (Q := fun r s' => r = w ∧ EP X pins σ Q r s') pl (by (clear I hq he q hs r pl h1 h2 h5 ew rw' fin; omega)) (by omega) (by rw [List.size_toArray, ← hl]; exact h1) (by simpa using ew) ⟨rfl, fin⟩) hs
theorem ix_str : IxR X rIxS := by
  intro value slice pins s σ H x y v u Q I rx ry h hs
  refine Classical.byContradiction fun hnzq => ?_; obtain ⟨z, i, c, rfl, rfl, hz, he, q⟩ := h
  refine hnzq ?_; clear hnzq
  obtain ⟨t, rfl⟩ := rx
  obtain ⟨t', rfl⟩ := ry
  refine Classical.byContradiction fun hnzq => ?_; obtain ⟨j, h1, h2, h3, h4, h5⟩ := atI_get he
  refine hnzq ?_; clear hnzq
  have hl : z.cps.toList.length = z.length := by simp [Str.length]
  rw [hl] at h1 h4 h5
  have hn := line63
  exact tail_any (typeIs_str s z t) slot_str_getitem.lookup (getItem_str (c := c) (by
    have e1 : decide (i < -(2 ^ 63 : Int)) = false := decide_eq_false (by lia)
    have e2 : decide (i ≥ 2 ^ 63) = false := decide_eq_false (by lia)
    rw [e1, e2, Bool.or_false]) (by rw [h1]; simpa using h2) ⟨.str ⟨#[c]⟩, H, I.tok _, ⟨_, rfl⟩, q⟩) hs
theorem slice_bounds (lo hi : Option Int) (n : Nat) : (sliceBounds lo hi none n).1 = ((HT.sIx n 0 lo : Nat) : Int) ∧ (sliceBounds lo hi none n).2.1 = ((HT.sIx n n hi : Nat) : Int) ∧ (sliceBounds lo hi none n).2.2 = 1 := by
  refine ⟨?_, ?_, rfl⟩
  · cases lo with
    | none => simp [sliceBounds, HT.sIx]
    | some i =>
      simp only [sliceBounds, HT.sIx, Option.getD_none, show (1 : Int) > 0 by decide, if_true]
      by_cases h : i < 0
      · simp only [h, if_true] <;> lia
      · simp only [h, if_false] <;> lia
  · cases hi with
    | none => simp [sliceBounds, HT.sIx]
    | some i =>
      simp only [sliceBounds, HT.sIx, Option.getD_none, show (1 : Int) > 0 by decide, if_true]
      by_cases h : i < 0
      · simp only [h, if_true] <;> omega
      · simp only [h, if_false] <;> omega
theorem slicePick_cut (its : List Value) (lo hi : Option Int) : slicePick its.toArray lo hi none = ((its.drop (HT.sIx its.length 0 lo)).take (HT.sIx its.length its.length hi - HT.sIx its.length 0 lo)).toArray := by
  refine Classical.byContradiction fun hnzq => ?_; obtain ⟨h1, h2, h3⟩ := slice_bounds lo hi its.toArray.size
  refine hnzq ?_; clear hnzq
  unfold slicePick
  rw [h1, h2, h3]
  simp only [sliceRange_one, pick_run, List.size_toArray] <;> rfl
noncomputable def rSlL (K : PySem.W.Frag) : V → Option Int → Option Int → Hp → VK → Prop := fun x lo hi H Q => ∃ a xs, x = .ref a ∧ SqL K H a xs ∧ ∀ p, H p = none → Q (.ref p) (upd H p (.lst (cutV xs lo hi)))
theorem sl_list : SlR X (rSlL X.K) := by
  intro pins s σ H x v vl vu lo hi sl Q I rx hs pl pu h
  refine Classical.byContradiction fun hnzq => ?_; obtain ⟨a, xs, rfl, hx, q⟩ := h
  refine hnzq ?_; clear hnzq
  cases rx
  refine Classical.byContradiction fun hnzq => ?_; obtain ⟨its, r, ht, hz⟩ := I.list hx
  refine hnzq ?_; clear hnzq
  have hlen := r.length
  refine ⟨"list", _, slot_list_getitem.lookup, ht.isList.typeIs, ?_⟩
  refine wpAny_getItem_list_slice ht.isList hs pl pu .none (by simp) ?_ (by rw [List.size_toArray] <;> lia)
  rw [slicePick_cut, ← hlen]
  refine ⟨.ref s.heap.objs.size, _, I.laid (t' := s.toks) (o := .lst (cutV xs lo hi)) (fun b ob q => Heap.get?_push_of_some _ q) (Nat.le_refl _) ?_, rfl, q _ (I.hok.fresh (Nat.le_refl _))⟩
  exact ⟨Nat.le_trans (cutV_length xs lo hi) hz, _, 0, (r.drop (HT.sIx xs.length 0 lo)).take (HT.sIx xs.length xs.length hi - HT.sIx xs.length 0 lo), Heap.get?_push_size _ rfl⟩
noncomputable def flatV : V → Bool
  | .non => true
  | .bl _ => true
  | .int _ => true
  | .str _ => true
  | _ => false
noncomputable def eqV : V → V → Bool
  | .non, .non => true
  | .bl a, .bl b => a == b
  | .bl a, .int b => (if a then 1 else 0) == b
  | .int a, .bl b => a == (if b then 1 else 0)
  | .int a, .int b => a == b
  | .str a, .str b => a == b
  | _, _ => false
theorem eqAt_V {A : Around} {s : Shared} {y x : V} {u v : Value} (ry : RelV y u) (rx : RelV x v) (fy : flatV y = true) (fx : flatV x = true) : SeqAt.EqAt A s u v (eqV y x) := by
  cases y with
  | non =>
    cases ry
    cases x with
    | non => cases rx; exact SeqAt.EqAt.same _
    | bl b => cases rx; exact SeqAt.EqAt.none_bool b
    | int b => obtain ⟨t, rfl⟩ := rx; exact SeqAt.EqAt.none_int b t
    | str b => obtain ⟨t, rfl⟩ := rx; exact SeqAt.EqAt.none_str b t
    | _ => exact absurd (show false = true from fx) Bool.false_ne_true
  | bl a =>
    cases ry
    cases x with
    | non => cases rx; exact SeqAt.EqAt.bool_none a
    | bl b => cases rx; exact SeqAt.EqAt.bool_bool a b
    | int b => obtain ⟨t, rfl⟩ := rx; exact SeqAt.EqAt.bool_int a b t
    | str b => obtain ⟨t, rfl⟩ := rx; exact SeqAt.EqAt.bool_str a b t
    | _ => exact absurd (show false = true from fx) Bool.false_ne_true
  | int a =>
    obtain ⟨t', rfl⟩ := ry
    cases x with
    | non => cases rx; exact SeqAt.EqAt.int_none a t'
    | bl b => cases rx; exact SeqAt.EqAt.int_bool a t' b
    | int b => obtain ⟨t, rfl⟩ := rx; exact SeqAt.EqAt.int_int a t' b t
    | str b => obtain ⟨t, rfl⟩ := rx; exact SeqAt.EqAt.int_str a t' b t
    | _ => exact absurd (show false = true from fx) Bool.false_ne_true
  | str a =>
    obtain ⟨t', rfl⟩ := ry
    cases x with
    | non => cases rx; exact SeqAt.EqAt.str_none a t'
    | bl b => cases rx; exact SeqAt.EqAt.str_bool a t' b
    | int b => obtain ⟨t, rfl⟩ := rx; exact SeqAt.EqAt.str_int a t' b t
    | str b => obtain ⟨t, rfl⟩ := rx; exact SeqAt.EqAt.str_str a t' b t
    | _ => exact absurd (show false = true from fx) Bool.false_ne_true
  | _ => exact absurd (show false = true from fy) Bool.false_ne_true
noncomputable def eqU (x : V) (u : Value) : Bool := match u with
  | .none => eqV .non x
  | .bool b => eqV (.bl b) x
  | .int i _ => eqV (.int i) x
  | .str z _ => eqV (.str z) x
  | _ => false
theorem eqU_of {x y : V} {u : Value} (r : RelV y u) (f : flatV y = true) : eqU x u = eqV y x := by
  cases y with
  | non => cases r; rfl
  | bl b => cases r; rfl
  | int i => obtain ⟨t, rfl⟩ := r; rfl
  | str z => obtain ⟨t, rfl⟩ := r; rfl
  | _ => exact absurd (show false = true from f) Bool.false_ne_true
theorem any_eqU {x : V} : ∀ {xs : List V} {us : List Value}, Vals xs us → xs.all flatV = true → us.any (eqU x) = xs.any fun y => eqV y x
  | _, _, .nil, _ => rfl
  | y :: xs, u :: us, .cons r t, f => by
    rw [List.all_cons, Bool.and_eq_true] at f
    rw [List.any_cons, List.any_cons, eqU_of r f.1, any_eqU t f.2]
theorem mem_eqAt {A : Around} {s : Shared} {x : V} {v : Value} (rx : RelV x v) (fx : flatV x = true) : ∀ {xs : List V} {us : List Value}, Vals xs us → xs.all flatV = true → ∀ u ∈ us, SeqAt.EqAt A s u v (eqU x u)
  | _, _, .nil, _ => fun u hu => by cases hu
  | y :: xs, u :: us, .cons r t, f => fun u' hu => by
    rw [List.all_cons, Bool.and_eq_true] at f
    rcases List.mem_cons.mp hu with rfl | hu
    · rw [eqU_of r f.1]; exact eqAt_V r rx f.1 fx
    · exact mem_eqAt rx fx t f.2 u' hu
noncomputable def inV (x : V) (xs : List V) : Bool := xs.any fun y => eqV y x
noncomputable def rIn (K : PySem.W.Frag) (neg : Bool) : R2 := fun x y H Q => ∃ p xs, y = .ref p ∧ (SqL K H p xs ∨ SqT K H p xs) ∧ flatV x = true ∧ xs.all flatV = true ∧ Q (.bl (if neg then !inV x xs else inV x xs)) H
theorem op_in_seq : OpR X (compareOp .In) (rIn X.K false) := by
  intro pins s σ H x y v u Q I rx ry h
  refine Classical.byContradiction fun hnzq => ?_; obtain ⟨p, xs, rfl, hq, fx, fs, q⟩ := h
  refine hnzq ?_; clear hnzq
  cases ry
  rcases hq with hq | hq
  · refine Classical.byContradiction fun hnzq => ?_; obtain ⟨its, r, pl, hz⟩ := I.list hq
    refine hnzq ?_; clear hnzq
    refine SeqAt.in_listAt (eqU x) pl.isList (fun w hw => mem_eqAt rx fx r fs w (by simpa using hw)) ⟨.bl _, H, I, rfl, ?_⟩
    rw [show its.toArray.any (eqU x) = its.any (eqU x) by simp, any_eqU r fs]
    exact q
  · refine Classical.byContradiction fun hnzq => ?_; obtain ⟨its, r, pl, hz⟩ := I.tuple hq
    refine hnzq ?_; clear hnzq
    refine SeqAt.in_tupleAt (eqU x) pl (fun w hw => mem_eqAt rx fx r fs w (by simpa using hw)) ⟨.bl _, H, I, rfl, ?_⟩
    rw [show its.toArray.any (eqU x) = its.any (eqU x) by simp, any_eqU r fs]
    exact q
theorem op_notIn_seq : OpR X (compareOp .NotIn) (rIn X.K true) := by
  intro pins s σ H x y v u Q I rx ry h
  refine Classical.byContradiction fun hnzq => ?_; obtain ⟨p, xs, rfl, hq, fx, fs, q⟩ := h
  refine hnzq ?_; clear hnzq
  cases ry
  rcases hq with hq | hq
  · refine Classical.byContradiction fun hnzq => ?_; obtain ⟨its, r, pl, hz⟩ := I.list hq
    refine hnzq ?_; clear hnzq
    refine SeqAt.notIn_listAt (eqU x) pl.isList (fun w hw => mem_eqAt rx fx r fs w (by simpa using hw)) ⟨.bl _, H, I, rfl, ?_⟩
    rw [show its.toArray.any (eqU x) = its.any (eqU x) by simp, any_eqU r fs]
    exact q
  · refine Classical.byContradiction fun hnzq => ?_; obtain ⟨its, r, pl, hz⟩ := I.tuple hq
    refine hnzq ?_; clear hnzq
    refine SeqAt.notIn_tupleAt (eqU x) pl (fun w hw => mem_eqAt rx fx r fs w (by simpa using hw)) ⟨.bl _, H, I, rfl, ?_⟩
    rw [show its.toArray.any (eqU x) = its.any (eqU x) by simp, any_eqU r fs]
    exact q
theorem call_len_seq : CallR X (.builtin "len") (fun xs H Q => ∃ p ys, xs = [.ref p] ∧ (SqL X.K H p ys ∨ SqT X.K H p ys) ∧ Q (.int ys.length) H) := by
  intro pins s σ H xs us Q I r h
  refine Classical.byContradiction fun hnzq => ?_; obtain ⟨p, ys, rfl, hq, q⟩ := h
  refine hnzq ?_; clear hnzq
  refine Classical.byContradiction fun hnzq => ?_; obtain ⟨u, rfl, rx⟩ := vals1 r
  refine hnzq ?_; clear hnzq
  cases rx
  have hn := line63
  rcases hq with hq | hq
  · refine Classical.byContradiction fun hnzq => ?_; obtain ⟨its, r', pl, hz⟩ := I.list hq
    refine hnzq ?_; clear hnzq
    have hlen := r'.length
    exact Calls.call_len_list pl.isList (by simp only [List.size_toArray] <;> omega) ⟨.int ys.length, H, I.tok _, ⟨s.toks + 1, by rw [List.size_toArray, hlen]⟩, q⟩
  · refine Classical.byContradiction fun hnzq => ?_; obtain ⟨its, r', pl, hz⟩ := I.tuple hq
    refine hnzq ?_; clear hnzq
    have hlen := r'.length
    exact len_tuple pl (by simp only [List.size_toArray] <;> omega) ⟨.int ys.length, H, I.tok _, ⟨s.toks + 1, by rw [List.size_toArray, hlen]⟩, q⟩
theorem call_len_str : CallR X (.builtin "len") (fun xs H Q => ∃ z, xs = [.str z] ∧ z.length ≤ sizeLine ∧ Q (.int z.length) H) := by
  intro pins s σ H xs us Q I r h
  refine Classical.byContradiction fun hnzq => ?_; obtain ⟨z, rfl, hz, q⟩ := h
  refine hnzq ?_; clear hnzq
  refine Classical.byContradiction fun hnzq => ?_; obtain ⟨u, rfl, t, rfl⟩ := vals1 r
  refine hnzq ?_; clear hnzq
  have hn := line63
  exact len_str (by lia) ⟨.int z.length, H, I.tok _, ⟨_, rfl⟩, q⟩
theorem call_list_of : CallR X (.type "list") (fun xs H Q => ∃ p ys, xs = [.ref p] ∧ (SqL X.K H p ys ∨ SqT X.K H p ys) ∧ ∀ l, H l = none → Q (.ref l) (upd H l (.lst ys))) := by
  intro pins s σ H xs us Q I r h
  refine Classical.byContradiction fun hnzq => ?_; obtain ⟨p, ys, rfl, hq, q⟩ := h
  refine hnzq ?_; clear hnzq
  refine Classical.byContradiction fun hnzq => ?_; obtain ⟨u, rfl, rx⟩ := vals1 r
  refine hnzq ?_; clear hnzq
  cases rx
  have fin : ∀ (its : List Value), Vals ys its → ys.length ≤ sizeLine → ∀ (h' : Heap) (c' : Nat), (∀ b o', s.heap.get? b = some o' → h'.get? b = some o') →
      h'.get? s.heap.objs.size = some { cls := .type "list", dict := none, data := .seq its.toArray c', slots := #[] } → EP X pins σ Q (.ref s.heap.objs.size) { s with heap := h' } := fun its r' hz h' c' kp e =>
    ⟨.ref s.heap.objs.size, _, I.laid (t' := s.toks) kp (Nat.le_refl _) (show ObjOk X.prog X.w _ h' _ (.lst ys) from ⟨hz, its, c', r', e⟩), rfl, q _ (I.hok.fresh (Nat.le_refl _))⟩
  rcases hq with hq | hq
  · refine Classical.byContradiction fun hnzq => ?_; obtain ⟨its, r', pl, hz⟩ := I.list hq
    refine hnzq ?_; clear hnzq
    have hlen := r'.length
    refine Classical.byContradiction fun hnzq => ?_; obtain ⟨o, ho, hc, n, hd⟩ := pl.isList
    refine hnzq ?_; clear hnzq
    exact call_list_seq p (.inl rfl) ho hc hd (fun h' c' kp e => fin its r' hz h' c' kp e) (by simp only [List.size_toArray] <;> omega)
  · refine Classical.byContradiction fun hnzq => ?_; obtain ⟨its, r', pl, hz⟩ := I.tuple hq
    refine hnzq ?_; clear hnzq
    have hlen := r'.length
    refine Classical.byContradiction fun hnzq => ?_; obtain ⟨o, ho, hc, n, hd⟩ := pl
    refine hnzq ?_; clear hnzq
    exact call_list_seq p (.inr rfl) ho hc hd (fun h' c' kp e => fin its r' hz h' c' kp e) (by simp only [List.size_toArray] <;> omega)
noncomputable def tyV (K : PySem.W.Frag) (T : String) (x : V) (H : Hp) : Prop := match x with
  | .str _ => T = "str"
  | .int _ => T = "int"
  | .ref p => (T = "list" ∧ ∃ xs, SqL K H p xs) ∨ (T = "tuple" ∧ ∃ o, K.lookup p = some o ∧ o.cls = .type "tuple" ∧ o.dict = none) ∨
      (T = "dict" ∧ ((∃ kvs, H p = some (.dK kvs)) ∨ ∃ kvs, H p = some (.dT kvs))) ∨ (T = "set" ∧ ∃ S n, H p = some (.set S n))
  | _ => False
theorem tyV_is {pins : List (Addr × Obj)} {σ : St} {H : Hp} {s : Shared} {T : String} {x : V} {v : Value} (I : Inv X pins σ H s) (r : RelV x v) (ty : tyV X.K T x H) :
    s.TypeIs v T ∧ ∀ a, v = .ref a → ∃ ob, s.heap.get? a = some ob ∧ ob.dict = none := by
  cases x with
  | str z =>
    obtain ⟨t, rfl⟩ := r
    cases (show T = "str" from ty)
    exact ⟨typeIs_str s z t, fun _ e => nomatch e⟩
  | int i =>
    obtain ⟨t, rfl⟩ := r
    cases (show T = "int" from ty)
    exact ⟨typeIs_int s i t, fun _ e => nomatch e⟩
  | ref p =>
    cases r
    rcases ty with ⟨rfl, xs, hq⟩ | ⟨rfl, o, hk, hc, hd⟩ | ⟨rfl, hk⟩ | ⟨rfl, S, n, hk⟩
    · refine Classical.byContradiction fun hnzq => ?_; obtain ⟨its, _, pl, _⟩ := I.list hq
      refine hnzq ?_; clear hnzq
      refine ⟨pl.isList.typeIs, fun a e => ?_⟩
      cases e
      refine Classical.byContradiction fun hnzq => ?_; obtain ⟨o, n, e, c, hd, _⟩ := pl
      refine hnzq ?_; clear hnzq
      exact ⟨o, e, hd⟩
    · refine ⟨⟨o, I.kIn p o hk, hc⟩, fun a e => ?_⟩
      cases e
      exact ⟨o, I.kIn _ o hk, hd⟩
    · have z : ∃ o, s.heap.get? p = some o ∧ o.ExactDict := by
        rcases hk with ⟨kvs, hk⟩ | ⟨kvs, hk⟩
        · refine Classical.byContradiction fun hnzq => ?_; obtain ⟨_, _, _, _, o, _, _, e, ex, _⟩ := I.hok p _ hk
          refine hnzq ?_; clear hnzq
          exact ⟨o, e, ex⟩
        · refine Classical.byContradiction fun hnzq => ?_; obtain ⟨_, _, _, _, o, _, _, e, ex, _⟩ := I.hok p _ hk
          refine hnzq ?_; clear hnzq
          exact ⟨o, e, ex⟩
      refine Classical.byContradiction fun hnzq => ?_; obtain ⟨o, e, ex⟩ := z
      refine hnzq ?_; clear hnzq
      refine ⟨⟨o, e, ex.1⟩, fun a e2 => ?_⟩
      cases e2
      exact ⟨o, e, ex.2.1⟩
    · refine Classical.byContradiction fun hnzq => ?_; obtain ⟨o, _, _, _, e, ex, _⟩ := I.hok p _ hk
      refine hnzq ?_; clear hnzq
      refine ⟨⟨o, e, ex.1⟩, fun a e2 => ?_⟩
      cases e2
      exact ⟨o, e, ex.2.1⟩
  | _ => exact False.elim ty
noncomputable def tBM (K : PySem.W.Frag) (T : String) (r : V → List V → Hp → VK → Prop) (to : TE) (t : TA) : TE := fun σ H Q => to σ H fun x H1 => tyV K T x H1 ∧ t σ H1 fun xs H2 => r x xs H2 Q
variable {o e : Expr} {es : List Expr} {to : TE} {t : TA} {name : Str} {apos cpos : Pos} {T id : String} {r : V → List V → Hp → VK → Prop}
theorem pe_bm (pa : PlainAttrs T) (slot : Slot T name id) (hty : typeOf (.builtin id) = pure (.type "method_descriptor")) (hm : MtR X id r) (ho : PE X o to) (ha : PA X (e :: es) t)
    (hbase : attributeBase o name X.env (eval o X.env) = eval o X.env := by rfl)
    (hfew : ((backTo cpos (starEach (e :: es) X.env)).all (fun x => !x.1) && (backToKw cpos (keywordEach [] X.env)).all (fun x => x.1.isSome)
      && decide ((e :: es).length + ([] : List Keyword).length + (if ([] : List Keyword).isEmpty then 0 else 1) < 30)) = true := by rfl)
    (hline : (apos.endLine == cpos.line) = true := by rfl) (hs : starEach (e :: es) X.env = (false, eval e X.env) :: starEach es X.env := by rfl) (hplain : (backTo cpos (starEach es X.env)).any (·.1) = false := by rfl) :
    PE X (.Call (.Attribute o name apos) (e :: es) [] cpos) (tBM X.K T r to t) := by
  intro pins s σ H Q I h
  refine wpAny_Call_method_late hbase hfew hline rfl (thn (ho pins s σ H _ I h) fun v s1 zzq => ?_)
  refine Classical.byContradiction fun hnzq => ?_; obtain ⟨x, H1, I1, r1, ty, q1⟩ := zzq; refine hnzq ?_; clear hnzq
  obtain ⟨h1, h2⟩ := tyV_is I1 r1 ty
  refine ⟨T, id, pa, slot, hty, h1, h2, ?_⟩
  have hA := ha cpos pins s1 σ H1 _ I1 q1
  rw [hs] at hA ⊢
  refine Calls.callWith_builtin (by show (false || (backTo cpos (starEach es X.env)).any (·.1)) = false; rw [hplain] <;> rfl) (Calls.evalArgs_plain ?_)
  exact thn hA fun us s2 ⟨vs, H2, I2, r2, q2⟩ => hm pins s2 σ H2 x vs v us Q I2 r1 r2 q2
end
end L2
namespace L2
open PySem PySem.Spec PyProof.Rows
noncomputable def MtM (X : Cx) (id : String) (r : V → List V → Hp → VK → Prop) : Prop :=
  ∀ (pins : List (Addr × Obj)) (s : Shared) (σ : St) (H : Hp) (x : V) (xs : List V) (v : Value) (us : List Value) (Q : VK), Inv X pins σ H s → RelV x v → Vals xs us → r x xs H Q →
    wpAny (model X.prog X.w) X.A (call (.builtin id) (v :: us)) (EP X pins σ Q) X.xe s
theorem Vals.one : ∀ {x : V} {us : List Value}, Vals [x] us → ∃ u, us = [u] ∧ RelV x u
  | _, _, .cons r .nil => ⟨_, rfl, r⟩
section
variable {X : Cx} {pins : List (Addr × Obj)} {σ : St} {H : Hp} {s : Shared} {l b : Addr} {xs ys zs : List V}
theorem Inv.lset {its its' : List Value} {n : Nat} {f : Array Value → Array Value} {t' : Nat} (I : Inv X pins σ H s) (hH : H l = some (.lst xs))
    (e : s.heap.get? l = some { cls := .type "list", data := .seq its.toArray n }) (hf : f its.toArray = its'.toArray) (hv : Vals ys its') (hz : ys.length ≤ sizeLine) :
    Inv X pins σ (upd H l (.lst ys)) { s with heap := s.heap.update l (Obj.mapSeq f), toks := t' } := by
  have q := PySem.IsL.update e f
  rw [hf] at q
  refine I.write (x := l) (e := l) (by rw [hH]; exact trivial) (.inl rfl) (fun b' u hb hu => (Heap.get?_update_other s.heap (Obj.mapSeq f) (Ne.symm hb)).trans hu) ⟨_, q⟩ ?_
  exact ⟨hz, its', _, hv, q⟩
theorem Inv.lnew {its : List Value} {t' : Nat} (I : Inv X pins σ H s) (hv : Vals ys its) (hz : ys.length ≤ sizeLine) :
    Inv X pins σ (upd H s.heap.objs.size (.lst ys)) { s with heap := s.heap.push { cls := .type "list", data := .seq its.toArray }, toks := t' } :=
  I.laid (fun _ _ q => Heap.get?_push_of_some _ q) (Nat.le_refl _) ⟨hz, its, 0, hv, Heap.get?_push_size _ rfl⟩
theorem Inv.fresh (I : Inv X pins σ H s) : H s.heap.objs.size = none := I.hok.fresh (Nat.le_refl _)
theorem Inv.lstM (I : Inv X pins σ H s) (hH : H l = some (.lst xs)) : xs.length ≤ sizeLine ∧ ∃ (its : List Value) (n : Nat), Vals xs its ∧ xs.length = its.length ∧ s.heap.get? l = some { cls := .type "list", data := .seq its.toArray n } := by
  refine Classical.byContradiction fun hnzq => ?_; obtain ⟨z, its, n, r, e⟩ := I.hok l _ hH
  refine hnzq ?_; clear hnzq
  exact ⟨z, its, n, r, r.length, e⟩
end
section
variable {X : Cx}
noncomputable def rAppend : V → List V → Hp → VK → Prop := fun x vs H Q => ∃ l xs y, x = .ref l ∧ vs = [y] ∧ H l = some (.lst xs) ∧ xs.length < sizeLine ∧ Q .non (upd H l (.lst (xs ++ [y])))
theorem mt_append : MtM X "list.append" rAppend := by
  intro pins s σ H x vs v us Q I rx rv h
  refine Classical.byContradiction fun hnzq => ?_; obtain ⟨l, xs, y, rfl, rfl, hH, hz, q⟩ := h
  refine hnzq ?_; clear hnzq
  cases rx
  refine Classical.byContradiction fun hnzq => ?_; obtain ⟨u, rfl, ru⟩ := rv.one
  refine hnzq ?_; clear hnzq
  refine Classical.byContradiction fun hnzq => ?_; obtain ⟨z, its, n, r, hl, e⟩ := I.lstM hH
  refine hnzq ?_; clear hnzq
  refine call_meets F.slot_list_append ⟨_, e, rfl⟩ F.entry_list_append (F.args_list_append_2 _ _) (PySem.list_append l its.toArray n u (by rw [List.size_toArray]; lia)) ⟨e, ?_⟩
  refine ⟨.non, _, I.lset (its' := its ++ [u]) hH e (by simp) (r.append (.cons ru .nil)) ?_, rfl, q⟩
  rw [List.length_append, List.length_singleton]
  lia
noncomputable def rCat : R2 := fun x y H Q => ∃ l b xs zs, x = .ref l ∧ y = .ref b ∧ H l = some (.lst xs) ∧ H b = some (.lst zs) ∧ xs.length + zs.length ≤ sizeLine ∧ ∀ p, H p = none → Q (.ref p) (upd H p (.lst (xs ++ zs)))
theorem op_cat : OpR X (binaryOp .Add) rCat := by
  intro pins s σ H x y v u Q I rx ry h
  refine Classical.byContradiction fun hnzq => ?_; obtain ⟨l, b, xs, zs, rfl, rfl, hH, hB, hz, q⟩ := h
  refine hnzq ?_; clear hnzq
  cases rx
  cases ry
  refine Classical.byContradiction fun hnzq => ?_; obtain ⟨z, its, n, r, hl, e⟩ := I.lstM hH
  refine hnzq ?_; clear hnzq
  refine Classical.byContradiction fun hnzq => ?_; obtain ⟨z2, its2, n2, r2, hl2, e2⟩ := I.lstM hB
  refine hnzq ?_; clear hnzq
  refine PySem.P.add_list e e2 ?_ (by rw [List.size_toArray, List.size_toArray]; lia)
  have ea : its.toArray ++ its2.toArray = (its ++ its2).toArray := by simp
  rw [ea]
  exact ⟨.ref _, _, I.lnew (t' := s.toks) (r.append r2) (by rw [List.length_append]; omega), rfl, q _ I.fresh⟩
end
section
variable {prog : Program} {w : World} {A : Around} {E : Value → Shared → Prop} {s : Shared}
end
section
variable {X : Cx}
end
end L2
namespace Att
open PySem PySem.W PySem.Calls PyProof.Rows
theorem ints_of_wellAll {P : Params} {h : Heap} : ∀ (ns : List Int) (vs : List Value), WellAll P h vs (ns.map WData.int) → IntsAre vs ns := by
  intro ns
  induction ns with
  | nil =>
    intro vs w
    rw [List.map_nil] at w
    cases w
    exact .nil
  | cons n ns ih =>
    intro vs w
    rw [List.map_cons] at w
    cases w with
    | cons a b =>
      cases a
      exact .cons _ _ (ih _ b)
theorem script_of {l : OpenLaw} {n : Nat} (hn : l.most = some n) {P : Params} {h : Heap} {args : List WData} {vals : List Value}
    (hpre : l.row.toRowW.claim.pre args = true) (hwl : WellAll P h vals args) :
    ∃ a vs ns, vals = [Value.ref a] ∧ args = [WData.list (ns.map WData.int)] ∧ h.get? a = some { cls := .type "list", data := .seq vs.toArray } ∧ IntsAre vs ns ∧ ns.length ≤ n := by
  have hsh : WShape.hasAll [] args [.list .int] = true := (pre_splitW hpre).1
  have hc : l.pre.holds [] { args := args } = true := (pre_splitW hpre).2
  refine Classical.byContradiction fun hnzq => ?_; obtain ⟨d, r, rfl, h1, h2⟩ := hasAllW_cons hsh
  refine hnzq ?_; clear hnzq
  obtain rfl := hasAllW_nil h2
  refine Classical.byContradiction fun hnzq => ?_; obtain ⟨xs, rfl, h3⟩ := hasW_list h1
  refine hnzq ?_; clear hnzq
  obtain ⟨ns, rfl⟩ := items_int h3
  have hlen : ns.length ≤ n := by
    unfold OpenLaw.pre at hc
    have h4 : (WTm.not (.lt (.lit (.int (n : Int))) (.len (.arg 0)))).holds [] { args := [.list (ns.map .int)] } = true := by
      have h4 := (holds_andW hc).1
      rw [hn] at h4
      exact h4
    have h5 := condW_of h4 (w_not (w_lt w_lit (w_len_list (w_arg rfl))))
    rw [List.length_map] at h5
    refine Nat.le_of_not_lt fun q => ?_
    have q' : (n : Int) < ((ns.length : Nat) : Int) := by (exact Int.ofNat_lt.mpr (by assumption))
    first
      | (rw [decide_eq_true q'] at h5; exact absurd h5 (by decide))
      | (simp at h5; omega)
  cases hwl with
  | cons w1 w2 =>
    cases w2
    cases w1 with
    | list ho hall => exact ⟨_, _, ns, rfl, rfl, ho, ints_of_wellAll ns _ hall, hlen⟩
theorem post_true (l : OpenLaw) (args : List WData) : l.row.toRowW.claim.post args (.bool true) args = true :=
  postW_of (r := l.row.toRowW) (X := (true == true))
    (show WShape.has [] (.bool true) .bool = true by first | rfl | decide | simp [WShape.has, WShape.arms, WShape.armsAll])
    (show (WTm.eq .res (.lit (.bool true))).value [] { args := args, res := some (.bool true), after := args } = some (.bool (true == true)) from w_eq_bool (w_res rfl) w_lit) rfl
theorem attach_call {l : OpenLaw} {n : Nat} {q : Program} {loose : List Str} {XP : (Str → Option Value) → Heap → Prop} {YP : World → Heap → Prop} {d : DefRec}
    (hn : l.most = some n) (hdf : d.params.defaults = [])
    (call : ∀ (w : World) (s₀ s₁ : Shared) (mg mb : Str → Option Value) (fa : Addr) (o : Obj) (pm cd doc : Value) (a : Addr) (vs : List Value) (ns : List Int),
      Ground q loose [] XP w s₀ mg mb s₁.heap → YP w s₁.heap →
      s₁.heap.get? fa = some o → o.data = .func (docDef d.name d.params d.body d.scope pm cd doc) → s₁.heap.CodeRec cd d.name → mg d.name = some (.ref fa) →
      s₁.heap.get? a = some { cls := .type "list", data := .seq vs.toArray } → IntsAre vs ns → ns.length ≤ n → s₁.gens = #[] →
      codeAny (model l.prog w) callerA (.call (.ref fa) ⟨[.ref a], []⟩) (fun r s' => r = .ok (.ret (.bool true)) ∧ OldK s₁.heap s'.heap ∧ s'.os = s₁.os ∧ AllBare s'.gens) s₁) :
    WalkO q loose XP YP l.row.toRowW d [] (fun f vs => PySem.call f vs) := by
  intro w s₀ s₁ mg mb G Y fa o pm cd doc dV kV ho hd hcd hD hmg hg args vals as hpre hlay hrd hwl hlo
  obtain rfl : dV = .none := Dflts.none hD hdf
  obtain rfl : kV = .none := Dflts.noKw hD
  refine Classical.byContradiction fun hnzq => ?_; obtain ⟨a, vs, ns, rfl, rfl, hobj, hints, hlen⟩ := script_of hn hpre hwl
  refine hnzq ?_; clear hnzq
  refine enter_call (codeAny_mono (call w s₀ s₁ mg mb fa o pm cd doc a vs ns G Y ho (fd_plain hd) hcd hmg hobj hints hlen hg) fun r s' hq => ?_)
  refine Classical.byContradiction fun hnzq => ?_; obtain ⟨rfl, h2, h3, h4⟩ := hq
  refine hnzq ?_; clear hnzq
  exact ⟨.inl ⟨.bool true, .bool true, [], rfl, fun _ => rfl, .bool true, post_true l _, fun _ => ⟨List.Pairwise.nil, fun _ hm => (nomatch hm)⟩⟩, h2, h3, h4⟩
section
variable {prog : Program} {w : World} {A : Around} {E : Value → Shared → Prop} {s : Shared} {K : Frag}
end
end Att
namespace L2
open PySem PySem.Spec PyProof.Rows
theorem vals_ints : ∀ {vs : List Value} {ns : List Int}, IntsAre vs ns → Vals (ns.map V.int) vs
  | _, _, .nil => .nil
  | _, _, .cons n t h => .cons ⟨t, rfl⟩ (vals_ints h)
noncomputable def Only (H : Hp) : Prop := ∀ b, H b = none ∨ ∃ o xs, H b = some (.frz o (.lst xs))
theorem law_call {P : Program} {w : World} {K : PySem.W.Frag} {mg mb : Str → Option Value} {CX : CXT} {k : Nat} {fa a : Addr} {fd : FuncData} {x : Str} {sp : Sp} {s₁ : Shared} {vs : List Value} {ns : List Int}
    (KX : K.In s₁.heap) (hns : s₁.heap.Ns mainGlobals mg) (hb : s₁.heap.Ns builtinsNs mb) (hbb : ∀ x : Str, x ≠ "__name__" → mb x = bootBuiltins x) (hlim : s₁.heap.NoLimit) (hg : s₁.gens = #[])
    (ha : s₁.heap.get? a = some { cls := .type "list", data := .seq vs.toArray }) (hi : IntsAre vs ns) (hl : ns.length ≤ sizeLine) (hr : Room k callerA)
    (F : ∀ base : Heap, K.In base → base.Ns mainGlobals mg → FnOk P w K mg base CX k fa fd [x] sp) (hbind : ∀ (s : Shared) (u : Value), BindsTo s fd ⟨[u], []⟩ [(x, u)])
    (hsp : ∀ H : Hp, Only H → SqL K H a (ns.map V.int) → sp [.ref a] H (fun v _ => v = .bl true) fun _ _ _ => False)
    (hCX : ∀ H e s', CX [] H s₁ (fun _ _ _ => False) e s' → False) :
    codeAny (model P w) callerA (.call (.ref fa) ⟨[.ref a], []⟩) (fun r s' => r = .ok (.ret (.bool true)) ∧ OldK s₁.heap s'.heap ∧ s'.os = s₁.os ∧ AllBare s'.gens) s₁ := by
  have rv := vals_ints hi
  have lenV := hi.length
  have core : ∀ H : Hp, Only H → SqL K H a (ns.map V.int) → HOk P w H s₁.heap → (∀ b, H b ≠ none → b = a) → (H a ≠ none → K.lookup a = none) →
      codeAny (model P w) callerA (.call (.ref fa) ⟨[.ref a], []⟩) (fun r s' => r = .ok (.ret (.bool true)) ∧ OldK s₁.heap s'.heap ∧ s'.os = s₁.os ∧ AllBare s'.gens) s₁ := by
    intro H hO hS hok hA hK
    have base_of : ∀ {b : Addr} {o : Obj}, s₁.heap.get? b = some o → H b = none → (hidT s₁.heap H).get? b = some o := fun e n => hidT_get e n
    have noA : ∀ {b : Addr} {o : Obj} {es : Array DictEntry} {ep : Nat}, s₁.heap.get? b = some o → o.data = .dict es ep → H b = none := fun {b o es ep} e d => by
      cases q : H b with
      | none => rfl
      | some u =>
        have e' : b = a := hA b (by rw [q]; simp)
        subst e'
        rw [ha] at e; cases e
        have d' : Data.seq vs.toArray _ = Data.dict es ep := d
        cases d'
    have nsK : ∀ {b : Addr} {m : Str → Option Value}, s₁.heap.Ns b m → (hidT s₁.heap H).Ns b m := fun {b m} ⟨o, es, ep, e, d, r⟩ => ⟨o, es, ep, base_of e (noA e d), d, r⟩
    have hKb : K.In (hidT s₁.heap H) := fun b o e => base_of (KX b o e) (by
      cases q : H b with
      | none => rfl
      | some u =>
        have e' : b = a := hA b (by rw [q]; simp)
        subst e'
        rw [hK (by rw [q]; simp)] at e; cases e)
    have hM : Mod K mg (hidT s₁.heap H) := ⟨hKb, nsK hns, ⟨mb, nsK hb, hbb⟩, let ⟨mc, h1, h2⟩ := hlim; ⟨mc, nsK h1, h2⟩⟩
    have e0 : Env0 P w K mg (hidT s₁.heap H) callerA [] s₁ H := ⟨rfl, hM, fun b o e => of_hidT e, Nat.le_of_eq (hidT_size _ _), trivial, fun b hb => absurd (show b ∈ ([] : List Addr) from hb) (by simp), hok, .of_eq hg⟩
    refine codeAny_mono ((F _ hKb (nsK hns)).run callerA [] s₁ H ⟨[.ref a], []⟩ [.ref a] [.ref a] _ _ hr e0 (hbind s₁ (.ref a)) (.cons rfl .nil) (hsp H hO hS)) fun r s' h => ?_
    cases r with
    | error e => exact (hCX H e s' h).elim
    | ok fl =>
      cases fl with
      | next => exact False.elim h
      | brk => exact False.elim h
      | cont => exact False.elim h
      | ret u =>
        refine Classical.byContradiction fun hnzq => ?_; obtain ⟨v, H', os, bare, un, hok', r', q⟩ := h
        refine hnzq ?_; clear hnzq
        have q' : v = .bl true := q
        subst q'
        obtain rfl : u = Value.bool true := r'
        refine ⟨rfl, OldK.of_keep fun b o e => ?_, os, bare⟩
        cases q : H b with
        | none => exact un.keep b o e q (by intro z; exact absurd (show b ∈ ([] : List Addr) from z) (by simp)) (by simp)
        | some u =>
          rcases hO b with z | ⟨ob, xs, z⟩
          · rw [q] at z; cases z
          · have z2 := un.frzs b ob _ z
            obtain ⟨e1, _⟩ := hok b _ z
            obtain ⟨e2, _⟩ := hok' b _ z2
            rw [e] at e1; cases e1
            exact e2
  cases hk : K.lookup a with
  | some o =>
    have e := KX a o hk
    rw [ha] at e
    cases e
    refine core (fun _ => none) (fun _ => .inl rfl) (.inr ⟨_, vs.toArray, _, hk, rfl, rfl, rfl, by rw [List.size_toArray, lenV]; exact hl, by simpa using rv⟩) (fun b u z => by have z' : (none : Option HO) = some u := z; cases z') (fun b z => absurd rfl z) fun z => absurd rfl z
  | none =>
    refine core (fun b => if b = a then some (.frz { cls := .type "list", data := .seq vs.toArray } (.lst (ns.map V.int))) else none) (fun b => ?_) (.inl (.inr ⟨{ cls := .type "list", data := .seq vs.toArray }, if_pos rfl⟩)) (fun b u z => ?_) (fun b z => ?_) fun _ => hk
    · by_cases hb : b = a
      · exact .inr ⟨_, _, if_pos hb⟩
      · exact .inl (if_neg hb)
    · by_cases hb : b = a
      · have z' := (if_pos hb).symm.trans z
        cases z'
        subst hb
        exact ⟨ha, by rw [List.length_map]; exact hl, vs, _, rv, ha⟩
      · have z' := (if_neg hb).symm.trans z
        cases z'
    · by_cases hb : b = a
      · exact hb
      · exact absurd (if_neg hb) z
end L2
namespace L2
open PySem PySem.Spec PyProof.Rows
set_option genInjectivity false in
set_option genSizeOf false in
set_option genSizeOfSpec false in
theorem walk_of {l : PySem.W.OpenLaw} {n k : Nat} {q : Program} {loose : List Str} {XP : (Str → Option Value) → Heap → Prop} {YP : World → Heap → Prop} {d : DefRec} {K : Params → PySem.W.Frag} {CX : World → CXT} {sp : World → Sp} {x : Str}
    (hn : l.most = some n) (hn2 : n ≤ sizeLine) (hdf : d.params.defaults = []) (hr : Room k callerA)
    (hY : ∀ (w : World) (h : Heap), YP w h → (K w.params).In h)
    (F : ∀ (w : World) (mg : Str → Option Value) (fa : Addr) (h : Heap), (K w.params).In h → h.Ns mainGlobals mg → mg d.name = some (.ref fa) →
      ∃ fd : FuncData, (∀ (s : Shared) (u : Value), BindsTo s fd ⟨[u], []⟩ [(x, u)]) ∧
        ∀ base : Heap, (K w.params).In base → base.Ns mainGlobals mg → FnOk l.prog w (K w.params) mg base (CX w) k fa fd [x] (sp w))
    (hsp : ∀ (w : World) (H : Hp) (a : Addr) (ns : List Int), ns.length ≤ n → Only H → SqL (K w.params) H a (ns.map V.int) → sp w [.ref a] H (fun v _ => v = .bl true) fun _ _ _ => False)
    (hCX : ∀ (w : World) (H : Hp) (s : Shared) (e : Value) (s' : Shared), CX w [] H s (fun _ _ _ => False) e s' → False) :
    PySem.W.WalkO q loose XP YP l.row.toRowW d [] (fun f vs => PySem.call f vs) := by
  refine Att.attach_call hn hdf fun w s₀ s₁ mg mb fa o pm cd doc a vs ns G Y ho hd hcd hmg hobj hints hlen hg => ?_
  have KX := hY w _ Y
  refine Classical.byContradiction fun hnzq => ?_; obtain ⟨fd, hb, hF⟩ := F w mg fa _ KX G.T.g hmg
  refine hnzq ?_; clear hnzq
  exact law_call KX G.T.g G.T.b G.T.builtins G.T.nolimit hg hobj hints (Nat.le_trans hlen hn2) hr hF hb (fun H hO hS => hsp w H a ns hlen hO hS) fun H e s' => hCX w H s₁ e s'
end L2
namespace L2
open PySem PySem.Spec PyProof.Rows
noncomputable def defArgs (s : Stmt) : Arguments := match s with
  | .FunctionDef _ a _ _ _ _ _ _ _ _ => a
  | _ => { posonlyargs := [], args := [], vararg := none, kwonlyargs := [], kw_defaults := [], kwarg := none, defaults := [] }
noncomputable def defBody (s : Stmt) : List Stmt := match s with
  | .FunctionDef _ _ b _ _ _ _ _ _ _ => b
  | _ => []
noncomputable def defScope (s : Stmt) : Scope := match s with
  | .FunctionDef _ _ _ _ _ _ sc _ _ _ => sc
  | _ => { kind := .function, names := [], isGenerator := false, isCoroutine := false }
noncomputable abbrev CX0 : CXT := fun _ _ _ _ _ _ => False
noncomputable abbrev E0 : XK := fun _ _ _ => False
theorem pass0 {X : Cx} : Passes CX0 X E0 := fun _ _ _ _ _ _ _ h => h.elim
structure Fun (K : PySem.W.Frag) (x qual : Str) (st : Stmt) (f : Addr) (fd : FuncData) : Prop where
  ex : ∃ (oc : Value) (od : Option Addr) (kV doc pm : Value) (an : Option Addr) (cdv ct : Value) (osl : Array (Option Value)),
    fd = PySem.W.fnOf x qual (defArgs st) (defBody st) (defScope st) .none kV doc pm an cdv ct ∧ K.lookup f = some ⟨oc, od, .func fd, osl⟩ ∧ PySem.W.codeIn K cdv qual = true
  kp : PySem.W.keepIn K (.ref f) = true
section
variable {P : Program} {w : World} {K : PySem.W.Frag} {mg : Str → Option Value} {base : Heap}
theorem Fun.ok {x qual : Str} {st : Stmt} {f : Addr} {fd : FuncData} {N ps : List Str} {k : Nat} {sp : Sp} (F : Fun K x qual st f fd) (S : FnScope N ps (defScope st)) (len : ∀ vs H Q E, sp vs H Q E → vs.length = ps.length)
    (hbody : ∀ (cdv : Value) (A : Around) (outer : List Env) (s : Shared) (H : Hp) (vs : List V) (Q : VK) (E : XK), Room k (A.deeper (envOfC qual (defScope st) s.heap.objs.size f cdv)) → sp vs H Q E →
      ∃ t, PSs (cxOf CX0 P w K mg base N qual (defScope st) f cdv A outer s H E).nox (defBody st) t ∧ t { nx := fun _ H' => Q .non H', rt := Q } (start N vs) H) : FnOk P w K mg base CX0 (k + 1) f fd ps sp := by
  refine Classical.byContradiction fun hnzq => ?_; obtain ⟨oc, od, kV, doc, pm, an, cdv, ct, osl, rfl, lk, hcd⟩ := F.ex
  refine hnzq ?_; clear hnzq
  refine fn_of lk hcd S len fun A outer s H vs Q E hr hsp => ?_
  refine Classical.byContradiction fun hnzq => ?_; obtain ⟨t, h, q⟩ := hbody cdv A outer s H vs Q E hr hsp
  refine hnzq ?_; clear hnzq
  exact ⟨t, h.nox, q⟩
theorem Fun.binds {x qual : Str} {st : Stmt} {f : Addr} {fd : FuncData} {ps : List Str} (F : Fun K x qual st f fd)
    (h : ∀ (kV doc pm : Value) (an : Option Addr) (cdv ct : Value) (us : List Value), us.length = ps.length → bindArgs (PySem.W.fnOf x qual (defArgs st) (defBody st) (defScope st) .none kV doc pm an cdv ct) ⟨us, []⟩ = pure (ps.zip us)) : Binds K fd ps [] := by
  refine Classical.byContradiction fun hnzq => ?_; obtain ⟨oc, od, kV, doc, pm, an, cdv, ct, osl, rfl, lk, hcd⟩ := F.ex
  refine hnzq ?_; clear hnzq
  exact .all (h kV doc pm an cdv ct)
theorem fun_mk {x qual : Str} {st : Stmt} {f : Addr} {oc : Value} {od an : Option Addr} {osl : Array (Option Value)} {kV doc pm cdv ct : Value} (l : K.lookup f = some ⟨oc, od, .func (PySem.W.fnOf x qual (defArgs st) (defBody st) (defScope st) .none kV doc pm an cdv ct), osl⟩)
    (c : PySem.W.codeIn K cdv qual = true) (k : PySem.W.keepIn K (.ref f) = true) : Fun K x qual st f (PySem.W.fnOf x qual (defArgs st) (defBody st) (defScope st) .none kV doc pm an cdv ct) := ⟨⟨oc, od, kV, doc, pm, an, cdv, ct, osl, rfl, l, c⟩, k⟩
end
section
variable {X : Cx}
theorem pv (i : Nat) {x : Str} {pos : Pos} (hN : X.N[i]? = some x := by rfl) (hv : Vis X.env.scope x := by first | exact Or.inl rfl | exact Or.inr (Or.inl rfl) | exact Or.inr (Or.inr rfl)) (hd : (x == ("__debug__" : Str)) = false := by decide)
    (hcd : (x == ("__classdict__" : Str)) = false := by decide) : PE X (.Name x pos) (tVar i) := pe_var hN hv hd hcd
end
theorem iteF {A B : Prop} (h : B) : if false = true then A else B := by
  rw [if_neg Bool.false_ne_true]
  exact h
theorem iteT {A B : Prop} (h : A) : if true = true then A else B := by
  rw [if_pos rfl]
  exact h
theorem ite2 {c A B : Prop} [Decidable c] (h1 : c → A) (h2 : ¬ c → B) : if c then A else B := by
  by_cases h : c
  · rw [if_pos h]
    exact h1 h
  · rw [if_neg h]
    exact h2 h
theorem iteNS {c A B : Prop} [Decidable c] (hc : c) (h : B) : if (!decide c) = true then A else B := by
  rw [decide_eq_true hc]
  exact iteF h
noncomputable def Same (H H' : Hp) : Prop := ∀ b o, H b = some o → H' b = some o
theorem Same.refl (H : Hp) : Same H H := fun _ _ h => h
theorem Same.trans {H H1 H2 : Hp} (a : Same H H1) (b : Same H1 H2) : Same H H2 := fun c o h => b c o (a c o h)
theorem Same.free {H H' : Hp} (e : Same H H') {l : Addr} (h : H' l = Option.none) : H l = Option.none := by
  cases q : H l with
  | none => rfl
  | some o =>
    rw [e l o q] at h
    cases h
theorem Same.seq {K : PySem.W.Frag} {H H' : Hp} {a : Addr} {xs : List V} (e : Same H H') (h : SqL K H a xs) : SqL K H' a xs := by
  rcases h with (h | ⟨o, h⟩) | h
  · exact .inl (.inl (e _ _ h))
  · exact .inl (.inr ⟨o, e _ _ h⟩)
  · exact .inr h
end L2
set_option maxHeartbeats 4000000
namespace Bk
open PySem PySem.W PySem.Spec PySem.Calls PyProof.Rows Builtin Builtin.ObjectAttr Builtin.Getset_descriptor
set_option genInjectivity false in
set_option genSizeOf false in
set_option genSizeOfSpec false in
structure ExcK (K : Frag) (C : Addr) : Prop where
  cls : (clsIn K C).isSome = true
  ga : findIn K (.ref C) "__getattribute__" = some (some (.builtin "BaseException.__getattribute__"))
  gt : findIn K (.ref C) "__getattr__" = some none
  at_ : findIn K (.ref C) "__class__" = some (some (.builtin "object.__class__"))
  get : specialIn K (.builtin "object.__class__") "__get__" = some (some (.builtin "getset_descriptor.__get__"))
  tk : takesIn K (.builtin "object.__class__") = some true
  obj : mroIn K C (.type "object") = some true
  exc : mroIn K C (.type "BaseException") = some true
noncomputable def OfCls (x C : Addr) (h : Heap) : Prop := ∃ o, h.get? x = some o ∧ o.cls = .ref C
theorem OfCls.ty {M : Model} {x C : Addr} {h : Heap} (p : OfCls x C h) : Looks M h (typeOf (.ref x)) (.ref C) := by
  refine Classical.byContradiction fun hnzq => ?_; obtain ⟨o, h1, h2⟩ := p
  refine hnzq ?_; clear hnzq
  rw [← h2]
  exact (Looks.ld h1).andThen .now
section
variable {prog : Program} {w : World} {A : Around} {E : Value → Shared → Prop} {s : Shared} {K : Frag} {x C : Addr}
theorem exc_get {tp : Value} {R : Result → Shared → Prop} (X : K.In s.heap) (p : OfCls x C s.heap) (e : ExcK K C) (h : R (.ok (.ret (.ref C))) s) :
    codeAny (model prog w) A (.call (.builtin "getset_descriptor.__get__") ⟨[.builtin "object.__class__", .ref x, tp], []⟩) R s := by
  refine Classical.byContradiction fun hnzq => ?_; obtain ⟨hh, g, dr, t, os⟩ := s
  refine hnzq ?_; clear hnzq
  have Ty := p.ty (M := model prog w)
  have Sub := looks_mroIn (M := model prog w) X e.obj
  refine codeAny_call_builtin
    KF.slot_gs.plain KF.entry_gs ?_
  refine KF.slot_gs.check _ _ _ _ _ _ _ _
    KF.type_class (KF.args_gs _ _ _) ?_
  unfold Builtin.«getset_descriptor.__get__»
  unfold descrGet
  rw [dga_obj]
  refine wpAny_bind (wpAny_pure ?_)
  unfold descrGetter
  unfold descrCheckInstance descrNameAndClass
  unfold isInstance
  simp only [KF.owner_class]
  repeat lk
  refine ⟨Code.quiet_builtin _ (by decide +kernel), ?_⟩
  refine codeAny_builtin KF.entry_class ?_
  unfold Builtin.«object.__class__»
  unfold shownTypeOf
  repeat lk
  exact h
theorem exc_class {Q : Option Value → Shared → Prop} (e : ExcK K C) (X : K.In s.heap) (p : OfCls x C s.heap) (h : Q (some (.ref C)) { s with toks := s.toks + 1 }) : wpAny (model prog w) A (getAttr? (.ref x) "__class__") Q E s := by
  refine Classical.byContradiction fun hnzq => ?_; obtain ⟨hh, g, d, t, os⟩ := s
  refine hnzq ?_; clear hnzq
  have T0 := p.ty (M := model prog w)
  have T1 := looks_findIn (M := model prog w) X e.ga
  have T2 := looks_findIn (M := model prog w) X e.gt
  have G : Looks (model prog w) hh (Builtin.ObjectAttr.getOf (some (.builtin "object.__class__"))) (some (.builtin "getset_descriptor.__get__")) := looks_specialIn X e.get
  have D : Looks (model prog w) hh (Builtin.ObjectAttr.dataDescriptor? (some (.builtin "object.__class__")) (some (.builtin "getset_descriptor.__get__"))) (some (.builtin "getset_descriptor.__get__", .builtin "object.__class__")) :=
    (looks_takesIn X e.tk).andThen .now
  have T3 : Looks (model prog w) hh (Builtin.ObjectAttr.find (.ref x) (.ref C) (Str.ofString "__class__")) (.bind (.builtin "getset_descriptor.__get__") (.builtin "object.__class__")) :=
    (looks_findIn X e.at_).andThen (G.andThen (D.andThen (Looks.tag .now)))
  have T4 := looks_mroIn (M := model prog w) X e.exc
  have n2 : (Value.builtin "BaseException.__getattribute__" == Value.builtin "object.__getattribute__") = false := by decide +kernel
  unfold getAttr? getAttrBy? getAttrBy
  refine wpAny_bind (wpAny_mkText (wpAny_bind (wpAny_attempt (wpAny_holding ?_))))
  refine wpAny_bind (T0.at (wpAny_bind (T1.at ?_)))
  dsimp only
  rw [n2, Bool.and_false, if_neg (by decide)]
  unfold getAttrByItsOwn
  have f3 := PySem.F.attr_ValueError.ga.bind (.ref x)
  refine wpAny_bind ?_
  unfold hookBefore
  rw [if_pos (show onTheHeap (Value.ref C) = true from rfl)]
  refine T2.at (wpAny_bind (wpAny_attempt (wpAny_holding ?_)))
  unfold callGetattribute
  rw [if_neg (by decide)]
  unfold boundAndCalled
  rw [f3]
  refine wpAny_bind (wpAny_pure ?_)
  refine wpAny_call (codeAny_call_builtin PySem.F.attr_ValueError.ga.plain F.entry_bexc_ga ?_)
  have kd : builtinKind "BaseException.__getattribute__" = some .slot := by decide +kernel
  have sp : splitId "BaseException.__getattribute__" = some ("BaseException", "__getattribute__") := by decide +kernel
  have ha := F.args_bexc_ga (.ref x) (.str (Str.ofString "__class__") t)
  simp only [checkBuiltinCall, kd, sp]
  have LI : Looks (model prog w) hh (isInstance (.ref x) (.type "BaseException")) true := T0.andThen T4
  refine wpAny_bind (LI.at ?_)
  simp only [Bool.not_true, Bool.false_eq_true, if_false]
  repeat (any_goals (first | assumption | wp_step))
  refine Classical.byContradiction fun hnzq => ?_; obtain ⟨o, po, pc⟩ := p
  refine hnzq ?_; clear hnzq
  refine wpAny_loadPart po (wpAny_pure ?_)
  rw [pc]
  refine wpAny_bind (T3.at ?_)
  dsimp only
  unfold Builtin.ObjectAttr.bindTo
  repeat (any_goals (first | assumption | wp_step))
  exact exc_get (s := ⟨hh, g, d, t + 1, os⟩) X ⟨o, po, pc⟩ e (wpAny_pure (wpAny_pure (wpAny_pure h)))
end
theorem exc_lookup {K : Frag} {C : Addr} (h : (clsIn K C).isSome = true) : ∃ c d cd sl, K.lookup C = some ⟨c, d, .cls cd, sl⟩ := by
  unfold clsIn at h
  split at h
  · rename_i c d cd sl e
    exact ⟨c, d, cd, sl, e⟩
  · cases h
theorem kitx_exc {K : Frag} {C x : Addr} (e : ExcK K C) : KitX K (.ref x) (.ref C) (OfCls x C) where
  ty := fun _ _ _ p => p.ty
  it := fun M h X _ => by
    refine Classical.byContradiction fun hnzq => ?_; obtain ⟨c, d, cd, sl, q⟩ := exc_lookup e.cls
    refine hnzq ?_; clear hnzq
    intro A Q E s k z
    unfold isType loadHead
    exact wpAny_bind (wpAny_loadPart (k _ _ (X _ _ q)) (wpAny_pure z))
  ne := fun h tp dd its n sl X htp => by
    refine Classical.byContradiction fun hnzq => ?_; obtain ⟨c, d, cd, sl', q⟩ := exc_lookup e.cls
    refine hnzq ?_; clear hnzq
    refine Bool.eq_false_iff.mpr fun z => ?_
    have e2 : C = tp := Value.ref.inj (beq_iff_eq.mp z)
    rw [← e2, X _ _ q] at htp
    cases htp
  ca := fun X p k => exc_class e X p k
end Bk
namespace L2
open PySem PySem.Spec PyProof.Rows
set_option genInjectivity false in
set_option genSizeOf false in
set_option genSizeOfSpec false in
structure Aft (P : Program) (w : World) (l : List Env) (H H' : Hp) (s : Shared) (B h : Heap) : Prop where
  stays : B.StaysIn h
  hokB : HOk P w H' B
  kept : ∀ b o, s.heap.get? b = some o → H b = none → b ∉ frs l → B.get? b = some o
  thr : ∀ b o, s.heap.get? b = some o → b ∉ frs l → ∃ o', B.get? b = some o'
  slot : ∀ b o, s.heap.get? b = some o → b ∈ frs l → ∃ sl, h.get? b = some { o with slots := sl }
  free : ∀ b o, s.heap.get? b = some o → H b = none → H' b = none
  tups : ∀ b xs, H b = some (.tup xs) → H' b = some (.tup xs)
  frzs : ∀ b o u, H b = some (.frz o u) → H' b = some (.frz o u)
  tbls : ∀ b ps, H b = some (.tbl ps) → ∃ more, H' b = some (.tbl (ps ++ more))
section
variable {P : Program} {w : World} {l : List Env} {H H' : Hp} {s : Shared} {B h h' : Heap}
theorem Aft.un (a : Aft P w l H H' s B h) : Un (frs l) [] H H' s.heap h where
  keep := fun b o q n hb _ => a.stays b o (a.kept b o q n hb)
  slot := fun b o q _ hb _ => a.slot b o q hb
  free := fun b o q n _ => a.free b o q n
  there := fun b o q _ => by
    by_cases hb : b ∈ frs l
    · obtain ⟨sl, e⟩ := a.slot b o q hb
      exact ⟨_, e⟩
    · obtain ⟨o', e⟩ := a.thr b o q hb
      exact ⟨o', a.stays b o' e⟩
  tups := a.tups
  frzs := a.frzs
  tbls := a.tbls
theorem Aft.hok (a : Aft P w l H H' s B h) : HOk P w H' h := a.hokB.kept fun b o e => a.stays b o e
theorem Aft.next (a : Aft P w l H H' s B h) (k : B.StaysIn h') (hl : h.FunFrames B l) (u : h.UpToSlots h') : Aft P w l H H' s B h' where
  stays := k
  hokB := a.hokB
  kept := a.kept
  thr := a.thr
  slot := fun b o q hb => by
    obtain ⟨sl, e⟩ := a.slot b o q hb
    refine Classical.byContradiction fun hnzq => ?_; obtain ⟨_, o', e', nf⟩ := hl.mem hb
    refine hnzq ?_; clear hnzq
    rw [e] at e'
    cases e'
    obtain ⟨sl', z⟩ := u b _ e nf
    exact ⟨sl', z⟩
  free := a.free
  tups := a.tups
  frzs := a.frzs
  tbls := a.tbls
end
set_option genInjectivity false in
set_option genSizeOf false in
set_option genSizeOfSpec false in
structure Flew (P : Program) (w : World) (l : List Env) (H H' : Hp) (s s' : Shared) (e : Addr) (cls : Value) : Prop where
  os : s'.os = s.os
  bare : AllBare s'.gens
  fly : ∃ B a0, Heap.FlyingW B l e cls a0 s'.heap ∧ Aft P w l H H' s B s'.heap
  new : s.heap.get? e = none
  untr : H' e = none
noncomputable def CXb (P : Program) (w : World) : CXT := fun outer H s E x s' => ∃ e C H', x = .ref e ∧ Flew P w outer H H' s s' e (.ref C) ∧ E (.ref C) none H'
theorem ObjOk.some {P : Program} {w : World} {H : Hp} {h : Heap} {a : Addr} {o : HO} (x : ObjOk P w H h a o) : ∃ u, h.get? a = some u := by
  cases o with
  | lst xs => refine Classical.byContradiction fun hnzq => ?_; obtain ⟨_, _, _, _, e⟩ := x; refine hnzq ?_; clear hnzq; exact ⟨_, e⟩
  | tup xs => refine Classical.byContradiction fun hnzq => ?_; obtain ⟨_, _, _, ob, e, _⟩ := x; refine hnzq ?_; clear hnzq; exact ⟨_, e⟩
  | dK kvs => refine Classical.byContradiction fun hnzq => ?_; obtain ⟨_, _, _, _, o, _, _, e, _⟩ := x; refine hnzq ?_; clear hnzq; exact ⟨_, e⟩
  | dT kvs => refine Classical.byContradiction fun hnzq => ?_; obtain ⟨_, _, _, _, o, _, _, e, _⟩ := x; refine hnzq ?_; clear hnzq; exact ⟨_, e⟩
  | set S n => refine Classical.byContradiction fun hnzq => ?_; obtain ⟨o, _, _, _, e, _⟩ := x; refine hnzq ?_; clear hnzq; exact ⟨_, e⟩
  | ins C dx fs => refine Classical.byContradiction fun hnzq => ?_; obtain ⟨_, _, _, e, _⟩ := x; refine hnzq ?_; clear hnzq; exact ⟨_, e⟩
  | own y => exact x
  | xd fs => refine Classical.byContradiction fun hnzq => ?_; obtain ⟨_, ⟨_, _, _, e, _⟩, _⟩ := x; refine hnzq ?_; clear hnzq; exact ⟨_, e⟩
  | rng lo hi => refine Classical.byContradiction fun hnzq => ?_; obtain ⟨_, _, _, e⟩ := x; refine hnzq ?_; clear hnzq; exact ⟨_, e⟩
  | frz ob u => obtain ⟨e, _⟩ := x; exact ⟨_, e⟩
  | tbl ps => exact ⟨_, x⟩
  | met f y => exact ⟨_, x⟩
  | ext φ => refine Classical.byContradiction fun hnzq => ?_; obtain ⟨_, e, _⟩ := x; refine hnzq ?_; clear hnzq; exact e
section
variable {P : Program} {w : World} {K : PySem.W.Frag} {mg : Str → Option Value} {base : Heap} {N : List Str} {qual : Str} {scope : Scope} {f : Addr} {cd : Value} {A : Around} {outer : List Env} {s : Shared} {H : Hp} {E : XK}
noncomputable def Raises (X : Cx) (E : XK) : Prop := ∀ (pins : List (Addr × Obj)) (σ : St) (H : Hp) (s : Shared) (e C : Addr) (args : List Value) (h' : Heap), Inv X pins σ H s → Heap.MadeExcOf s.heap h' e (.ref C) args → E (.ref C) none H → X.xe (.ref e) { s with heap := h' }
theorem mem_frs {env : Env} {l : List Env} {b : Addr} (h : b ∈ frs (env :: l)) : env.frame = some b ∨ b ∈ frs l := by
  refine Classical.byContradiction fun hnzq => ?_; obtain ⟨v, hv, hf⟩ := List.mem_filterMap.mp h
  refine hnzq ?_; clear hnzq
  rcases List.mem_cons.mp hv with rfl | hv
  · exact .inl hf
  · exact .inr (List.mem_filterMap.mpr ⟨v, hv, hf⟩)
theorem frs_mem {env : Env} {l : List Env} {b : Addr} (h : b ∈ frs l) : b ∈ frs (env :: l) := by
  refine Classical.byContradiction fun hnzq => ?_; obtain ⟨v, hv, hf⟩ := List.mem_filterMap.mp h
  refine hnzq ?_; clear hnzq
  exact List.mem_filterMap.mpr ⟨v, List.mem_cons_of_mem _ hv, hf⟩
theorem raises_fn : Raises (cxOf (CXb P w) P w K mg base N qual scope f cd A outer s H E) E := by
  intro pins σ H1 s1 e C args h' I m q
  have stk : (cxOf (CXb P w) P w K mg base N qual scope f cd A outer s H E).stack = envOfC qual scope s.heap.objs.size f cd :: outer := rfl
  have st := I.stack
  rw [stk] at st
  have stF := I.stkFree
  rw [stk] at stF
  have old : ∀ b o, s.heap.get? b = some o → b ∉ frs outer → b ∉ frs (envOfC qual scope s.heap.objs.size f cd :: outer) := fun b o e1 n hm => by
    rcases mem_frs hm with z | z
    · have z' : some s.heap.objs.size = some b := z
      cases z'
      exact absurd (Heap.lt_size e1) (Nat.lt_irrefl _)
    · exact n z
  have hin : ∀ env ∈ (envOfC qual scope s.heap.objs.size f cd :: outer), ∀ a, env.frame = some a → a ∈ frs (envOfC qual scope s.heap.objs.size f cd :: outer) := fun env he a ha => List.mem_filterMap.mpr ⟨env, he, ha⟩
  refine wpAny_leaves_madeW (base := PySem.W.hideAll s1.heap (frs (envOfC qual scope s.heap.objs.size f cd :: outer))) (h := s1.heap) I.ok.frames rfl (fun b o z => PySem.W.of_hideAll _ z) (PySem.W.funFrames_hide st hin) m fun h3 t fl _ _ up => ?_
  have k3 : (PySem.W.hideAll s1.heap (frs (envOfC qual scope s.heap.objs.size f cd :: outer))).StaysIn h3 := fl.1
  refine ⟨e, C, H1, rfl, ⟨I.os, I.bare, ⟨_, _, fl, ⟨k3, fun a u z => ?_, fun b o e1 n nf => ?_, fun b o e1 nf => ?_, fun b o e1 hb => ?_, fun b o e1 n => I.base.free b o e1 n (fun z => nomatch z), I.base.tups, I.base.frzs, I.base.tbls⟩⟩, ?_, ?_⟩, q⟩
  · refine (I.hok a u z).stay (fun b v hb e2 => PySem.W.hideAll_get _ e2 fun hm => ?_) (fun _ z => z) fun _ _ z => z
    have hn := stF b hm
    rcases hb with rfl | hb
    · rw [hn] at z; cases z
    · rw [hn] at hb; cases hb
  · exact PySem.W.hideAll_get _ (I.base.keep b o e1 n nf (fun z => nomatch z)) (old b o e1 nf)
  · obtain ⟨o', e2⟩ := I.base.there b o e1 (fun z => nomatch z)
    exact ⟨o', PySem.W.hideAll_get _ e2 (old b o e1 nf)⟩
  · obtain ⟨sl, e2⟩ := I.base.slot b o e1 (I.ok.frf b hb) hb (fun z => nomatch z)
    refine Classical.byContradiction fun hnzq => ?_; obtain ⟨_, ob, e3, nf⟩ := st.mem (frs_mem hb)
    refine hnzq ?_; clear hnzq
    rw [e2] at e3
    cases e3
    obtain ⟨sl', e4⟩ := up b _ (m.keeps b _ e2) nf
    exact ⟨sl', e4⟩
  · cases z : s.heap.get? e with
    | none => rfl
    | some o =>
      obtain ⟨o', e2⟩ := I.base.there e o z (fun z => nomatch z)
      rw [m.new] at e2; cases e2
  · cases z : H1 e with
    | none => rfl
    | some o =>
      obtain ⟨u, e2⟩ := (I.hok e o z).some
      rw [m.new] at e2; cases e2
theorem passes_fn : Passes (CXb P w) (cxOf (CXb P w) P w K mg base N qual scope f cd A outer s H E) E := by
  intro pins σ H1 s1 x s2 I h
  refine Classical.byContradiction fun hnzq => ?_; obtain ⟨e, C, H2, rfl, F, q⟩ := h
  refine hnzq ?_; clear hnzq
  refine Classical.byContradiction fun hnzq => ?_; obtain ⟨B, a0, fl, a⟩ := F.fly
  refine hnzq ?_; clear hnzq
  have stk : (cxOf (CXb P w) P w K mg base N qual scope f cd A outer s H E).stack = envOfC qual scope s.heap.objs.size f cd :: outer := rfl
  rw [stk] at fl a
  have old : ∀ b o, s.heap.get? b = some o → b ∉ frs outer → b ∉ frs (envOfC qual scope s.heap.objs.size f cd :: outer) := fun b o e1 n hm => by
    rcases mem_frs hm with z | z
    · have z' : some s.heap.objs.size = some b := z
      cases z'
      exact absurd (Heap.lt_size e1) (Nat.lt_irrefl _)
    · exact n z
  refine wpAny_leaves_onW (base := B) I.ok.frames rfl fl fun h3 fl3 up => ?_
  have a3 := a.next fl3.1 fl.2.2.1 up
  refine ⟨e, C, H2, rfl, ⟨F.os.trans I.os, F.bare, ⟨B, a0, fl3, ⟨fl3.1, a.hokB, fun b o e1 n nf => ?_, fun b o e1 nf => ?_, fun b o e1 hb => ?_, fun b o e1 n => ?_, fun b xs z => a.tups _ _ (I.base.tups b xs z), fun b o u z => a.frzs _ _ _ (I.base.frzs b o u z), fun b ps z => ?_⟩⟩, ?_, F.untr⟩, q⟩
  · exact a.kept b o (I.base.keep b o e1 n nf (fun z => nomatch z)) (I.base.free b o e1 n (fun z => nomatch z)) (old b o e1 nf)
  · obtain ⟨o', e2⟩ := I.base.there b o e1 (fun z => nomatch z)
    exact a.thr b o' e2 (old b o e1 nf)
  · obtain ⟨sl, e2⟩ := I.base.slot b o e1 (I.ok.frf b hb) hb (fun z => nomatch z)
    obtain ⟨sl', e3⟩ := a3.slot b _ e2 (frs_mem hb)
    exact ⟨sl', e3⟩
  · obtain ⟨o', e2⟩ := I.base.there b o e1 (fun z => nomatch z)
    exact a.free b o' e2 (I.base.free b o e1 n (fun z => nomatch z))
  · obtain ⟨m1, e1⟩ := I.base.tbls b ps z
    obtain ⟨m2, e2⟩ := a.tbls b _ e1
    exact ⟨m1 ++ m2, by rw [e2, Array.append_assoc]⟩
  · cases z : s.heap.get? e with
    | none => rfl
    | some o =>
      obtain ⟨o', e2⟩ := I.base.there e o z (fun z => nomatch z)
      rw [F.new] at e2; cases e2
end
theorem Fun.okx {P : Program} {w : World} {K : PySem.W.Frag} {mg : Str → Option Value} {base : Heap} {x qual : Str} {st : Stmt} {f : Addr} {fd : FuncData} {N ps : List Str} {k : Nat} {sp : Sp} (F : Fun K x qual st f fd) (S : FnScope N ps (defScope st))
    (len : ∀ vs H Q E, sp vs H Q E → vs.length = ps.length)
    (hbody : ∀ (cdv : Value) (A : Around) (outer : List Env) (s : Shared) (H : Hp) (vs : List V) (Q : VK) (E : XK), Room k (A.deeper (envOfC qual (defScope st) s.heap.objs.size f cdv)) → sp vs H Q E →
      ∃ t, PSs (cxOf (CXb P w) P w K mg base N qual (defScope st) f cdv A outer s H E) (defBody st) t ∧ t { nx := fun _ H' => Q .non H', rt := Q } (start N vs) H) : FnOk P w K mg base (CXb P w) (k + 1) f fd ps sp := by
  refine Classical.byContradiction fun hnzq => ?_; obtain ⟨oc, od, kV, doc, pm, an, cdv, ct, osl, rfl, lk, hcd⟩ := F.ex
  refine hnzq ?_; clear hnzq
  exact fn_of lk hcd S len fun A outer s H vs Q E hr hsp => hbody cdv A outer s H vs Q E hr hsp
noncomputable def tRaise (E : XK) (C : Addr) (t : TA) : TS := fun _ σ H => t σ H fun us H1 => us.length ≤ sizeLine ∧ E (.ref C) none H1
theorem exc_there {K : PySem.W.Frag} {C : Addr} {bmB : List Value} {newId : String} (q : PySem.W.excIn K C bmB newId = true) :
    ∃ bm N nm qn bs hd sn sub ab col dd k0 k1 k2 k3 k5, K.lookup C = some (excClassObj nm qn C N bs bm hd sn sub ab col dd k0 k1 k2 k3 k5 newId) ∧ PySem.W.tailIn K bmB bm = true ∧ PySem.W.nsOkIn K N = true ∧ PySem.W.nsIn K N "__init__" = some none := by
  unfold PySem.W.excIn at q
  split at q
  · rename_i dd cd sl ho
    split at q
    · rename_i C' bm k0 k1 k2 k3 n k5 hm hs
      simp only [Bool.and_eq_true, beq_iff_eq, Bool.not_eq_true'] at q
      refine Classical.byContradiction fun hnzq => ?_; obtain ⟨⟨⟨⟨⟨e1, e2⟩, e3⟩, e4⟩, e5⟩, e6⟩ := q
      refine hnzq ?_; clear hnzq
      subst e1 e2
      refine Classical.byContradiction fun hnzq => ?_; obtain ⟨nm, bs, mro, ns, qn, hd, sn, sub, ab, col, del⟩ := cd
      refine hnzq ?_; clear hnzq
      dsimp only at hm e3 e5 e6
      subst hm e3
      have es : sl = #[k0, k1, k2, k3, some (.builtin n), k5] := by
        rw [← Array.toList_inj, hs]
      subst es
      exact ⟨bm, ns, nm, qn, bs, hd, sn, sub, ab, col, dd, k0, k1, k2, k3, k5, ho, e4, e5, e6⟩
    · cases q
  · cases q
section
variable {X : Cx} {x : Str} {C : Addr} {np cpos pos : Pos} {e : Expr} {es : List Expr} {t : TA} {E : XK}
theorem ps_raise (R : Raises X E) (hc : X.calm = true) (hg : Gl X x) (hm : X.mg x = some (.ref C)) (q : PySem.W.excIn X.K C [.type "ValueError", .type "Exception", .type "BaseException", .type "object"] "ValueError.__new__" = true) (ha : PA X (e :: es) t)
    (hdb : (x == ("__debug__" : Str)) = false := by decide) (hpl : (backTo cpos (starEach (e :: es) X.env)).any (·.1) = false := by rfl)
    (he : starEach (e :: es) X.env = (false, eval e X.env) :: starEach es X.env := by rfl) :
    PS X (.Raise (some (.Call (.Name x np) (e :: es) [] cpos)) none pos) (tRaise E C t) := by
  intro pins s σ H D I h
  refine Classical.byContradiction fun hnzq => ?_; obtain ⟨bm, N, nm, qn, bs, hd, sn, sub, ab, col, dd, k0, k1, k2, k3, k5, lk, e4, e5, e6⟩ := exc_there q
  refine hnzq ?_; clear hnzq
  have T0 := PySem.W.tail_of_in I.kIn e4
  have hA := ha cpos pins s σ H _ I h
  rw [he] at hA
  refine wpAny_Raise_call_subU (C := C) (nm := nm) (q := qn) (N := N) (bs := bs) (bm := bm) (hdct := hd) (sn := sn) (sub := sub) (ab := ab) (col := col) (dd := dd) (k0 := k0) (k1 := k1) (k2 := k2) (k3 := k3) (k5 := k5) (mN := s.heap.nsMap N)
    PySem.F.excBase_ValueError (by decide +kernel) PySem.F.excBase_ValueError (T0.hasType (by decide +kernel)) (I.ok.hd hc) hpl (PySem.W.nsMap_none_of_in I.kIn e5 e6) (ld_glob I hg hm ⟨rfl, ?_⟩ hdb)
  rw [he]
  refine Calls.evalArgs_plain (thn hA fun us s2 zzq => ?_)
  refine Classical.byContradiction fun hnzq => ?_; obtain ⟨vs, H2, I2, r2, z, q2⟩ := zzq; refine hnzq ?_; clear hnzq
  refine ⟨rfl, by rw [← r2.length]; exact z, I2.kIn _ _ lk, ?_, PySem.W.tail_of_in I2.kIn e4, fun h' ea m => R pins σ H2 s2 ea C us h' I2 m q2⟩
  have nn : s2.heap.Ns N (s2.heap.nsMap N) := .of_isNs (PySem.W.isNs_of_in I2.kIn e5)
  have eq : s2.heap.nsMap N = s.heap.nsMap N := by
    unfold PySem.W.nsOkIn at e5
    split at e5
    · rename_i lkN
      unfold Heap.nsMap
      rw [I2.kIn _ _ lkN, I.kIn _ _ lkN]
    · cases e5
  rw [← eq]
  exact nn
end
end L2
namespace L2
open PySem PySem.Spec PyProof.Rows
noncomputable def XP (X : Cx) (pins : List (Addr × Obj)) (Dx : Value → St → Hp → Prop) (x : Value) (s' : Shared) : Prop :=
  ∃ e C σ H s H', x = .ref e ∧ Inv X pins σ H s ∧ Flew X.prog X.w X.stack H H' s s' e (.ref C) ∧ Dx (.ref C) σ H'
noncomputable abbrev TEx := St → Hp → VK → (Value → Hp → Prop) → Prop
noncomputable abbrev TSx := Ends → (Value → St → Hp → Prop) → St → Hp → Prop
noncomputable def PEx (X : Cx) (e : Expr) (t : TEx) : Prop :=
  ∀ (pins : List (Addr × Obj)) (s : Shared) (σ : St) (H : Hp) (Q : VK) (Ex : Value → Hp → Prop), Inv X pins σ H s → t σ H Q Ex → wpAny (model X.prog X.w) X.A (eval e X.env) (EP X pins σ Q) (XP X pins fun C σ' H' => σ' = σ ∧ Ex C H') s
noncomputable def PX (X : Cx) (st : Stmt) (t : TSx) : Prop :=
  ∀ (pins : List (Addr × Obj)) (s : Shared) (σ : St) (H : Hp) (D : Ends) (Dx : Value → St → Hp → Prop), Inv X pins σ H s → t D Dx σ H → wpAny (model X.prog X.w) X.A (exec st X.env) (SP X pins D) (XP X pins Dx) s
noncomputable def PXs (X : Cx) (st : List Stmt) (t : TSx) : Prop :=
  ∀ (pins : List (Addr × Obj)) (s : Shared) (σ : St) (H : Hp) (D : Ends) (Dx : Value → St → Hp → Prop), Inv X pins σ H s → t D Dx σ H → wpAny (model X.prog X.w) X.A (execs st X.env) (SP X pins D) (XP X pins Dx) s
section
variable {X : Cx} {st : Stmt} {rest : List Stmt} {t u : TSx} {e : Expr} {te : TEx} {pos : Pos}
theorem pxs_one (h1 : PX X st t) : PXs X [st] t := by
  intro pins s σ H D Dx I h
  refine wpAny_execs_cons (thn (h1 pins s σ H D Dx I h) fun f s1 q => ?_)
  cases f with
  | next => exact wpAny_execs_nil q
  | ret v => exact q
  | brk => exact q
  | cont => exact q
noncomputable def xIf (c : TT) (t u : TSx) : TSx := fun D Dx σ H => c σ H fun b H1 => if b = true then t D Dx σ H1 else u D Dx σ H1
theorem px_if {c : Expr} {a b : List Stmt} {tc : TT} (hc : PT X.nox c tc) (ha : PXs X a t) (hb : PXs X b u) : PX X (.If c a b pos) (xIf tc t u) := by
  intro pins s σ H D Dx I h
  refine wpAny_If (wpAny_mono (hc pins s σ H _ (I.wish _) h) (fun d s1 ⟨H1, I1, q1⟩ => ?_) fun _ _ z => False.elim z)
  cases d with
  | true => exact ha pins s1 σ H1 D Dx I1.unwish q1
  | false => exact hb pins s1 σ H1 D Dx I1.unwish q1
noncomputable def xSet (i : Nat) (te : TEx) : TSx := fun D Dx σ H => te σ H (fun v H1 => D.nx (σ.set i (some v)) H1) fun C H1 => Dx C σ H1
theorem px_set {i : Nat} {x : Str} {pos' : Pos} (hN : X.N.Nodup) (hi : X.N[i]? = some x) (hx : Loc X.env.scope x) (he : PEx X e te) (hs : swapsWith e (some (.Name x pos')) pos.line X.env = pure false := by rfl)
    (hf : X.fn x = true ∨ X.env.scope.names.lookup x = some .local := by first | exact .inl rfl | exact .inr rfl | assumption) : PX X (.Assign [.Name x pos'] e pos) (xSet i te) := by
  intro pins s σ H D Dx I h
  refine wpAny_Assign_Name (wpAny_mono (he pins s σ H _ _ I h) (fun v s1 ⟨y, H1, I1, r1, q1⟩ => ?_) fun x' s' z => ?_) hs
  · exact store_ok I1 hN hi hx r1 (fun s2 I2 => ⟨_, H1, I2, q1⟩) hf
  · refine Classical.byContradiction fun hnzq => ?_; obtain ⟨a, C, σ', H0, s0, H', e1, I0, F, rfl, q⟩ := z
    refine hnzq ?_; clear hnzq
    exact ⟨a, C, σ', H0, s0, H', e1, I0, F, q⟩
noncomputable def xCall (sp : Sp) (dvs : List V) (t : TA) : TEx := fun σ H Q Ex => t σ H fun vs H1 => sp (vs ++ dvs) H1 Q fun C _ H2 => Ex C H2
theorem pex_call {k : Nat} {f : Addr} {fd : FuncData} {ps : List Str} {sp : Sp} {dvs : List V} {ds : List Value} {x : Str} {p : Pos} {es : List Expr} {ta : TA}
    (F : FnOk X.prog X.w X.K X.mg X.base (CXb X.prog X.w) k f fd ps sp) (hr : Room k X.A) (hg : Gl X x) (hm : X.mg x = some (.ref f)) (hk : PySem.W.keepIn X.K (.ref f) = true) (hb : Binds X.K fd ps ds) (hd : Vals dvs ds)
    (ha : PA X.nox (e :: es) ta) (hdb : (x == ("__debug__" : Str)) = false := by decide) (he : starEach (e :: es) X.env = (false, eval e X.env) :: starEach es X.env := by rfl) (hpl : (backTo pos (starEach es X.env)).any (·.1) = false := by rfl) :
    PEx X (.Call (.Name x p) (e :: es) [] pos) (xCall sp dvs ta) := by
  intro pins s σ H Q Ex I h
  refine wpAny_Call_Name_kw (ld_glob I hg hm ?_ hdb)
  refine PySem.W.callWith_K (h₀ := X.base) I.ok.mod.kin hk (wpAny_mono (ha pos pins s σ H _ (I.wish _) h) (fun us s1 ⟨vs, H1, I1, r, q⟩ => ⟨I1.kIn, ?_⟩) fun _ _ z => False.elim z) he hpl
  have I2 : Inv X pins σ H1 s1 := I1.unwish
  have r2 : Vals (vs ++ dvs) (us ++ ds) := r.append hd
  have hl : (us ++ ds).length = ps.length := by rw [← r2.length]; exact F.len _ _ _ _ q
  refine wpAny_call (codeAny_mono (F.run X.A X.stack s1 H1 ⟨us, []⟩ (us ++ ds) (vs ++ dvs) Q _ hr I2.env0 (hb s1 us I2.kIn hl) r2 q) fun r s' hq => ?_)
  cases r with
  | error x' =>
    refine Classical.byContradiction fun hnzq => ?_; obtain ⟨a, C, H', e1, Fl, z⟩ := hq
    refine hnzq ?_; clear hnzq
    exact ⟨a, C, σ, H1, s1, H', e1, I2, Fl, rfl, z⟩
  | ok fl =>
    cases fl with
    | ret u => exact I2.after hq
    | next => exact False.elim hq
    | brk => exact False.elim hq
    | cont => exact False.elim hq
end
noncomputable def Cx.caught (X : Cx) (e : Addr) (oe : Obj) : Cx := { X with A := X.A.mark (some (.ref e)), calm := false, pn := (e, oe) :: X.pn, xe := fun _ _ => False }
theorem Inv.caught {X : Cx} {σ : St} {H H' : Hp} {s s' : Shared} {e : Addr} {oe : Obj} {pins : List (Addr × Obj)} (I : Inv X pins σ H s) (os : s'.os = s.os) (bare : AllBare s'.gens) (un : Un (frs X.stack) [] H H' s.heap s'.heap) (hok : HOk X.prog X.w H' s'.heap)
    (he : s'.heap.get? e = some oe) (hn : s.heap.get? e = none) (hu : H' e = none) (hc : ∀ v, oe.data ≠ .cell v) (hst : X.stack = X.env :: X.outer) : Inv (X.caught e oe) pins σ H' s' := by
  have J : Inv X pins σ H' s' := I.call' os un hok bare (fun b z => absurd z (by simp))
  have ne : e ≠ X.env.locals := fun z => by
    refine Classical.byContradiction fun hnzq => ?_; obtain ⟨m, ⟨o, _, _, ho, _⟩, _⟩ := I.loc
    refine hnzq ?_; clear hnzq
    rw [← z, hn] at ho; cases ho
  have nf : e ∉ X.fs := fun z => by
    refine Classical.byContradiction fun hnzq => ?_; obtain ⟨_, o, ho, _⟩ := I.funs.mem z
    refine hnzq ?_; clear hnzq
    rw [hn] at ho; cases ho
  have ok := J.ok
  refine ⟨⟨ok.mod, ok.kind, ok.glob, ok.blt, ok.above, ok.inj, ok.has, ok.cab, (fun z => by cases z), ok.frames, ok.stk, ok.exf, ok.bs, ok.bsz, ok.noex, ok.exfs, ok.funs, ok.frf⟩, J.os, J.bare, J.base, J.loc, J.cell, J.free, J.freeC, fun p hp => ?_, J.hok, J.len⟩
  have hp' : p = (e, oe) ∨ p ∈ X.pn ++ pins := by
    have z : p ∈ (e, oe) :: (X.pn ++ pins) := hp
    exact List.mem_cons.mp z
  rcases hp' with rfl | hp'
  · exact ⟨he, hu, ne, nf, hc⟩
  · exact J.pin p hp'
theorem Inv.uncaught {X : Cx} {σ : St} {H : Hp} {s : Shared} {e : Addr} {oe : Obj} {pins : List (Addr × Obj)} (ok : X.Ok) (J : Inv (X.caught e oe) pins σ H s) : Inv X pins σ H s :=
  ⟨ok, J.os, J.bare, J.base, J.loc, J.cell, J.free, J.freeC, fun p hp => J.pin p (List.mem_cons_of_mem (e, oe) hp), J.hok, J.len⟩
theorem Inv.forget {X : Cx} {σ : St} {H : Hp} {s : Shared} {pins : List (Addr × Obj)} {i t : Nat} {n : Str} {m : Str → Option Value} {v : Option Value} {h' : Heap} (I : Inv X pins σ H s) (hN : X.N.Nodup) (hi : X.N[i]? = some n)
    (hm : s.heap.Ns X.env.locals m) (hl : ∀ (j : Nat) (x : Str) (v : V), X.N[j]? = some x → σ[j]? = some (some v) → Vis X.env.scope x → ∃ u, RelV v u ∧ Look X.env s.heap m x u)
    (hn : h'.Ns X.env.locals (fun x => if x = n then v else m x)) (hs : Heap.SameBut X.env.locals s.heap h') : Inv X pins (σ.set i none) H { s with heap := h', toks := t } := by
  have iσ : i < σ.length := by rw [I.len]; exact (List.getElem?_eq_some_iff.mp hi).1
  refine ⟨I.ok, I.os, I.bare, ⟨fun b o e n hb hx => ?_, fun b o e n hb hx => ?_, I.base.free, fun b o e hx => ?_, I.base.tups, I.base.frzs, I.base.tbls⟩, ⟨_, hn, fun j y v' e1 e2 e3 => ?_⟩, fun y c e => ?_, I.free, I.freeC, fun p hp => ?_, fun b u e => ?_, by simpa using I.len⟩
  · exact (hs.2 b (Nat.ne_of_lt (Nat.lt_of_lt_of_le (Heap.lt_size e) I.ok.above))).trans (I.base.keep b o e n hb hx)
  · obtain ⟨sl, e1⟩ := I.base.slot b o e n hb hx
    exact ⟨sl, (hs.2 b (Nat.ne_of_lt (Nat.lt_of_lt_of_le (Heap.lt_size e) I.ok.above))).trans e1⟩
  · obtain ⟨o', e1⟩ := I.base.there b o e hx
    exact ⟨o', (hs.2 b (Nat.ne_of_lt (Nat.lt_of_lt_of_le (Heap.lt_size e) I.ok.above))).trans e1⟩
  · by_cases hj : j = i
    · subst hj
      rw [List.getElem?_set_self iσ] at e2
      cases e2
    · rw [List.getElem?_set_ne (Ne.symm hj)] at e2
      refine Classical.byContradiction fun hnzq => ?_; obtain ⟨u', r', q⟩ := hl j y v' e1 e2 e3
      refine hnzq ?_; clear hnzq
      refine ⟨u', r', ?_⟩
      have ny : y ≠ n := fun z => hj (nodup_ix hN e1 (z ▸ hi))
      rcases q with ⟨k, e⟩ | ⟨k, c, e, z⟩
      · exact .inl ⟨k, (if_neg ny).trans e⟩
      · exact .inr ⟨k, c, e, z.sameBut hs (I.cne y c e)⟩
  · obtain ⟨w', z⟩ := I.cell y c e
    exact ⟨w', z.sameBut hs (I.cne y c e)⟩
  · refine Classical.byContradiction fun hnzq => ?_; obtain ⟨e, n, ne, nf, d⟩ := I.pin p hp
    refine hnzq ?_; clear hnzq
    exact ⟨(hs.2 p.1 ne).trans e, n, ne, nf, d⟩
  · refine (I.hok b u e).stay (fun c v hc q => (hs.2 c ?_).trans q) (fun _ z => z) fun _ _ z => z
    rintro rfl
    rcases hc with z | z
    · rw [← z, I.free] at e; cases e
    · rw [I.free] at z; cases z
section
variable {X : Cx} {body suite : List Stmt} {b₀ : Stmt} {t : TSx} {ts : Addr → Obj → TS} {c n : Str} {c₀ : Value} {i : Nat} {np hpos pos : Pos}
noncomputable def tTry (K : PySem.W.Frag) (c₀ : Value) (i : Nat) (t : TSx) (ts : Addr → Obj → TS) : TS := fun D σ H => t D (fun C σ' H' => PySem.W.exmOne K C c₀ = some true ∧ ∀ (e : Addr) (oe : Obj), oe.cls = C → H' e = none →
  ts e oe { nx := fun σ2 H2 => D.nx (σ2.set i none) H2, rt := D.rt, bk := fun σ2 H2 => D.bk (σ2.set i none) H2, ct := fun σ2 H2 => D.ct (σ2.set i none) H2 } (σ'.set i (some (.ref e))) H') σ H
theorem ps_try (hst : X.stack = X.env :: X.outer) (hfr : X.env.frame = some X.env.locals) (hN : X.N.Nodup) (hi : X.N[i]? = some n) (hn : X.env.kindOf n = some .local) (hg : Gl X c) (hm : X.mg c = some c₀)
    (hb : PXs X body t) (hs : ∀ e oe, PSs (X.caught e oe) (b₀ :: suite) (ts e oe)) (hdb : (c == ("__debug__" : Str)) = false := by decide) :
    PS X (.Try body [.ExceptHandler (some (.Name c np)) (some n) (b₀ :: suite) hpos] [] [] pos) (tTry X.K c₀ i t ts) := by
  intro pins s σ H D I h
  refine wpAny_Try_except (wpAny_mono (hb pins s σ H D _ I h) (fun f s1 q => ?_) fun x s1 q => ?_)
  · cases f with
    | next => exact wpAny_execs_nil q
    | ret v => exact q
    | brk => exact q
    | cont => exact q
  refine Classical.byContradiction fun hnzq => ?_; obtain ⟨e, C, σ', H0, s0, H', rfl, I0, F, hx, q⟩ := q
  refine hnzq ?_; clear hnzq
  refine Classical.byContradiction fun hnzq => ?_; obtain ⟨B, a0, fl, a⟩ := F.fly
  refine hnzq ?_; clear hnzq
  rw [hst] at fl
  have frm : X.A.frames = some (X.env :: X.outer) := by rw [← hst]; exact I0.ok.frames
  have stkE : frs X.stack = frs (X.env :: X.outer) := by rw [hst]
  refine wpAny_looks_onW (base := B) frm hfr fl fun h4 hd4 up4 => ?_
  have a4 : Aft X.prog X.w X.stack H0 H' s0 B h4 := a.next hd4.1 (by rw [hst]; exact fl.2.2.1) up4
  refine wpAny_landsW hd4 fun h5 fl5 up5 => ?_
  have a5 : Aft X.prog X.w X.stack H0 H' s0 B h5 := a4.next fl5.1 (by rw [hst]; exact hd4.2.2.1) up5
  refine Classical.byContradiction fun hnzq => ?_; obtain ⟨oe5, ws5, he5, hc5, hd5, _⟩ := fl5.first
  refine hnzq ?_; clear hnzq
  have J5 : Inv (X.caught e oe5) pins σ' H' { s1 with heap := h5 } := I0.caught (s' := { s1 with heap := h5 }) F.os F.bare a5.un a5.hok he5 F.new F.untr (fun v z => by rw [hd5] at z; cases z) hst
  refine wpAny_handleBy_cons (codeAny_handlers_test (ld_glob (X := X.caught e oe5) J5 hg hm ?_ hdb)) (by intro z; cases z)
  have LT : PySem.W.Looks (model X.prog X.w) h5 (typeOf (.ref e)) (.ref C) := hc5 ▸ (PySem.W.Looks.ld he5).andThen .now
  refine (PySem.W.exm_one (K := X.K) J5.kIn LT hx).here ?_
  refine codeAny_handlers_suite_as (lands_againW fl5 fun h6 fl6 up6 => ?_)
  have a6 : Aft X.prog X.w X.stack H0 H' s0 B h6 := a5.next fl6.1 (by rw [hst]; exact fl5.2.2.1) up6
  refine Classical.byContradiction fun hnzq => ?_; obtain ⟨oe, ws, he6, hc6, hd6, _⟩ := fl6.first
  refine hnzq ?_; clear hnzq
  have J6 : Inv (X.caught e oe) pins σ' H' { s1 with heap := h6 } := I0.caught (s' := { s1 with heap := h6 }) F.os F.bare a6.un a6.hok he6 F.new F.untr (fun v z => by rw [hd6] at z; cases z) hst
  refine store_ok (X := X.caught e oe) (v := .ref e) J6 hN hi (.inl hn) rfl (fun s7 I7 => ?_) (.inr hn)
  refine wpAny_mono (hs e oe pins s7 _ H' _ I7 (q e oe hc6 F.untr)) (fun f s8 z => ?_) fun _ _ z => False.elim z
  have goes : ∀ {σ2 : St} {H2 : Hp} {Q : Unit → Shared → Prop}, Inv (X.caught e oe) pins σ2 H2 s8 → (∀ s9, Inv X pins (σ2.set i none) H2 s9 → Q () s9) → wpAny (model X.prog X.w) X.A (do bindName X.env n .none; unbindBehindTheSuite X.env n hpos) Q X.xe s8 := by
    intro σ2 H2 Q I2 k
    have I3 : Inv X pins σ2 H2 s8 := Inv.uncaught I0.ok I2
    refine Classical.byContradiction fun hnzq => ?_; obtain ⟨m, hm2, hl2⟩ := I3.loc
    refine hnzq ?_; clear hnzq
    refine wpAny_nameGoes_keeps hn hm2 (by rw [I3.ok.kind]; rfl) fun h9 v hn9 hs9 => k _ (I3.forget (t := s8.toks + 1) hN hi hm2 hl2 hn9 hs9)
  cases f with
  | next =>
    refine Classical.byContradiction fun hnzq => ?_; obtain ⟨σ2, H2, I2, z⟩ := z
    refine hnzq ?_; clear hnzq
    exact goes I2 fun s9 I9 => ⟨_, H2, I9, z⟩
  | brk =>
    refine Classical.byContradiction fun hnzq => ?_; obtain ⟨σ2, H2, I2, z⟩ := z
    refine hnzq ?_; clear hnzq
    exact goes I2 fun s9 I9 => ⟨_, H2, I9, z⟩
  | cont =>
    refine Classical.byContradiction fun hnzq => ?_; obtain ⟨σ2, H2, I2, z⟩ := z
    refine hnzq ?_; clear hnzq
    exact goes I2 fun s9 I9 => ⟨_, H2, I9, z⟩
  | ret u =>
    refine Classical.byContradiction fun hnzq => ?_; obtain ⟨v, σ2, H2, I2, r, z⟩ := z
    refine hnzq ?_; clear hnzq
    exact goes I2 fun s9 I9 => ⟨v, _, H2, I9, r, z⟩
end
end L2
namespace L2
open PySem PySem.Spec PyProof.Rows
noncomputable def eqVs : List V → List V → Bool
  | [], [] => true
  | x :: xs, y :: ys => eqV x y && eqVs xs ys
  | _, _ => false
theorem eqVs_len : ∀ {xs ys : List V}, xs.length ≠ ys.length → eqVs xs ys = false
  | [], [], h => absurd rfl h
  | [], _ :: _, _ => rfl
  | _ :: _, [], _ => rfl
  | x :: xs, y :: ys, h => by
    show (eqV x y && eqVs xs ys) = false
    rw [eqVs_len (fun z => h (by simp [z]))]
    simp
noncomputable def eqAtJ (xs ys : List V) (j : Nat) : Bool := eqV (xs.getD j .non) (ys.getD j .non)
theorem eqVs_all : ∀ {xs ys : List V}, xs.length = ys.length → (List.range xs.length).all (eqAtJ xs ys) = eqVs xs ys
  | [], [], _ => rfl
  | [], _ :: _, h => by simp at h
  | _ :: _, [], h => by simp at h
  | x :: xs, y :: ys, h => by
    have ih := eqVs_all (xs := xs) (ys := ys) (by simpa using h)
    rw [List.length_cons, List.range_succ_eq_map, List.all_cons, List.all_map]
    show (eqV x y && _) = (eqV x y && eqVs xs ys)
    rw [← ih]
    rfl
theorem eqVs_refl : ∀ {xs : List V}, xs.all flatV = true → eqVs xs xs = true
  | [], _ => rfl
  | x :: xs, h => by
    rw [List.all_cons, Bool.and_eq_true] at h
    show (eqV x x && eqVs xs xs) = true
    rw [eqVs_refl h.2, Bool.and_true]
    cases x with
    | non => rfl
    | bl b => exact beq_self_eq_true b
    | int i => exact beq_self_eq_true i
    | str i => exact beq_self_eq_true i
    | _ => exact absurd h.1 Bool.false_ne_true
section
variable {X : Cx}
theorem items_eqAt {A : Around} {s : Shared} {xs ys : List V} {us ws : List Value} (r : Vals xs us) (r' : Vals ys ws) (f : xs.all flatV = true) (f' : ys.all flatV = true) (j : Nat) (h1 : j < us.toArray.size) (h2 : j < ws.toArray.size) :
    SeqAt.EqAt A s us.toArray[j] ws.toArray[j] (eqAtJ xs ys j) := by
  have l1 : j < xs.length := by rw [r.length]; simpa using h1
  have l2 : j < ys.length := by rw [r'.length]; simpa using h2
  refine Classical.byContradiction fun hnzq => ?_; obtain ⟨u, e1, q1⟩ := r.get (i := j) (x := xs[j]) (List.getElem?_eq_getElem l1)
  refine hnzq ?_; clear hnzq
  refine Classical.byContradiction fun hnzq => ?_; obtain ⟨w, e2, q2⟩ := r'.get (i := j) (x := ys[j]) (List.getElem?_eq_getElem l2)
  refine hnzq ?_; clear hnzq
  have a1 : us.toArray[j] = u := by
    have := (List.getElem?_eq_some_iff.mp e1).2
    simpa using this
  have a2 : ws.toArray[j] = w := by
    have := (List.getElem?_eq_some_iff.mp e2).2
    simpa using this
  rw [a1, a2]
  have g1 : xs.getD j .non = xs[j] := by simp [List.getD_eq_getElem?_getD, l1]
  have g2 : ys.getD j .non = ys[j] := by simp [List.getD_eq_getElem?_getD, l2]
  unfold eqAtJ
  rw [g1, g2]
  exact eqAt_V q1 q2 (List.all_eq_true.mp f _ (List.getElem_mem l1)) (List.all_eq_true.mp f' _ (List.getElem_mem l2))
noncomputable def rEqL (K : PySem.W.Frag) (neg : Bool) : R2 := fun x y H Q => ∃ a b xs ys, x = .ref a ∧ y = .ref b ∧ SqL K H a xs ∧ SqL K H b ys ∧ xs.all flatV = true ∧ ys.all flatV = true ∧ Q (.bl (if neg then !eqVs xs ys else eqVs xs ys)) H
theorem op_neL (hu : X.A.units < cLine) : OpR X (compareOp .NotEq) (rEqL X.K true) := by
  intro pins s σ H x y v u Q I rx ry h
  refine Classical.byContradiction fun hnzq => ?_; obtain ⟨a, b, xs, ys, rfl, rfl, ha, hb, fx, fy, q⟩ := h
  refine hnzq ?_; clear hnzq
  cases rx
  cases ry
  refine Classical.byContradiction fun hnzq => ?_; obtain ⟨us, r, pl, _⟩ := I.list ha
  refine hnzq ?_; clear hnzq
  refine Classical.byContradiction fun hnzq => ?_; obtain ⟨ws, r', pl', _⟩ := I.list hb
  refine hnzq ?_; clear hnzq
  by_cases hl : xs.length = ys.length
  · have hz : us.toArray.size = ws.toArray.size := by simp only [List.size_toArray]; rw [← r.length, ← r'.length, hl]
    refine SeqAt.RcNeAt.lists (e := eqAtJ xs ys) pl.isList pl'.isList hz hu (fun j h1 h2 => items_eqAt r r' fx fy j h1 h2) _ _ _ _ ⟨.bl (!eqVs xs ys), H, I, ?_, q⟩
    show Value.bool _ = Value.bool _
    rw [List.size_toArray, ← r.length, eqVs_all hl]
  · have hz : (us.toArray.size != ws.toArray.size) = true := by
      simp only [List.size_toArray]; rw [← r.length, ← r'.length]; exact bne_iff_ne.mpr hl
    refine SeqAt.RcNeAt.lists_lengths pl.isList pl'.isList hz hu _ _ _ _ ⟨.bl (!eqVs xs ys), H, I, ?_, q⟩
    show Value.bool _ = Value.bool _
    rw [eqVs_len hl]
    rfl
noncomputable def rEqT (K : PySem.W.Frag) : R2 := fun x y H Q => ∃ a b xs ys, x = .ref a ∧ y = .ref b ∧ SqT K H a xs ∧ SqT K H b ys ∧ xs.length = ys.length ∧ xs.all flatV = true ∧ ys.all flatV = true ∧ Q (.bl (eqVs xs ys)) H
theorem op_eqT (hu : X.A.units < cLine) : OpR X (compareOp .Eq) (rEqT X.K) := by
  intro pins s σ H x y v u Q I rx ry h
  refine Classical.byContradiction fun hnzq => ?_; obtain ⟨a, b, xs, ys, rfl, rfl, ha, hb, hl, fx, fy, q⟩ := h
  refine hnzq ?_; clear hnzq
  cases rx
  cases ry
  refine Classical.byContradiction fun hnzq => ?_; obtain ⟨us, r, pl, _⟩ := I.tuple ha
  refine hnzq ?_; clear hnzq
  refine Classical.byContradiction fun hnzq => ?_; obtain ⟨ws, r', pl', _⟩ := I.tuple hb
  refine hnzq ?_; clear hnzq
  have hz : us.toArray.size = ws.toArray.size := by simp only [List.size_toArray]; rw [← r.length, ← r'.length, hl]
  refine SeqAt.eq_tupleAt (e := eqAtJ xs ys) pl pl' hu (fun j h1 h2 => items_eqAt r r' fx fy j h1 h2) ⟨.bl (eqVs xs ys), H, I, ?_, q⟩
  show Value.bool _ = Value.bool _
  rw [← hz, Nat.min_self, beq_self_eq_true, Bool.and_true, List.size_toArray, ← r.length, eqVs_all hl]
noncomputable def cVal : V → Option Value
  | .ref a => some (.ref a)
  | .ty n => some (.type n)
  | _ => none
theorem cVal_rel {c : V} {k u : Value} (e : cVal c = some k) (r : RelV c u) : u = k := by
  cases c with
  | ref a => cases e; exact r
  | ty n => cases e; exact r
  | _ => cases e
theorem call_isinst : CallR X (.builtin "isinstance") (fun xs H Q => ∃ x c t k b, xs = [x, c] ∧ TyOf X.K H x t ∧ cVal c = some k ∧ PySem.W.kitOne X.K t k = some b ∧ Q (.bl b) H) := by
  intro pins s σ H xs us Q I r h
  refine Classical.byContradiction fun hnzq => ?_; obtain ⟨x, c, t, k, b, rfl, ty, ck, e, q⟩ := h
  refine hnzq ?_; clear hnzq
  refine Classical.byContradiction fun hnzq => ?_; obtain ⟨u, w, rfl, ru, rw'⟩ := vals2 r
  refine hnzq ?_; clear hnzq
  obtain rfl := cVal_rel ck rw'
  exact isinst_ok I ru ty e fun tk => ⟨.bl b, H, I.tok tk, rfl, q⟩
theorem call_isinst_exc : CallR X (.builtin "isinstance") (fun xs H Q => ∃ (a : Addr) (oe : Obj) (C : Addr) (c : V) (k : Value) (b : Bool), xs = [.ref a, c] ∧ (a, oe) ∈ X.pn ∧ oe.cls = .ref C ∧ Bk.ExcK X.K C ∧ cVal c = some k ∧ PySem.W.kitOne X.K (.ref C) k = some b ∧ Q (.bl b) H) := by
  intro pins s σ H xs us Q I r h
  refine Classical.byContradiction fun hnzq => ?_; obtain ⟨a, oe, C, c, k, b, rfl, hp, hc, ek, ck, e, q⟩ := h
  refine hnzq ?_; clear hnzq
  refine Classical.byContradiction fun hnzq => ?_; obtain ⟨u, w, rfl, ru, rw'⟩ := vals2 r
  refine hnzq ?_; clear hnzq
  obtain rfl := cVal_rel ck rw'
  cases ru
  exact PySem.W.kia_one (Bk.kitx_exc ek) I.kIn ⟨oe, (I.pin _ (List.mem_append_left _ hp)).1, hc⟩ e (fun z => nomatch z) fun tk => ⟨.bl b, H, I.tok tk, rfl, q⟩
end
end L2
namespace L2
open PySem PySem.Spec PyProof.Rows
set_option genInjectivity false in
set_option genSizeOf false in
set_option genSizeOfSpec false in
structure Dv (K : PySem.W.Frag) (mg : Str → Option Value) (x : Str) (st : Stmt) (ps : List Str) where
  f : Addr
  fd : FuncData
  F : Fun K x x st f fd
  b : Binds K fd ps []
  m : mg x = some (.ref f)
section
variable {X : Cx} {x : Str} {st : Stmt} {ps : List Str} {CX : CXT} {k : Nat} {sp : Sp} {E : XK} {p pos : Pos} {e : Expr} {es : List Expr} {t : TA}
end
noncomputable def cell (ns : List Int) (k : Int) : Int := if k < (ns.length : Int) then ns.getD k.toNat 0 else 0
theorem at_cell {ns : List Int} {k : Int} (h0 : 0 ≤ k) (h : k < (ns.length : Int)) : atI (ns.map V.int) k = some (V.int (ns.getD k.toNat 0)) := by
  have hk : k.toNat < ns.length := by lia
  have e : k = ((k.toNat : Nat) : Int) := by lia
  rw [e]
  refine atI_nat ?_
  rw [List.getElem?_map, Int.toNat_natCast]
  simp [List.getD_eq_getElem?_getD, hk]
end L2
namespace L2
open PySem PySem.Spec PyProof.Rows
theorem PS.calm {X : Cx} {st : Stmt} {t : TS} (h : PS X.nox st t) : PS X st t := fun pins s σ H D I hw =>
  wpAny_mono (h pins s σ H D (I.wish _) hw) (fun _ _ q => q.unwish) fun _ _ z => False.elim z
noncomputable def closStep (env : Env) (p : Str × NameKind) (cs : List (Str × Addr)) : List (Str × Addr) := if (p.2 == NameKind.free) = true then (p.1, (env.cells.lookup p.1).getD 0) :: cs else cs
theorem forIn_fold {α β : Type} {f : α → β → Sem (ForInStep β)} {g : α → β → β} : ∀ {l : List α} (c : β), (∀ x ∈ l, ∀ c, f x c = pure (.yield (g x c))) → forIn l c f = pure (l.foldl (fun c x => g x c) c)
  | [], _, _ => rfl
  | x :: l, c, h => by
    rw [List.forIn_cons, h x List.mem_cons_self, pure_bind]
    exact forIn_fold _ fun y hy => h y (List.mem_cons_of_mem _ hy)
theorem clos_fold {env : Env} : ∀ {ns : List (Str × NameKind)} {cs : List (Str × Addr)}, (∀ p ∈ ns, p.2 = .free → ∃ c, env.cells.lookup p.1 = some c) → (∀ y c, cs.lookup y = some c → env.cells.lookup y = some c) →
    (∀ y c, (ns.foldl (fun c x => closStep env x c) cs).lookup y = some c → env.cells.lookup y = some c) ∧ ∀ y, ((y, NameKind.free) ∈ ns ∨ ∃ c, cs.lookup y = some c) → ∃ c, (ns.foldl (fun c x => closStep env x c) cs).lookup y = some c
  | [], cs, _, h => ⟨h, fun y z => z.elim (fun z => nomatch z) id⟩
  | p :: ns, cs, hf, h => by
    have step : ∀ y c, (closStep env p cs).lookup y = some c → env.cells.lookup y = some c := fun y c e => by
      unfold closStep at e
      by_cases hp : (p.2 == NameKind.free) = true
      · rw [if_pos hp, List.lookup_cons] at e
        obtain ⟨c', ec⟩ := hf p List.mem_cons_self (by simpa using hp)
        split at e
        · rename_i q
          have q' : y = p.1 := by simpa using q
          rw [ec] at e
          have e' : c' = c := Option.some.inj e
          rw [q', ec, e']
        · exact h y c e
      · rw [if_neg hp] at e
        exact h y c e
    obtain ⟨h1, h2⟩ := clos_fold (ns := ns) (cs := closStep env p cs) (fun q hq => hf q (List.mem_cons_of_mem _ hq)) step
    refine ⟨h1, fun y z => h2 y ?_⟩
    rcases z with z | ⟨c, z⟩
    · rcases List.mem_cons.mp z with z | z
      · refine .inr ?_
        unfold closStep
        rw [← z]
        simp [List.lookup_cons]
      · exact .inl z
    · refine .inr ?_
      unfold closStep
      by_cases hp : (p.2 == NameKind.free) = true
      · rw [if_pos hp, List.lookup_cons]
        split
        · exact ⟨_, rfl⟩
        · exact ⟨c, z⟩
      · rw [if_neg hp]; exact ⟨c, z⟩
theorem closure_of {scope : Scope} {env : Env} (h : ∀ p ∈ scope.names, p.2 = .free → ∃ c, env.cells.lookup p.1 = some c) :
    ∃ cl, closureFor scope env = pure cl ∧ (∀ y c, cl.lookup y = some c → env.cells.lookup y = some c) ∧ ∀ y, (y, NameKind.free) ∈ scope.names → ∃ c, cl.lookup y = some c := by
  obtain ⟨h1, h2⟩ := clos_fold (cs := []) h (fun y c e => by simp at e)
  refine ⟨_, ?_, h1, fun y hy => h2 y (.inl hy)⟩
  simp only [closureFor]
  rw [forIn_fold (g := closStep env) [] (fun x hx c => ?_)]
  · rfl
  · obtain ⟨n, k⟩ := x
    unfold closStep
    by_cases hk : (k == NameKind.free) = true
    · obtain ⟨c', ec⟩ := h (n, k) hx (by simpa using hk)
      simp only [hk, if_true, cellOf, ec, pure_bind, Option.getD_some]
    · simp only [hk, Bool.false_eq_true, if_false]
noncomputable def Cx.blk (X : Cx) (ts M : List Str) (scope : Scope) (cl : List (Str × Addr)) (C : Addr) (fp : List Addr) (s : Shared) (H : Hp) : Cx where
  prog := X.prog
  w := X.w
  K := X.K
  mg := X.mg
  base := X.base
  A := X.A
  N := ts ++ M
  s₀ := s
  H₀ := H
  env := compEnvC scope cl C X.env
  outer := X.stack
  stack := X.stack
  ex := fp
  fn := fun _ => false
  calm := X.calm
  pn := X.pn
  xe := fun _ _ => False
theorem relabel_lookup {env : Env} : ∀ {names : List (Str × NameKind)} {x : Str} {k : NameKind}, (names.map fun (n, k) => if (k == NameKind.free && env.scope.kind == .function && env.kindOf n == some .cell) then (n, NameKind.cell) else (n, k)).lookup x = some k →
    (names.lookup x = some k) ∨ (k = .cell ∧ names.lookup x = some .free)
  | [], _, _, h => by simp at h
  | (n, k0) :: r, x, k, h => by
    have ih := @relabel_lookup env r x k
    rw [List.map_cons] at h
    by_cases hc : (k0 == NameKind.free && env.scope.kind == .function && env.kindOf n == some .cell) = true
    · simp only [hc, if_true, List.lookup_cons] at h ⊢
      cases hx : x == n with
      | true =>
        rw [hx] at h
        have e : NameKind.cell = k := Option.some.inj h
        simp only [Bool.and_eq_true, beq_iff_eq] at hc
        exact .inr ⟨e.symm, by rw [hc.1.1]⟩
      | false =>
        rw [hx] at h
        exact ih h
    · simp only [hc, Bool.false_eq_true, if_false, List.lookup_cons] at h ⊢
      cases hx : x == n with
      | true => rw [hx] at h; exact .inl h
      | false => rw [hx] at h; exact ih h
set_option genInjectivity false in
set_option genSizeOf false in
set_option genSizeOfSpec false in
structure BlkOk (X : Cx) (ts M : List Str) (scope : Scope) : Prop where
  kind : scope.kind = .function
  cell : ∀ y ∈ scope.names, y.2 ≠ .cell
  loc : ∀ y ∈ scope.names, y.2 = .local → scope.names.lookup y.1 = some .local
  free : ∀ p ∈ scope.names, p.2 = .free → X.env.kindOf p.1 = some .cell ∨ X.env.kindOf p.1 = some .free
  len : M.length = X.N.length
  apart : ∀ (i : Nat) (y : Str), M[i]? = some y → scope.names.lookup y = none ∨ (X.N[i]? = some y ∧ scope.names.lookup y ≠ some .local)
section
variable {X : Cx} {ts M : List Str} {scope : Scope} {cl : List (Str × Addr)} {C : Addr} {fp : List Addr} {pins : List (Addr × Obj)} {σ : St} {H : Hp} {s s1 : Shared}
theorem lookup_mem {α : Type} {l : List (Str × α)} {x : Str} {a : α} (h : l.lookup x = some a) : (x, a) ∈ l := PySem.mem_of_lookup h
theorem Inv.blk (b : BlkOk X ts M scope) (I : Inv X pins σ H s) (h1 : ∀ y c, cl.lookup y = some c → X.env.cells.lookup y = some c) (h2 : ∀ y, (y, NameKind.free) ∈ scope.names → ∃ c, cl.lookup y = some c) (hf : ∀ b ∈ fp, FpOk X pins H b)
    (hlt : ∀ b ∈ fp, b < s.heap.objs.size) (hC : s.heap.objs.size ≤ C) {h' : Heap} {t : Nat} (k : ∀ b o, s.heap.get? b = some o → h'.get? b = some o) {m : Str → Option Value} (hn : h'.Ns C m) :
    Inv (X.blk ts M scope cl C fp s H) pins (List.replicate ts.length none ++ σ) H { s with heap := h', toks := t } := by
  have sub : ∀ a ∈ frs X.stack, a = X.env.locals ∨ a ∈ X.fs := fun a ha => List.mem_cons.mp (I.stkSub a ha)
  have hfree : ∀ y, scope.names.lookup y = some .free → X.env.kindOf y = some .cell ∨ X.env.kindOf y = some .free := fun y e => b.free (y, .free) (lookup_mem e) rfl
  have hk : ∀ {y : Str} {kd : NameKind}, (compEnvC scope cl C X.env).kindOf y = some kd → scope.names.lookup y = some kd ∨ (kd = .cell ∧ scope.names.lookup y = some .free) := fun e => relabel_lookup e
  refine ⟨⟨I.ok.mod, b.kind, I.ok.glob, I.ok.blt, hC, fun x y c e1 e2 => I.ok.inj x y c (h1 x c e1) (h1 y c e2), fun x hx => ?_, (fun x c z => absurd (show false = true from z) Bool.false_ne_true), I.ok.hd, I.ok.frames, .inl rfl, fun a ha => ⟨?_, fun x c e => (hf a ha).2.2.2.2.1 x c (h1 x c e)⟩,
    fun a o e => I.bs a o e, Nat.le_trans I.ok.bsz I.sz, fun a o e ha => ?_, fun a ha z => ?_, I.stack, I.stkFree⟩, rfl, I.bare, Un.kept k, ⟨m, hn, fun i y v e1 e2 e3 => ?_⟩, fun x c e => ?_, I.hok.fresh hC, fun x c e => I.freeC x c (h1 x c e), fun p hp => ?_, I.hok.kept k, ?_⟩
  · rcases hx with hx | hx
    · rcases hk hx with z | ⟨_, z⟩
      · exact absurd rfl (b.cell (x, .cell) (lookup_mem z))
      · exact h2 x (lookup_mem z)
    · rcases hk hx with z | ⟨z, _⟩
      · exact h2 x (lookup_mem z)
      · cases z
  · exact Nat.ne_of_lt (Nat.lt_of_lt_of_le (hlt a ha) hC)
  · rcases (hf a ha).2.2.2.1 with z | z
    · exact I.ok.noex a o e z
    · exact absurd (Nat.lt_of_lt_of_le (Nat.lt_of_lt_of_le (Heap.lt_size e) I.ok.bsz) z) (Nat.lt_irrefl _)
  · rcases sub a z with z | z
    · exact (hf a ha).2.1 z
    · exact (hf a ha).2.2.1 z
  · have hi : ts.length ≤ i := by
      by_cases q : ts.length ≤ i
      · exact q
      · rw [List.getElem?_append_left (by simpa using q), List.getElem?_replicate] at e2
        split at e2 <;> cases e2
    have e1M : M[i - ts.length]? = some y := by
      have z : (ts ++ M)[i]? = some y := e1
      rwa [List.getElem?_append_right hi] at z
    have e2' : σ[i - ts.length]? = some (some v) := by
      rw [List.getElem?_append_right (by simpa using hi), List.length_replicate] at e2
      exact e2
    obtain ⟨e1', nl⟩ : X.N[i - ts.length]? = some y ∧ scope.names.lookup y ≠ some .local := by
      rcases b.apart _ y e1M with z | z
      · exfalso
        rcases e3 with e3 | e3 | e3 <;> rcases hk e3 with q | ⟨_, q⟩ <;> (rw [z] at q; cases q)
      · exact z
    have fr : scope.names.lookup y = some .free := by
      rcases e3 with e3 | e3 | e3
      · rcases hk e3 with z | ⟨z, _⟩
        · exact absurd z nl
        · cases z
      · rcases hk e3 with z | ⟨_, z⟩
        · exact absurd rfl (b.cell (y, .cell) (lookup_mem z))
        · exact z
      · rcases hk e3 with z | ⟨z, _⟩
        · exact z
        · cases z
    refine Classical.byContradiction fun hnzq => ?_; obtain ⟨m0, hn0, hl0⟩ := I.loc
    refine hnzq ?_; clear hnzq
    have vis : Vis X.env.scope y := by
      rcases hfree y fr with z | z
      · exact .inr (.inl z)
      · exact .inr (.inr z)
    refine Classical.byContradiction fun hnzq => ?_; obtain ⟨u, r, l⟩ := hl0 _ y v e1' e2' vis
    refine hnzq ?_; clear hnzq
    obtain ⟨c, ec⟩ := h2 y (lookup_mem fr)
    refine ⟨u, r, .inr ⟨?_, c, ec, ?_⟩⟩
    · rcases e3 with e3 | e3 | e3
      · rcases hk e3 with z | ⟨z, _⟩
        · exact absurd z nl
        · cases z
      · exact .inl e3
      · exact .inr e3
    · rcases l with ⟨kl, _⟩ | ⟨_, c', ec', z⟩
      · rcases hfree y fr with q | q <;> (rw [kl] at q; cases q)
      · rw [h1 y c ec] at ec'
        cases ec'
        refine Classical.byContradiction fun hnzq => ?_; obtain ⟨o, ho, hd⟩ := z
        refine hnzq ?_; clear hnzq
        exact ⟨o, k _ _ ho, hd⟩
  · refine Classical.byContradiction fun hnzq => ?_; obtain ⟨v, o, ho, hd⟩ := I.cell x c (h1 x c e)
    refine hnzq ?_; clear hnzq
    exact ⟨v, o, k _ _ ho, hd⟩
  · refine Classical.byContradiction fun hnzq => ?_; obtain ⟨e, n, ne, nf, d⟩ := I.pin p hp
    refine hnzq ?_; clear hnzq
    refine ⟨k _ _ e, n, Nat.ne_of_lt (Nat.lt_of_lt_of_le (Heap.lt_size e) hC), fun z => ?_, d⟩
    rcases sub _ z with z | z
    · exact ne z
    · exact nf z
  · show _ = (ts ++ M).length
    rw [List.length_append, List.length_append, List.length_replicate, I.len, b.len]
theorem Inv.unblk {D : Addr} {ys : List V} {us : List Value} {n : Nat} {σ' : St} {H' : Hp} (I : Inv X pins σ H s) (J : Inv (X.blk ts M scope cl C fp s H) pins σ' H' s1) (hf : ∀ b ∈ fp, FpOk X pins H b) (hD : s.heap.objs.size ≤ D) (hn : H' D = none)
    (ho : s1.heap.get? D = some { cls := .type "list", data := .seq us.toArray n }) (r : Vals ys us) (hz : ys.length ≤ sizeLine) : Inv X pins σ (upd H' D (.lst ys)) s1 := by
  have u : Un (frs X.stack) fp H H' s.heap s1.heap := J.base
  have ndt : ∀ b o, H' b = some o → b ≠ D := fun b o e z => by rw [z, hn] at e; cases e
  refine I.call' (ch := fp) J.os ⟨u.keep, u.slot, fun b o e n hx => ?_, u.there, fun b xs e => ?_, fun b o xs e => ?_, fun b ps e => ?_⟩ (fun b o e => ?_) J.bare (fun b hb => ?_)
  · rw [upd_ne (Nat.ne_of_lt (Nat.lt_of_lt_of_le (Heap.lt_size e) hD))]
    exact u.free b o e n hx
  · have z := u.tups b xs e
    rw [upd_ne (ndt b _ z)]; exact z
  · have z := u.frzs b o xs e
    rw [upd_ne (ndt b _ z)]; exact z
  · obtain ⟨more, z⟩ := u.tbls b ps e
    exact ⟨more, by rw [upd_ne (ndt b _ z)]; exact z⟩
  · by_cases hb : b = D
    · subst hb
      rw [upd_same] at e
      cases e
      exact ⟨hz, us, n, r, ho⟩
    · rw [upd_ne hb] at e
      exact (J.hok b o e).stay (fun c v _ q => q) (fun c q => by rw [upd_ne (ndt c _ q)]; exact q) fun c xs q => by rw [upd_ne (ndt c _ q)]; exact q
  · refine Classical.byContradiction fun hnzq => ?_; obtain ⟨f0, f1, f2, f3, f4, f5⟩ := hf b hb
    refine hnzq ?_; clear hnzq
    exact ⟨f3, f1, f4, f5⟩
end
noncomputable def PIf (X : Cx) (ifs : List Expr) (t : TT) : Prop :=
  ∀ (pins : List (Addr × Obj)) (s : Shared) (σ : St) (H : Hp) (Q : Bool → Hp → Prop), Inv X pins σ H s → t σ H Q →
    wpAny (model X.prog X.w) X.A (forIn ifs true fun c r => if r = true then do let ok ← isTrue c X.env (eval c X.env); pure (ForInStep.yield ok) else pure (ForInStep.yield r)) (TP X pins σ Q) X.xe s
noncomputable def tYes : TT := fun _ H Q => Q true H
theorem pif_nil {X : Cx} : PIf X [] tYes := fun _ _ _ H _ I h => wpAny_tests_nil ⟨H, I, h⟩
noncomputable def NewL (Q : VK) (ys : List V) (H : Hp) : Prop := ∀ p, H p = none → Q (.ref p) (upd H p (.lst ys))
noncomputable def tComp (k : Nat) (wi : TI) (g : TG) (tf : TT) (te : TE) : TE := fun σ H Q => wi σ H fun J H1 => ∃ W : Nat → Nat → List V → Hp → Prop, (∃ m, W 0 m [] H1) ∧ ∀ i m ys H2, W i m ys H2 →
  (J.stop i H2 ∧ NewL Q ys H2) ∨
  (J.go i H2 ∧ ys.length < sizeLine ∧ ∀ x H3, J.yld i H2 x H3 → g x (List.replicate k none ++ σ) H3 fun σ4 H4 => σ4.drop k = σ ∧ tf σ4 H4 fun b H5 =>
    if b = true then te σ4 H5 fun y H6 => ∃ m', m' < m ∧ W (i + 1) m' (ys ++ [y]) H6 else ∃ m', m' < m ∧ W (i + 1) m' ys H5)
section
variable {prog : Program} {w : World} {A : Around} {R : Result → Shared → Prop} {s : Shared}
theorem compLoop_any {elt target iter : Expr} {ifs : List Expr} {scope : Scope} {pos : Pos} {it acc : Value} {env : Env} (I : Nat → Shared → Prop)
    (turn : ∀ n s, I n s → wpAny (model prog w) A (pyNext it) (fun r s₁ => match r with
      | none => R (.ok .next) s₁
      | some v => wpAny (model prog w) A (letOwnedTupleGo target it v) (fun _ s₂ => wpAny (model prog w) A (assign target env v) (fun _ s₂ =>
          wpAny (model prog w) A (forIn ifs true fun c r => if r = true then do let ok ← isTrue c env (eval c env); pure (ForInStep.yield ok) else pure (ForInStep.yield r)) (fun ok s₃ =>
            if ok = true then wpAny (model prog w) A (eval elt env) (fun x s₄ =>
              wpAny (model prog w) A (call (.builtin "list.append") [acc, x]) (fun _ s₅ => ∃ m, m < n ∧ I m s₅) (notedBy (model prog w) A env fun e s' => R (.error e) s') s₄) (notedBy (model prog w) A env fun e s' => R (.error e) s') s₃
            else ∃ m, m < n ∧ I m s₃) (notedBy (model prog w) A env fun e s' => R (.error e) s') s₂) (notedBy (model prog w) A env fun e s' => R (.error e) s') s₂) (notedBy (model prog w) A env fun e s' => R (.error e) s') s₁) (notedBy (model prog w) A env fun e s' => R (.error e) s') s)
    (n : Nat) (h : I n s) :
    codeAny (model prog w) A (.compLoop (.ListComp elt [⟨target, iter, ifs, 0⟩] scope pos) 0 it acc env) R s := by
  refine codeAny_loop rfl I (fun n s hI => ?_) n h
  show wpAny _ A ((compTurn (.ListComp elt [⟨target, iter, ifs, 0⟩] scope pos) 0 it acc env).onRaise (fun x => do noteFrame x env; theTreesLotGoes x)) _ _ s
  refine wpAny_noted ?_
  rw [compTurn_list]
  refine wpAny_bind (wpAny_standAt (wpAny_bind (wpAny_mono (turn n s hI) (fun r s₁ h₁ => ?_) fun _ _ h' => h')))
  cases r with
  | none => exact wpAny_pure h₁
  | some v =>
    refine wpAny_bind (wpAny_mono h₁ (fun _ s₂ h₂ => ?_) fun _ _ h' => h')
    refine wpAny_bind (wpAny_mono h₂ (fun _ s₂ h₂ => wpAny_bind (wpAny_mono h₂ (fun ok s₃ h₃ => ?_) fun _ _ h' => h')) fun _ _ h' => h')
    cases ok with
    | false => exact wpAny_pure ⟨rfl, h₃⟩
    | true =>
      exact wpAny_bind (wpAny_bind (wpAny_mono h₃ (fun x s₄ h₄ => wpAny_bind (wpAny_mono h₄ (fun _ s₅ h₅ => wpAny_pure (wpAny_pure ⟨rfl, h₅⟩)) fun _ _ h' => h')) fun _ _ h' => h'))
end
section
variable {X : Cx} {ts : List Str} {elt tg iter : Expr} {ifs : List Expr} {scope : Scope} {pos : Pos} {wi : TI} {g : TG} {tf : TT} {te : TE}
theorem blk_run {pins : List (Addr × Obj)} {σ : St} {H : Hp} {s : Shared} {cl : List (Str × Addr)} {it : Addr} {fp : List Addr} {tn : Nat → Heap → Prop} {J : It} {RR : Value → Addr → Result → Shared → Prop} {E : Value → Shared → Prop} {Q : VK}
    (b : BlkOk X ts M scope) (hc : X.calm = true) (hg : ∀ cl C fp s H, PG (X.blk ts M scope cl C fp s H) tg g) (hif : ∀ cl C fp s H, PIf (X.blk ts M scope cl C fp s H) ifs tf) (he : ∀ cl C fp s H, PE (X.blk ts M scope cl C fp s H) elt te)
    (I : Inv X pins σ H s) (h1 : ∀ y c, cl.lookup y = some c → X.env.cells.lookup y = some c) (h2 : ∀ y, (y, NameKind.free) ∈ scope.names → ∃ c, cl.lookup y = some c) (T : Turn X.prog X.w X.K tg J fp it tn) (st : tn 0 s.heap) (hf : ∀ b ∈ fp, FpOk X pins H b)
    (hw : ∃ W : Nat → Nat → List V → Hp → Prop, (∃ m, W 0 m [] H) ∧ ∀ i m ys H2, W i m ys H2 →
      (J.stop i H2 ∧ NewL Q ys H2) ∨
      (J.go i H2 ∧ ys.length < sizeLine ∧ ∀ x H3, J.yld i H2 x H3 → g x (List.replicate ts.length none ++ σ) H3 fun σ4 H4 => σ4.drop ts.length = σ ∧ tf σ4 H4 fun b H5 =>
        if b = true then te σ4 H5 fun y H6 => ∃ m', m' < m ∧ W (i + 1) m' (ys ++ [y]) H6 else ∃ m', m' < m ∧ W (i + 1) m' ys H5))
    (fin : ∀ D C s1 H2 ys m, Inv X pins σ (upd H2 D (.lst ys)) s1 → s1.heap.Ns C m → (upd H2 D (.lst ys)) C = none → C ≠ X.env.locals → X.s₀.heap.objs.size ≤ C → (∀ x c, X.env.cells.lookup x = some c → c ≠ C) → (∀ p ∈ X.pn ++ pins, p.1 ≠ C) →
      Q (.ref D) (upd H2 D (.lst ys)) → RR (.ref D) C (.ok .next) s1) :
    wpAny (model X.prog X.w) X.A (newList []) (fun acc s₃ => wpAny (model X.prog X.w) X.A (newFunctionEnv scope X.env.globals cl [] X.env.qual none .none (some X.env)) (fun cenv s₄ =>
      codeAny (model X.prog X.w) X.A (.compStart (.ListComp elt [⟨tg, iter, ifs, 0⟩] scope pos) 0 (.ref it) acc { cenv with scope := relabel scope X.env }) (RR acc cenv.locals) s₄) E s₃) E s := by
  refine Classical.byContradiction fun hnzq => ?_; obtain ⟨W, ⟨m0, w0⟩, turn⟩ := hw
  refine hnzq ?_; clear hnzq
  refine wpAny_newObj_type (wpAny_newFunctionEnv b.cell (by intro y hy; simp at hy) (fun h₁ hns₁ hsb₁ => ?_) b.kind)
  dsimp only at hns₁ hsb₁ ⊢
  generalize hH2 : s.heap.push { cls := .type "list", dict := none, data := .seq ([] : List Value).toArray } = G2 at hns₁ hsb₁ ⊢
  have hC : G2.objs.size = s.heap.objs.size + 1 := by rw [← hH2, Heap.size_push]
  have hDC : s.heap.objs.size ≠ G2.objs.size := by rw [hC]; exact Nat.ne_of_lt (Nat.lt_succ_self _)
  have hCle : s.heap.objs.size ≤ G2.objs.size := by rw [hC]; exact Nat.le_succ _
  have below : ∀ b, b < s.heap.objs.size → b ≠ G2.objs.size ∧ b ≠ s.heap.objs.size := fun b hb => ⟨by rw [hC]; exact Nat.ne_of_lt (Nat.lt_succ_of_lt hb), Nat.ne_of_lt hb⟩
  have old : ∀ b o, s.heap.get? b = some o → h₁.get? b = some o := fun b o e => hsb₁.extBut b o (below b (Heap.lt_size e)).1 (Heap.get?_push_of_some _ (hH2 ▸ Heap.get?_push_of_some _ e))
  have hacc : h₁.get? s.heap.objs.size = some { cls := .type "list", data := .seq ([] : List Value).toArray 0 } := hsb₁.extBut _ _ hDC (Heap.get?_push_of_some _ (hH2 ▸ Heap.get?_push_size _ rfl))
  have hlt : ∀ b ∈ fp, b < s.heap.objs.size := fun b hb => by
    refine Classical.byContradiction fun hnzq => ?_; obtain ⟨o, e, _⟩ := T.obj 0 _ st b hb
    refine hnzq ?_; clear hnzq
    exact Heap.lt_size e
  have hDf : s.heap.objs.size ∉ fp := fun hm => Nat.lt_irrefl _ (hlt _ hm)
  have cellLt : ∀ x c, X.env.cells.lookup x = some c → c < s.heap.objs.size := fun x c e => by
    obtain ⟨v, z⟩ := I.cell x c e
    exact z.lt
  have pinLt : ∀ p ∈ X.pn ++ pins, p.1 < s.heap.objs.size := fun p hp => Heap.lt_size (I.pin p hp).1
  have J0 : Inv (X.blk ts M scope cl G2.objs.size fp s H) pins (List.replicate ts.length none ++ σ) H { s with heap := h₁, toks := s.toks + ([] : List (Str × Value)).length } := I.blk b h1 h2 hf hlt hCle old hns₁
  have stat : ∀ {H' : Hp} {ps : List (Addr × Obj)}, (∀ b ∈ fp, H' b = none) → (∀ p ∈ ps, p ∈ pins ∨ p.1 = s.heap.objs.size) → ∀ b ∈ fp, FpOk (X.blk ts M scope cl G2.objs.size fp s H) ps H' b := fun {H' ps} hn hp b hb => by
    refine ⟨hn b hb, (below b (hlt b hb)).1, J0.ok.exfs b hb, .inl hb, fun x c e => (hf b hb).2.2.2.2.1 x c (h1 x c e), fun p hm => ?_⟩
    rcases List.mem_append.mp hm with z | z
    · exact (hf b hb).2.2.2.2.2 p (List.mem_append_left _ z)
    · rcases hp p z with z | z
      · exact (hf b hb).2.2.2.2.2 p (List.mem_append_right _ z)
      · rw [z]; exact Ne.symm (below b (hlt b hb)).2
  have dpin : ∀ {us : List Value} {n : Nat} {σ' : St} {H' : Hp} {s' : Shared}, Inv (X.blk ts M scope cl G2.objs.size fp s H) pins σ' H' s' → s'.heap.get? s.heap.objs.size = some { cls := .type "list", data := .seq us.toArray n } → H' s.heap.objs.size = none →
      Inv (X.blk ts M scope cl G2.objs.size fp s H) (pins ++ [(s.heap.objs.size, { cls := .type "list", data := .seq us.toArray n })]) σ' H' s' := fun {us n σ' H' s'} Jn e hn => Jn.pins_of fun p hp => by
    rcases List.mem_append.mp hp with z | z
    · exact Jn.pin p (List.mem_append_right _ z)
    · have z' := List.mem_singleton.mp z
      subst z'
      refine ⟨e, hn, hDC, fun z => ?_, fun v z => nomatch z⟩
      refine Classical.byContradiction fun hnzq => ?_; obtain ⟨_, o, ho, _⟩ := I.stack.mem z
      refine hnzq ?_; clear hnzq
      exact absurd (Heap.lt_size ho) (Nat.lt_irrefl _)
  have loop : ∀ s₃ : Shared, s₃ = { s with heap := h₁, toks := s.toks + ([] : List (Str × Value)).length } →
      codeAny (model X.prog X.w) X.A (.compLoop (.ListComp elt [⟨tg, iter, ifs, 0⟩] scope pos) 0 (.ref it) (.ref s.heap.objs.size) (compEnvC scope cl G2.objs.size X.env)) (RR (.ref s.heap.objs.size) G2.objs.size) s₃ := by
    rintro s₃ rfl
    refine compLoop_any (fun n s' => ∃ i ys us c H', Inv (X.blk ts M scope cl G2.objs.size fp s H) pins (List.replicate ts.length none ++ σ) H' s' ∧ tn i s'.heap ∧ (∀ b ∈ fp, H' b = none) ∧
      s'.heap.get? s.heap.objs.size = some { cls := .type "list", data := .seq us.toArray c } ∧ H' s.heap.objs.size = none ∧ Vals ys us ∧ ys.length ≤ sizeLine ∧ W i n ys H') ?_ m0
      ⟨0, [], [], 0, H, J0, T.keep _ _ _ st fun b _ o e => old b o e, fun b hb => (hf b hb).1, hacc, I.hok.fresh (Nat.le_refl _), .nil, Nat.zero_le _, w0⟩
    rintro n s' ⟨i, ys, us, c, H', J', st', fr', ho', hn', r', hz', w'⟩
    have Jp := dpin J' ho' hn'
    have pinOk : ∀ p ∈ pins ++ [(s.heap.objs.size, ({ cls := .type "list", data := .seq us.toArray c } : Obj))], p ∈ pins ∨ p.1 = s.heap.objs.size := fun p hp => (List.mem_append.mp hp).imp id fun z => by rw [List.mem_singleton.mp z]
    rcases turn i n ys H' w' with ⟨stop, q⟩ | ⟨go, hsz, step⟩
    · refine wpAny_mono (T.done (X.blk ts M scope cl G2.objs.size fp s H) rfl rfl rfl hc i _ s' _ H' _ Jp (stat fr' pinOk) st' stop) (fun r s4 ⟨hr, J4⟩ => ?_) fun _ _ z => z
      subst hr
      have J4' : Inv (X.blk ts M scope cl G2.objs.size fp s H) pins (List.replicate ts.length none ++ σ) H' s4 := J4.unpinned
      have e4 := (J4.pin (s.heap.objs.size, _) (List.mem_append_right _ (List.mem_append_right _ (List.mem_singleton.mpr rfl)))).1
      refine Classical.byContradiction fun hnzq => ?_; obtain ⟨m, hm, _⟩ := J4'.loc
      refine hnzq ?_; clear hnzq
      refine fin _ _ s4 H' ys m (I.unblk J4' hf (Nat.le_refl _) hn' e4 r' hz') hm ?_ (Ne.symm (Nat.ne_of_lt (Nat.lt_of_lt_of_le I.lt hCle))) (Nat.le_trans I.sz hCle) (fun x c e => Nat.ne_of_lt (Nat.lt_of_lt_of_le (cellLt x c e) hCle)) (fun p hp => Nat.ne_of_lt (Nat.lt_of_lt_of_le (pinLt p hp) hCle)) (q _ hn')
      rw [upd_ne (Ne.symm hDC)]
      exact J4'.free
    · refine wpAny_mono (T.item (X.blk ts M scope cl G2.objs.size fp s H) rfl rfl rfl hc i _ s' _ H' _ Jp (stat fr' pinOk) st' go) (fun r s4 ⟨u, hr, h4⟩ => ?_) fun _ _ z => z
      subst hr
      refine wpAny_mono h4 (fun _ s5 ⟨x, H5, I5, r5, y5, st5, fr5⟩ => ?_) fun _ _ z => z
      have I5' := I5.pinned (stat fr5 pinOk) (T.obj _ _ st5)
      refine wpAny_mono (hg cl G2.objs.size fp s H _ s5 _ H5 x u _ I5' r5 (step x H5 y5)) (fun _ s6 ⟨σ6, H6, I6, q6d, q6⟩ => ?_) fun _ _ z => False.elim z
      refine wpAny_mono (hif cl G2.objs.size fp s H _ s6 σ6 H6 _ I6 q6) (fun ok s7 ⟨H7, I7, q7⟩ => ?_) fun _ _ z => False.elim z
      have weak : ∀ {ps : List (Addr × Obj)} {H8 : Hp} {s8 : Shared}, Inv (X.blk ts M scope cl G2.objs.size fp s H) ps σ6 H8 s8 → Inv (X.blk ts M scope cl G2.objs.size fp s H) ps (List.replicate ts.length none ++ σ) H8 s8 := fun {ps H8 s8} K8 => by
        have len6 : σ6.length = (ts ++ M).length := K8.len
        rw [List.length_append, b.len] at len6
        refine K8.weak (by rw [List.length_append, List.length_replicate, len6, I.len]) fun j v e => ?_
        have hj : ts.length ≤ j := by
          by_cases q : ts.length ≤ j
          · exact q
          · rw [List.getElem?_append_left (by simpa using q), List.getElem?_replicate] at e
            split at e <;> cases e
        rw [List.getElem?_append_right (by simpa using hj), List.length_replicate, ← q6d, List.getElem?_drop] at e
        rwa [show ts.length + (j - ts.length) = j by (exact Nat.add_sub_of_le (by assumption))] at e
      have back : ∀ {H8 : Hp} {s8 : Shared}, Inv (X.blk ts M scope cl G2.objs.size fp s H) (pins ++ [(s.heap.objs.size, ({ cls := .type "list", data := .seq us.toArray c } : Obj))] ++ pinsAt fp s5.heap) σ6 H8 s8 →
          Inv (X.blk ts M scope cl G2.objs.size fp s H) pins (List.replicate ts.length none ++ σ) H8 s8 ∧ tn (i + 1) s8.heap ∧ (∀ b ∈ fp, H8 b = none) ∧ s8.heap.get? s.heap.objs.size = some { cls := .type "list", data := .seq us.toArray c } ∧ H8 s.heap.objs.size = none := fun {H8 s8} K8 => by
        have pD := K8.pin (s.heap.objs.size, _) (List.mem_append_right _ (List.mem_append_left _ (List.mem_append_right _ (List.mem_singleton.mpr rfl))))
        refine ⟨(weak K8).unpinned.unpinned, T.keep _ _ _ st5 fun b hb o e => (K8.pin (b, o) (List.mem_append_right _ (List.mem_append_right _ (mem_pinsAt hb e)))).1, fun b hb => ?_, pD.1, pD.2.1⟩
        refine Classical.byContradiction fun hnzq => ?_; obtain ⟨o, e, _⟩ := T.obj _ _ st5 b hb
        refine hnzq ?_; clear hnzq
        exact (K8.pin (b, o) (List.mem_append_right _ (List.mem_append_right _ (mem_pinsAt hb e)))).2.1
      cases ok with
      | false =>
        refine Classical.byContradiction fun hnzq => ?_; obtain ⟨m', hm', w7⟩ := q7
        refine hnzq ?_; clear hnzq
        refine Classical.byContradiction fun hnzq => ?_; obtain ⟨a1, a2, a3, a4, a5⟩ := back I7
        refine hnzq ?_; clear hnzq
        exact ⟨m', hm', i + 1, ys, us, c, H7, a1, a2, a3, a4, a5, r', hz', w7⟩
      | true =>
        refine wpAny_mono (he cl G2.objs.size fp s H _ s7 σ6 H7 _ I7 q7) (fun yv s8 ⟨y, H8, I8, r8, m', hm', w8⟩ => ?_) fun _ _ z => False.elim z
        refine Classical.byContradiction fun hnzq => ?_; obtain ⟨a1, a2, a3, a4, a5⟩ := back I8
        refine hnzq ?_; clear hnzq
        refine append_at (hsz := by rw [List.size_toArray, ← r'.length]; exact hz') a4 fun h9 hs9 hD9 => ?_
        have e9 : us.toArray.push yv = (us ++ [yv]).toArray := by simp
        rw [e9] at hD9
        refine ⟨m', hm', i + 1, ys ++ [y], us ++ [yv], c + 1, H8, ?_, T.keep _ _ _ a2 fun b hb o e => hs9.extBut b o (fun z => hDf (z ▸ hb)) e, a3, hD9, a5, r'.append (.cons r8 .nil), ?_, w8⟩
        · refine a1.turned (t' := s8.toks) (it := s.heap.objs.size) (fun b o hb e => hs9.extBut b o hb e) a5 hDC (.inr (Nat.le_refl _)) (fun x c e => Nat.ne_of_lt (cellLt x c (h1 x c e))) fun p hp => Nat.ne_of_lt (pinLt p hp)
        · rw [List.length_append, List.length_singleton]; lia
  exact codeAny_compStart_list (loop _ rfl) (T.self _ 0 _ _ _ (T.keep _ _ _ st fun b _ o e => old b o e) (loop _ rfl))
theorem pe_lcG (b : BlkOk X ts M scope) (hc : X.calm = true) (hi : PI X tg iter wi) (hg : ∀ cl C fp s H, PG (X.blk ts M scope cl C fp s H) tg g) (hif : ∀ cl C fp s H, PIf (X.blk ts M scope cl C fp s H) ifs tf) (he : ∀ cl C fp s H, PE (X.blk ts M scope cl C fp s H) elt te)
    (hs : ∀ x, foldedSetIterable iter X.env x = pure x := by intro _; rfl) : PE X (.ListComp elt [⟨tg, iter, ifs, 0⟩] scope pos) (tComp ts.length wi g tf te) := by
  intro pins s σ H Q I h
  refine Classical.byContradiction fun hnzq => ?_; obtain ⟨cl, hcl, h1, h2⟩ := closure_of (scope := scope) (env := X.env) fun p hp hk => I.ok.has p.1 (b.free p hp hk)
  refine hnzq ?_; clear hnzq
  rw [eval_ListComp]
  refine wpAny_comprehension_free (use := none) rfl hs hcl b.kind b.loc (thn (hi pins s σ H _ I h) fun v s1 h' => thn h' fun itv s2 h2' => ?_)
  refine Classical.byContradiction fun hnzq => ?_; obtain ⟨it, fp, tn, J, H2, e, I2, T, st2, f2, hw⟩ := h2'
  refine hnzq ?_; clear hnzq
  subst e
  refine blk_run (RR := fun acc C => compPost (model X.prog X.w) X.A X.xe none (EP X pins σ Q) acc C) b hc hg hif he I2 h1 h2 T st2 f2 hw ?_
  intro D C s3 H3 ys m I3 hn hC hL hsz hcell hpin q
  exact ⟨m, hn, fun h' hs' => ⟨.ref D, _, I3.turned (t' := s3.toks) (it := C) (fun b o hb e => hs'.extBut b o hb e) hC hL (.inr hsz) hcell hpin, rfl, q⟩⟩
end
theorem blk_mk {X : Cx} {ts : List Str} {scope sc : Scope} {N : List Str} (eN : X.N = N) (es : X.env.scope = sc) (h1 : scope.kind = .function) (h2 : (scope.names.all fun y => decide (y.2 ≠ .cell)) = true) (h3 : (scope.names.all fun y => decide (y.2 = .local → scope.names.lookup y.1 = some .local)) = true)
    (h4 : (scope.names.all fun p => decide (p.2 = .free → sc.names.lookup p.1 = some .cell ∨ sc.names.lookup p.1 = some .free)) = true) (h5 : (N.all fun y => decide (scope.names.lookup y ≠ some .local)) = true) : BlkOk X ts N scope := by
  subst eN es
  exact ⟨h1, fun y hy => of_decide_eq_true (List.all_eq_true.mp h2 y hy), fun y hy => of_decide_eq_true (List.all_eq_true.mp h3 y hy), fun y hy => of_decide_eq_true (List.all_eq_true.mp h4 y hy), rfl, fun i y hy => .inr ⟨hy, of_decide_eq_true (List.all_eq_true.mp h5 y (List.mem_of_getElem? hy))⟩⟩
set_option genInjectivity false in
set_option genSizeOf false in
set_option genSizeOfSpec false in
structure Lc (N : List Str) (sc scope : Scope) (x : Str) : Prop where
  nd : ([x] ++ N).Nodup
  kind : scope.kind = .function
  own : scope.names.lookup x = some .local
  cell : (scope.names.all fun y => decide (y.2 ≠ .cell)) = true
  loc : (scope.names.all fun y => decide (y.2 = .local → scope.names.lookup y.1 = some .local)) = true
  free : (scope.names.all fun p => decide (p.2 = .free → sc.names.lookup p.1 = some .cell ∨ sc.names.lookup p.1 = some .free)) = true
  apart : (N.all fun y => decide (scope.names.lookup y ≠ some .local)) = true
section
variable {X : Cx} {N : List Str} {sc scope : Scope} {x : Str} {px pos : Pos} {elt iter : Expr} {ifs : List Expr} {wi : TI} {tf : TT} {te : TE}
theorem Lc.ok (L : Lc N sc scope x) (eN : X.N = N) (es : X.env.scope = sc) : BlkOk X [x] N scope := blk_mk eN es L.kind L.cell L.loc L.free L.apart
theorem Lc.tg (L : Lc N sc scope x) (eN : X.N = N) (cl : List (Str × Addr)) (C : Addr) (fp : List Addr) (s : Shared) (H : Hp) : PG (X.blk [x] N scope cl C fp s H) (.Name x px) (gName 0) :=
  pg_name (X := X.blk [x] N scope cl C fp s H) (i := 0) (by show ([x] ++ N).Nodup; exact L.nd) rfl (.inl (lookup_relabel_local L.own)) (.inr (lookup_relabel_local L.own))
theorem pe_lc (L : Lc N sc scope x) (eN : X.N = N) (es : X.env.scope = sc) (hc : X.calm = true) (hi : PI X (.Name x px) iter wi) (hif : ∀ cl C fp s H, PIf (X.blk [x] N scope cl C fp s H) ifs tf) (he : ∀ cl C fp s H, PE (X.blk [x] N scope cl C fp s H) elt te)
    (hs : ∀ x, foldedSetIterable iter X.env x = pure x := by intro _; rfl) : PE X (.ListComp elt [⟨.Name x px, iter, ifs, 0⟩] scope pos) (tComp 1 wi (gName 0) tf te) :=
  pe_lcG (ts := [x]) (M := N) (L.ok eN es) hc hi (fun cl C fp s H => L.tg eN cl C fp s H) hif he hs
end
end L2
namespace L2
open PySem PySem.Spec PyProof.Rows
theorem passb0 {X : Cx} {P : Program} {w : World} : Passes (CXb P w) X E0 := fun _ _ _ _ _ _ _ h => by
  refine Classical.byContradiction fun hnzq => ?_; obtain ⟨_, _, _, _, _, q⟩ := h
  refine hnzq ?_; clear hnzq
  exact q.elim
theorem at_upd {H : Hp} {l p : Addr} {o u : HO} (h : H l = some o) (hp : H p = none) : upd H p u l = some o := by
  rw [upd_ne (ne_of_none h hp)]; exact h
theorem same_upd {H : Hp} {p : Addr} {u : HO} (hp : H p = none) : Same H (upd H p u) := fun _ _ h => at_upd h hp
theorem same_upd' {H H1 : Hp} {p : Addr} {u : HO} (h : Same H H1) (hp : H1 p = none) : Same H (upd H1 p u) := h.trans (same_upd hp)
theorem szOk {n : Nat} (h : n ≤ 16777216) : n ≤ sizeLine := by rw [sizeLine_eq]; exact h
theorem szLt {n : Nat} (h : n < 16777216) : n < sizeLine := by rw [sizeLine_eq]; exact h
end L2
namespace L2
open PySem PySem.Spec PyProof.Rows
noncomputable def tCut (t u : TS) : TS := fun D σ H => ∃ N : St → Hp → Prop, t { D with nx := N } σ H ∧ ∀ σ' H', N σ' H' → u D σ' H'
theorem pss_cut {X : Cx} {st : Stmt} {rest : List Stmt} {t u : TS} (h1 : PS X st t) (h2 : PSs X rest u) : PSs X (st :: rest) (tCut t u) := by
  intro pins s σ H D I h
  refine Classical.byContradiction fun hnzq => ?_; obtain ⟨N, hN, hu⟩ := h
  refine hnzq ?_; clear hnzq
  refine wpAny_execs_cons (thn (h1 pins s σ H { D with nx := N } I hN) fun f s1 q => ?_)
  cases f with
  | next =>
    refine Classical.byContradiction fun hnzq => ?_; obtain ⟨σ', H', I', q⟩ := q
    refine hnzq ?_; clear hnzq
    exact h2 pins s1 σ' H' D I' (hu σ' H' q)
  | ret v => exact q
  | brk => exact q
  | cont => exact q
end L2
namespace L2
open PySem PySem.Spec PyProof.Rows
theorem range_getD {α : Type} (l : List α) (d : α) : (List.range l.length).map (fun i => l.getD i d) = l := by
  refine List.ext_getElem (by simp) fun i h1 h2 => ?_
  simp [List.getD_eq_getElem?_getD, h2]
theorem all_range (bs : List Bool) : (List.range bs.length).all (fun i => bs.getD i true) = bs.all id := by
  have e := range_getD bs true
  conv => rhs; rw [← e]
  rw [List.all_map]
  rfl
theorem any_range (bs : List Bool) : (List.range bs.length).any (fun i => bs.getD i false) = bs.any id := by
  have e := range_getD bs false
  conv => rhs; rw [← e]
  rw [List.any_map]
  rfl
theorem preSum_take (ns : List Int) : ∀ i, i ≤ ns.length → preSum (fun i => ns.getD i 0) i = (ns.take i).sum
  | 0, _ => rfl
  | i + 1, h => by
    have e : ns[i]? = some (ns.getD i 0) := by
      rw [List.getD_eq_getElem?_getD, List.getElem?_eq_getElem (by lia)]; rfl
    rw [List.take_add_one, e, List.sum_append]
    show preSum (fun i => ns.getD i 0) i + ns.getD i 0 = _
    rw [preSum_take ns i (by (exact Nat.le_of_lt (by assumption)))]
    simp
section
variable {X : Cx}
theorem list_lt {h : Heap} {p : Addr} {its : Array Value} (l : h.IsList p its) : p < h.objs.size := by
  refine Classical.byContradiction fun hnzq => ?_; obtain ⟨o, e, _⟩ := l
  refine hnzq ?_; clear hnzq
  exact Heap.lt_size e
theorem item_bl {bs : List Bool} {its : List Value} (r : Vals (bs.map V.bl) its) {d : Bool} {i : Nat} {v : Value} (h : its.toArray[i]? = some v) : v = .bool (bs.getD i d) := by
  have h' : its[i]? = some v := by simpa using h
  have hl := r.length
  rw [List.length_map] at hl
  have hi : i < its.length := (List.getElem?_eq_some_iff.mp h').1
  refine Classical.byContradiction fun hnzq => ?_; obtain ⟨u, e1, r1⟩ := r.get (i := i) (x := .bl (bs.getD i d)) (by
    rw [List.getElem?_map, List.getElem?_eq_getElem (by lia), List.getD_eq_getElem?_getD, List.getElem?_eq_getElem (by omega)]; rfl)
  refine hnzq ?_; clear hnzq
  rw [h'] at e1
  cases e1
  exact r1
theorem item_int {ns : List Int} {its : List Value} (r : Vals (ns.map V.int) its) {i : Nat} {v : Value} (h : its.toArray[i]? = some v) : ∃ t, v = .int (ns.getD i 0) t := by
  have h' : its[i]? = some v := by simpa using h
  have hl := r.length
  rw [List.length_map] at hl
  have hi : i < its.length := (List.getElem?_eq_some_iff.mp h').1
  refine Classical.byContradiction fun hnzq => ?_; obtain ⟨u, e1, r1⟩ := r.get (i := i) (x := .int (ns.getD i 0)) (by
    rw [List.getElem?_map, List.getElem?_eq_getElem (by lia), List.getD_eq_getElem?_getD, List.getElem?_eq_getElem (by omega)]; rfl)
  refine hnzq ?_; clear hnzq
  rw [h'] at e1
  cases e1
  exact r1
theorem call_all (hc : X.calm = true) : CallR X (.builtin "all") (fun xs H Q => ∃ (p : Addr) (bs : List Bool), xs = [.ref p] ∧ SqL X.K H p (bs.map V.bl) ∧ Q (.bl (bs.all id)) H) := by
  intro pins s σ H xs us Q I r h
  refine Classical.byContradiction fun hnzq => ?_; obtain ⟨p, bs, rfl, hq, q⟩ := h
  refine hnzq ?_; clear hnzq
  refine Classical.byContradiction fun hnzq => ?_; obtain ⟨u, rfl, rx⟩ := vals1 r
  refine hnzq ?_; clear hnzq
  cases rx
  refine Classical.byContradiction fun hnzq => ?_; obtain ⟨its, r', pl, hz⟩ := I.list hq
  refine hnzq ?_; clear hnzq
  have hlt := list_lt pl.isList
  have hlen : its.toArray.size = bs.length := by rw [List.size_toArray, ← r'.length, List.length_map]
  refine call_all_walk (wpAny_pyIter_list pl.isList ?_)
  refine ⟨s.heap.objs.size, _, _, _, _, _, fun i => bs.getD i true, rfl, Walks.list (A := X.A.in1) (I.ok.hd hc) s.heap.objs.size p (Nat.ne_of_lt hlt) its.toArray, ⟨⟨_, Heap.get?_push_size _ rfl, rfl, rfl⟩, pl.isList.push _⟩, fun i v s' Q' E' hP hQ => ?_, fun h' tk hk => ?_⟩
  · rw [item_bl (d := true) r' hP]
    exact wpAny_truthy_bool hQ
  · refine ⟨.bl (bs.all id), H, I.kept (t' := tk) fun b o e => hk b o (fun z => Nat.ne_of_lt (Heap.lt_size e) (List.mem_singleton.mp z)) (Heap.get?_push_of_some _ e), ?_, q⟩
    show Value.bool _ = Value.bool _
    rw [hlen, all_range]
theorem call_any (hc : X.calm = true) : CallR X (.builtin "any") (fun xs H Q => ∃ (p : Addr) (bs : List Bool), xs = [.ref p] ∧ SqL X.K H p (bs.map V.bl) ∧ Q (.bl (bs.any id)) H) := by
  intro pins s σ H xs us Q I r h
  refine Classical.byContradiction fun hnzq => ?_; obtain ⟨p, bs, rfl, hq, q⟩ := h
  refine hnzq ?_; clear hnzq
  refine Classical.byContradiction fun hnzq => ?_; obtain ⟨u, rfl, rx⟩ := vals1 r
  refine hnzq ?_; clear hnzq
  cases rx
  refine Classical.byContradiction fun hnzq => ?_; obtain ⟨its, r', pl, hz⟩ := I.list hq
  refine hnzq ?_; clear hnzq
  have hlt := list_lt pl.isList
  have hlen : its.toArray.size = bs.length := by rw [List.size_toArray, ← r'.length, List.length_map]
  refine call_any_walk (wpAny_pyIter_list pl.isList ?_)
  refine ⟨s.heap.objs.size, _, _, _, _, _, fun i => bs.getD i false, rfl, Walks.list (A := X.A.in1) (I.ok.hd hc) s.heap.objs.size p (Nat.ne_of_lt hlt) its.toArray, ⟨⟨_, Heap.get?_push_size _ rfl, rfl, rfl⟩, pl.isList.push _⟩, fun i v s' Q' E' hP hQ => ?_, fun h' tk hk => ?_⟩
  · rw [item_bl (d := false) r' hP]
    exact wpAny_truthy_bool hQ
  · refine ⟨.bl (bs.any id), H, I.kept (t' := tk) fun b o e => hk b o (fun z => Nat.ne_of_lt (Heap.lt_size e) (List.mem_singleton.mp z)) (Heap.get?_push_of_some _ e), ?_, q⟩
    show Value.bool _ = Value.bool _
    rw [hlen, any_range]
theorem call_sum (hc : X.calm = true) : CallR X (.builtin "sum") (fun xs H Q => ∃ (p : Addr) (ns : List Int), xs = [.ref p] ∧ SqL X.K H p (ns.map V.int) ∧ Q (.int ns.sum) H) := by
  intro pins s σ H xs us Q I r h
  refine Classical.byContradiction fun hnzq => ?_; obtain ⟨p, ns, rfl, hq, q⟩ := h
  refine hnzq ?_; clear hnzq
  refine Classical.byContradiction fun hnzq => ?_; obtain ⟨u, rfl, rx⟩ := vals1 r
  refine hnzq ?_; clear hnzq
  cases rx
  refine Classical.byContradiction fun hnzq => ?_; obtain ⟨its, r', pl, hz⟩ := I.list hq
  refine hnzq ?_; clear hnzq
  have hlt := list_lt pl.isList
  have hlen : its.toArray.size = ns.length := by rw [List.size_toArray, ← r'.length, List.length_map]
  refine call_sum_walkG (wpAny_pyIter_list pl.isList ?_)
  refine ⟨s.heap.objs.size, _, _, _, _, _, fun i => ns.getD i 0, rfl, Walks.list (A := X.A.in1) (I.ok.hd hc) s.heap.objs.size p (Nat.ne_of_lt hlt) its.toArray, ⟨⟨_, Heap.get?_push_size _ rfl, rfl, rfl⟩, pl.isList.push _⟩, fun b hb => ?_, fun i v hP => item_int r' hP, fun h' tk t' hk => ?_⟩
  · show b < (s.heap.push _).objs.size
    rw [Heap.size_push]
    rcases List.mem_cons.mp hb with rfl | hb
    · exact Nat.lt_succ_self _
    · rw [List.mem_singleton.mp hb]; exact Nat.lt_succ_of_lt hlt
  · refine ⟨.int ns.sum, H, I.kept (t' := tk) fun b o e => hk b o (fun z => Nat.ne_of_lt (Heap.lt_size e) (List.mem_singleton.mp z)) (Heap.get?_push_of_some _ e), ⟨t', ?_⟩, q⟩
    rw [hlen, preSum_take ns _ (Nat.le_refl _), List.take_length]
noncomputable def Itv (n : Nat) (val : Nat → V) : It := ⟨fun i _ => i < n, fun i H x H' => H' = H ∧ x = val i, fun i _ => n ≤ i⟩
theorem turn_walk {P : Program} {w : World} {K : PySem.W.Frag} {tg : Expr} {it : Addr} {n : Nat} {Pv : Nat → Value → Prop} {St : Nat → Heap → Prop} {val : Nat → V} (W : ∀ A : Around, A.handled = none → Walks P w A it [it] [it] n Pv St)
    (hfr : ∀ i (h h' : Heap), St i h → (∀ o, h.get? it = some o → h'.get? it = some o) → St i h') (hobj : ∀ i h, St i h → ∃ o, h.get? it = some o ∧ ∀ v, o.data ≠ .cell v) (hP : ∀ i u, Pv i u → RelV (val i) u) (ht : ∀ v, letOwnedTupleGo tg (.ref it) v = pure ())
    (hself : ∀ (A : Around) (i : Nat) (s : Shared) (Q : Value → Shared → Prop) (E : Value → Shared → Prop), St i s.heap → Q (.ref it) s → wpAny (model P w) A (pyIter (.ref it)) Q E s) : Turn P w K tg (Itv n val) [it] it (fun i h => St i h ∧ i ≤ n) where
  mem := by simp
  obj := fun i h st b hb => by rw [List.mem_singleton.mp hb]; exact hobj i h st.1
  keep := fun i h h' st k => ⟨hfr i h h' st.1 fun o e => k it List.mem_cons_self o e, st.2⟩
  item := fun X e1 e2 e3 hc i pins s σ H E I hf st go => by
    subst e1 e2
    have go' : i < n := go
    refine (W X.A (I.ok.hd hc)).item i s _ _ go' st.1 fun v h' tk hv st' hk => ⟨v, rfl, ?_⟩
    rw [ht]
    refine Classical.byContradiction fun hnzq => ?_; obtain ⟨f0, f1, f2, f3, f4, f5⟩ := hf it List.mem_cons_self
    refine hnzq ?_; clear hnzq
    exact wpAny_pure ⟨val i, H, I.turned (t' := tk) (it := it) (fun b o hb e => hk b o (fun z => hb (List.mem_singleton.mp z)) e) f0 f1 f3 f4 f5, hP i v hv, ⟨rfl, rfl⟩, ⟨st', go'⟩, fun b hb => by rw [List.mem_singleton.mp hb]; exact f0⟩
  done := fun X e1 e2 e3 hc i pins s σ H E I hf st stop => by
    subst e1 e2
    obtain rfl : i = n := Nat.le_antisymm st.2 stop
    refine (W X.A (I.ok.hd hc)).done s _ _ st.1 fun h' tk hk => ⟨rfl, ?_⟩
    refine Classical.byContradiction fun hnzq => ?_; obtain ⟨f0, f1, f2, f3, f4, f5⟩ := hf it List.mem_cons_self
    refine hnzq ?_; clear hnzq
    exact I.turned (t' := tk) (it := it) (fun b o hb e => hk b o (fun z => hb (List.mem_singleton.mp z)) e) f0 f1 f3 f4 f5
  self := fun A i s Q E st h => hself A i s Q E st.1 h
noncomputable def sgn (z : Str) (i : Nat) : V := .str ⟨#[z.cps.getD i 0]⟩
noncomputable def iStr (tl : TE) : TI := fun σ H R => tl σ H fun x H1 => ∃ z, x = .str z ∧ R (Itv z.cps.size (sgn z)) H1
theorem sgn_rel {z : Str} {i : Nat} {u : Value} (h : SignAt z i u) : RelV (sgn z i) u := by
  refine Classical.byContradiction fun hnzq => ?_; obtain ⟨c, t, e, rfl⟩ := h
  refine hnzq ?_; clear hnzq
  have e' : z.cps.getD i 0 = c := by
    rw [Array.getD_eq_getD_getElem?, e]; rfl
  exact ⟨t, by rw [e']⟩
theorem pi_str {tg l : Expr} {tl : TE} (hl : PE X l tl) (ht : ∀ it v, letOwnedTupleGo tg it v = pure () := by intro _ _; rfl) : PI X tg l (iStr tl) := by
  intro pins s σ H R I h
  refine thn (hl pins s σ H _ I h) fun v s1 zzq => ?_
  refine Classical.byContradiction fun hnzq => ?_; obtain ⟨x, H1, I1, r1, q1⟩ := zzq; refine hnzq ?_; clear hnzq
  refine Classical.byContradiction fun hnzq => ?_; obtain ⟨z, rfl, q⟩ := q1
  refine hnzq ?_; clear hnzq
  obtain ⟨t, rfl⟩ := r1
  have fresh : ∀ o : Obj, ∀ b ∈ [s1.heap.objs.size], FpOk X pins H1 b := fun o b hb => by
    rw [List.mem_singleton.mp hb]
    exact I1.fpOk (Nat.le_refl _) (I1.hok.fresh (Nat.le_refl _))
  have kp : ∀ o : Obj, Inv X pins σ H1 { s1 with heap := s1.heap.push o } := fun o => I1.kept (t' := s1.toks) fun b u e => Heap.get?_push_of_some _ e
  have fr : ∀ (ty : String) (i : Nat) (h h' : Heap), h.IsStrIter s1.heap.objs.size ty z t i → (∀ o, h.get? s1.heap.objs.size = some o → h'.get? s1.heap.objs.size = some o) → h'.IsStrIter s1.heap.objs.size ty z t i := fun ty i h h' st k => by
    refine Classical.byContradiction fun hnzq => ?_; obtain ⟨o, ho, r⟩ := st
    refine hnzq ?_; clear hnzq
    exact ⟨o, k o ho, r⟩
  have ob : ∀ (ty : String) (i : Nat) (h : Heap), h.IsStrIter s1.heap.objs.size ty z t i → ∃ o, h.get? s1.heap.objs.size = some o ∧ ∀ v, o.data ≠ .cell v := fun ty i h st => by
    refine Classical.byContradiction fun hnzq => ?_; obtain ⟨o, ho, hc, hd⟩ := st
    refine hnzq ?_; clear hnzq
    exact ⟨o, ho, fun v e => by rw [hd] at e; cases e⟩
  cases ha : z.cps.all (· < 128)
  · refine wpAny_pyIter_wide ha ?_
    exact ⟨s1.heap.objs.size, [s1.heap.objs.size], _, _, H1, rfl, kp _, turn_walk (fun A' hA => Walks.strWide hA _ z t) (fr _) (ob _) (fun i u hu => sgn_rel hu) (ht _) (fun A i s' Q E st hq => wpAny_pyIter_striter_wide st hq), ⟨⟨_, Heap.get?_push_size _ rfl, rfl, rfl⟩, Nat.zero_le _⟩, fresh { cls := .none, data := .fields #[] }, q⟩
  · refine wpAny_pyIter_ascii ha ?_
    exact ⟨s1.heap.objs.size, [s1.heap.objs.size], _, _, H1, rfl, kp _, turn_walk (fun A' hA => Walks.strAscii hA _ z t) (fr _) (ob _) (fun i u hu => sgn_rel hu) (ht _) (fun A i s' Q E st hq => wpAny_pyIter_striter_ascii st hq), ⟨⟨_, Heap.get?_push_size _ rfl, rfl, rfl⟩, Nat.zero_le _⟩, fresh { cls := .none, data := .fields #[] }, q⟩
end
theorem for_val {n : Nat} {val : Nat → V} {g : TG} {tb : TS} {D : Ends} {σ : St} {H : Hp} (Pv : Nat → St → Hp → Prop) (h0 : Pv 0 σ H)
    (hs : ∀ i σ H, i < n → Pv i σ H → g (val i) σ H fun σ2 H2 => tb { D with nx := Pv (i + 1), ct := Pv (i + 1), bk := D.nx } σ2 H2) (hd : ∀ σ H, Pv n σ H → D.nx σ H) :
    ∃ W : Nat → Nat → St → Hp → Prop, (∃ m, W 0 m σ H) ∧ ∀ i m σ H, W i m σ H →
      ((Itv n val).stop i H ∧ D.nx σ H) ∨ ((Itv n val).go i H ∧ ∃ N : St → Hp → Prop, (∀ σ' H', N σ' H' → ∃ m', m' < m ∧ W (i + 1) m' σ' H') ∧ ∀ x H', (Itv n val).yld i H x H' → g x σ H' fun σ2 H2 => tb { D with nx := N, ct := N, bk := D.nx } σ2 H2) := by
  refine ⟨fun i m σ H => m = n - i ∧ i ≤ n ∧ Pv i σ H, ⟨n, by simp, Nat.zero_le _, h0⟩, ?_⟩
  rintro i m σ H ⟨rfl, hi, p⟩
  by_cases hlt : i < n
  · refine .inr ⟨hlt, Pv (i + 1), fun σ' H' p' => ⟨n - (i + 1), by omega, rfl, hlt, p'⟩, fun x H' y => ?_⟩
    obtain ⟨e, y⟩ := y
    subst e y
    exact hs i σ _ hlt p
  · have e : i = n := by omega
    subst e
    exact .inl ⟨Nat.le_refl _, hd σ H p⟩
theorem comp_val {n : Nat} {val : Nat → V} {k : Nat} {g : TG} {te : TE} {σ : St} {H : Hp} {Q : VK} (f : V → V) (hl : n ≤ sizeLine)
    (hs : ∀ i H', i < n → Same H H' → ∀ R : V → Hp → Prop, (∀ H2, Same H' H2 → R (f (val i)) H2) → g (val i) (List.replicate k none ++ σ) H' fun σ4 H4 => σ4.drop k = σ ∧ te σ4 H4 R)
    (hd : ∀ H', Same H H' → NewL Q ((List.range n).map fun i => f (val i)) H') :
    ∃ W : Nat → Nat → List V → Hp → Prop, (∃ m, W 0 m [] H) ∧ ∀ i m ys H2, W i m ys H2 →
      ((Itv n val).stop i H2 ∧ NewL Q ys H2) ∨
      ((Itv n val).go i H2 ∧ ys.length < sizeLine ∧ ∀ x H3, (Itv n val).yld i H2 x H3 → g x (List.replicate k none ++ σ) H3 fun σ4 H4 => σ4.drop k = σ ∧ tYes σ4 H4 fun b H5 =>
        if b = true then te σ4 H5 fun y H6 => ∃ m', m' < m ∧ W (i + 1) m' (ys ++ [y]) H6 else ∃ m', m' < m ∧ W (i + 1) m' ys H5) := by
  refine ⟨fun i m ys H2 => m = n - i ∧ i ≤ n ∧ ys = (List.range i).map (fun i => f (val i)) ∧ Same H H2, ⟨n, by simp, Nat.zero_le _, rfl, Same.refl H⟩, ?_⟩
  rintro i m ys H2 ⟨rfl, hi, rfl, sm⟩
  by_cases hlt : i < n
  · refine .inr ⟨hlt, ?_, fun x H3 y => ?_⟩
    · rw [List.length_map, List.length_range]; (exact Nat.lt_of_lt_of_le (by assumption) (by assumption))
    · obtain ⟨e, y⟩ := y
      subst e y
      refine hs i _ hlt sm _ fun H4 s4 => ?_
      refine ⟨n - (i + 1), by omega, rfl, hlt, ?_, sm.trans s4⟩
      rw [List.range_succ, List.map_append]
      rfl
  · have e : i = n := by omega
    subst e
    exact .inl ⟨Nat.le_refl _, hd H2 sm⟩
end L2
namespace L2
open PySem PySem.Spec PyProof.Rows
section
variable {prog : Program} {w : World} {A : Around} {R : Result → Shared → Prop} {I p : Addr} {its : List Value} {ns : List Int} {d : Value}
end
end L2
namespace L2
open PySem PySem.Spec PyProof.Rows
section
variable {prog : Program} {w : World} {A : Around} {R : Result → Shared → Prop} {I p : Addr} {its : List Value} {ns : List Int} {d : Value}
end
section
variable {X : Cx} {x : Str} {p pos : Pos} {e : Expr} {es : List Expr} {t tk : TA} {id : String} {kws : List Keyword} {ks : List Str} {r : List V → List V → Hp → VK → Prop}
end
end L2
namespace L2
open PySem PySem.Spec PyProof.Rows
section
variable {X : Cx}
theorem sl_str : SlR X (fun x lo hi H Q => ∃ z, x = .str z ∧ z.length ≤ sizeLine ∧ Q (.str (Txt.slice z lo hi)) H) := by
  intro pins s σ H x v vl vu lo hi sl Q I rx hs pl pu h
  refine Classical.byContradiction fun hnzq => ?_; obtain ⟨z, rfl, hz, q⟩ := h
  refine hnzq ?_; clear hnzq
  obtain ⟨t, rfl⟩ := rx
  refine ⟨"str", _, F.slot_str_getitem.lookup, typeIs_str _ _ _, ?_⟩
  have fin : ∀ (t' : Tok) (k : Nat), EP X pins σ Q (.str (Txt.slice z lo hi) t') { s with toks := k } := fun t' k => ⟨.str _, H, I.tok k, ⟨t', rfl⟩, q⟩
  refine Classical.byContradiction fun hnzq => ?_; obtain ⟨o, ho, hc, hd⟩ := hs
  refine hnzq ?_; clear hnzq
  cases pl with
  | none =>
    cases pu with
    | none => exact wpAny_getItem_str_slice (l := none) (u := none) (st := none) ⟨o, ho, hc, hd⟩ rfl (post_val_or_str ⟨Nat.le_trans (Txt.slice_le z _ _) hz, fin⟩)
    | int j uj => exact wpAny_getItem_str_slice (l := none) (u := some (j, uj)) (st := none) ⟨o, ho, hc, hd⟩ rfl (post_val_or_str ⟨Nat.le_trans (Txt.slice_le z _ _) hz, fin⟩)
  | int i ui =>
    cases pu with
    | none => exact wpAny_getItem_str_slice (l := some (i, ui)) (u := none) (st := none) ⟨o, ho, hc, hd⟩ rfl (post_val_or_str ⟨Nat.le_trans (Txt.slice_le z _ _) hz, fin⟩)
    | int j uj => exact wpAny_getItem_str_slice (l := some (i, ui)) (u := some (j, uj)) (st := none) ⟨o, ho, hc, hd⟩ rfl (post_val_or_str ⟨Nat.le_trans (Txt.slice_le z _ _) hz, fin⟩)
end
end L2
namespace L2
open PySem PySem.Spec PyProof.Rows
section
variable {X : Cx}
theorem strs_of : ∀ {ys : List Str} {its : List Value}, Vals (ys.map V.str) its → StrsAre its ys
  | [], _, .nil => .nil
  | y :: ys, _, .cons r t => by
    obtain ⟨tk, rfl⟩ := (show ∃ t, _ = Value.str y t from r)
    exact .cons y tk (strs_of t)
end
end L2
namespace L2
open PySem PySem.Spec PyProof.Rows
set_option genInjectivity false in
set_option genSizeOf false in
set_option genSizeOfSpec false in
structure FunD (K : PySem.W.Frag) (x qual : Str) (st : Stmt) (dV : Value) (f : Addr) (fd : FuncData) : Prop where
  ex : ∃ (oc : Value) (od : Option Addr) (kV doc pm : Value) (an : Option Addr) (cdv ct : Value) (osl : Array (Option Value)),
    fd = PySem.W.fnOf x qual (defArgs st) (defBody st) (defScope st) dV kV doc pm an cdv ct ∧ K.lookup f = some ⟨oc, od, .func fd, osl⟩ ∧ PySem.W.codeIn K cdv qual = true
  kp : PySem.W.keepIn K (.ref f) = true
theorem FunD.okx {P : Program} {w : World} {K : PySem.W.Frag} {mg : Str → Option Value} {base : Heap} {x qual : Str} {st : Stmt} {dV : Value} {f : Addr} {fd : FuncData} {N ps : List Str} {k : Nat} {sp : Sp} (F : FunD K x qual st dV f fd) (S : FnScope N ps (defScope st))
    (len : ∀ vs H Q E, sp vs H Q E → vs.length = ps.length)
    (hbody : ∀ (cdv : Value) (A : Around) (outer : List Env) (s : Shared) (H : Hp) (vs : List V) (Q : VK) (E : XK), Room k (A.deeper (envOfC qual (defScope st) s.heap.objs.size f cdv)) → sp vs H Q E →
      ∃ t, PSs (cxOf (CXb P w) P w K mg base N qual (defScope st) f cdv A outer s H E) (defBody st) t ∧ t { nx := fun _ H' => Q .non H', rt := Q } (start N vs) H) : FnOk P w K mg base (CXb P w) (k + 1) f fd ps sp := by
  refine Classical.byContradiction fun hnzq => ?_; obtain ⟨oc, od, kV, doc, pm, an, cdv, ct, osl, rfl, lk, hcd⟩ := F.ex
  refine hnzq ?_; clear hnzq
  exact fn_of lk hcd S len fun A outer s H vs Q E hr hsp => hbody cdv A outer s H vs Q E hr hsp
theorem fun_mkD {K : PySem.W.Frag} {x qual : Str} {st : Stmt} {dV : Value} {f : Addr} {oc : Value} {od an : Option Addr} {osl : Array (Option Value)} {kV doc pm cdv ct : Value} (l : K.lookup f = some ⟨oc, od, .func (PySem.W.fnOf x qual (defArgs st) (defBody st) (defScope st) dV kV doc pm an cdv ct), osl⟩)
    (c : PySem.W.codeIn K cdv qual = true) (k : PySem.W.keepIn K (.ref f) = true) : FunD K x qual st dV f (PySem.W.fnOf x qual (defArgs st) (defBody st) (defScope st) dV kV doc pm an cdv ct) := ⟨⟨oc, od, kV, doc, pm, an, cdv, ct, osl, rfl, l, c⟩, k⟩
set_option genInjectivity false in
set_option genSizeOf false in
set_option genSizeOfSpec false in
structure DvD (K : PySem.W.Frag) (mg : Str → Option Value) (x : Str) (st : Stmt) (ps : List Str) (dvs : List V) where
  f : Addr
  fd : FuncData
  dV : Value
  ds : List Value
  F : FunD K x x st dV f fd
  b : Binds K fd ps []
  bd : Binds K fd ps ds
  vd : Vals dvs ds
  m : mg x = some (.ref f)
end L2
namespace L2
open PySem PySem.Spec PyProof.Rows
section
variable {X : Cx} {tg : Expr}
noncomputable def iRng3 (ta : TA) : TI := fun σ H R => ta σ H fun vs H1 => ∃ i j c : Int, vs = [.int i, .int j, .int c] ∧ 0 < c ∧ c < 1073741824 ∧ Builtin.Range.small i j c = true ∧ R (Itv (Builtin.Range.rangeSize i j c).toNat fun k => .int (i + (k : Int) * c)) H1
theorem rangeSize_nn (i j c : Int) (hc : 0 < c) : 0 ≤ Builtin.Range.rangeSize i j c := by
  unfold Builtin.Range.rangeSize
  rw [if_pos hc]
  split
  · have := Int.ediv_nonneg (show 0 ≤ j - i - 1 by lia) (show 0 ≤ c by (exact Int.le_of_lt (by assumption)))
    omega
  · exact Int.le_refl 0
theorem pi_range3 {a b c : Expr} {ta : TA} {p pos : Pos} (hg : Gl X "range") (hm : X.mg "range" = none) (ha : PA X [a, b, c] ta) (hs : starEach [a, b, c] X.env = (false, eval a X.env) :: starEach [b, c] X.env := by rfl) (hpl : (backTo pos (starEach [b, c] X.env)).any (·.1) = false := by rfl)
    (ht : ∀ it v, letOwnedTupleGo tg it v = pure () := by intro _ _; rfl) : PI X tg (.Call (.Name "range" p) [a, b, c] [] pos) (iRng3 ta) := by
  intro pins s σ H R I h
  refine Call_ (ld_blt I hg hm boot_range (PyProof.Rows.callWith_type1 (thn (ha pos pins s σ H _ I h) fun us s1 ⟨vs, H1, I1, r1, q1⟩ => ?_) hs hpl))
  refine Classical.byContradiction fun hnzq => ?_; obtain ⟨i, j, k, e, q1, q2, q3, q⟩ := q1
  refine hnzq ?_; clear hnzq
  subst e
  cases r1 with
  | cons r rr =>
    cases rr with
    | cons r' rr =>
      cases rr with
      | cons r'' rr =>
        cases rr
        obtain ⟨t, rfl⟩ := r
        obtain ⟨t', rfl⟩ := r'
        obtain ⟨t'', rfl⟩ := r''
        refine call_range_3 (by omega) ?_ (.inl (PyProof.noPylong_small (by omega)))
        refine wpAny_pyIter_range (IsRange.new ..) q3 ?_
        have nn := rangeSize_nn i j k q1
        have I2 : Inv X pins σ H1 { s1 with heap := s1.heap.push { cls := .type "range", data := .fields #[.int i t, .int j t', .int k t''] }, toks := s1.toks } := I1.kept fun b o e => Heap.get?_push_of_some _ e
        refine ⟨(s1.heap.push { cls := .type "range", data := .fields #[.int i t, .int j t', .int k t''] }).objs.size, [(s1.heap.push { cls := .type "range", data := .fields #[.int i t, .int j t', .int k t''] }).objs.size], _, _, H1, rfl,
          I2.kept (t' := s1.toks) fun b o e => Heap.get?_push_of_some _ e, turn_walk (val := fun m => V.int (i + (m : Int) * k)) (fun A' hA => Walks.range hA _ i k (Builtin.Range.rangeSize i j k).toNat) (fun n h h' st kk => kk _ st) (fun n h st => ⟨_, st, fun v z => by cases z⟩) (fun n u hu => hu) (ht _) (fun A n s' Q E st hq => wpAny_pyIter_rangeiter st hq), ⟨?_, Nat.zero_le _⟩, fun b hb => ?_, q⟩
        · have e1 : i + ((0 : Nat) : Int) * k = i := by simp
          have e2 : (((Builtin.Range.rangeSize i j k).toNat : Nat) : Int) - ((0 : Nat) : Int) = Builtin.Range.rangeSize i j k := by lia
          show IsRangeIter _ _ (i + ((0 : Nat) : Int) * k) ((((Builtin.Range.rangeSize i j k).toNat : Nat) : Int) - ((0 : Nat) : Int)) k
          rw [e1, e2]
          exact Heap.get?_push_size _ rfl
        · rw [List.mem_singleton.mp hb]
          exact I2.fpOk (Nat.le_refl _) (I2.hok.fresh (Nat.le_refl _))
end
end L2
namespace L2
open PySem PySem.Spec PyProof.Rows
end L2
namespace L2
open PySem PySem.Spec PyProof.Rows
section
variable {X : Cx}
theorem ix_tupK {K : PySem.W.Frag} (h : X.K = K) : IxR X (rIxT K) := h ▸ ix_tup
theorem ix_listK {K : PySem.W.Frag} (h : X.K = K) : IxR X (rIxL K) := h ▸ ix_list
inductive EqH (K : PySem.W.Frag) (H : Hp) : Nat → V → V → Bool → Prop
  | flat {n x y} : flatV x = true → flatV y = true → EqH K H n x y (eqV x y)
  | same {n a} : EqH K H n (.ref a) (.ref a) true
  | lst {n a b xs ys} (e : Nat → Bool) : a ≠ b → SqL K H a xs → SqL K H b ys → xs.length = ys.length → (∀ j, j < xs.length → EqH K H n (xs.getD j .non) (ys.getD j .non) (e j)) → EqH K H (n + 1) (.ref a) (.ref b) ((List.range xs.length).all e)
  | lstN {n a b xs ys} : a ≠ b → SqL K H a xs → SqL K H b ys → xs.length ≠ ys.length → EqH K H (n + 1) (.ref a) (.ref b) false
  | tup {n a b xs ys} (e : Nat → Bool) : a ≠ b → SqT K H a xs → SqT K H b ys → xs.length = ys.length → (∀ j, j < xs.length → EqH K H n (xs.getD j .non) (ys.getD j .non) (e j)) → EqH K H (n + 1) (.ref a) (.ref b) ((List.range xs.length).all e)
theorem in1_units {A : Around} : A.in1.units = A.units + 1 := rfl
theorem vals_at {xs : List V} {us : List Value} (r : Vals xs us) {j : Nat} (h1 : j < us.toArray.size) : RelV (xs.getD j .non) us.toArray[j] := by
  have l1 : j < xs.length := by rw [r.length]; simpa using h1
  refine Classical.byContradiction fun hnzq => ?_; obtain ⟨u, e1, q1⟩ := r.get (i := j) (x := xs[j]) (List.getElem?_eq_getElem l1)
  refine hnzq ?_; clear hnzq
  have a1 : us.toArray[j] = u := by
    have := (List.getElem?_eq_some_iff.mp e1).2
    simpa using this
  have g1 : xs.getD j .non = xs[j] := by simp [List.getD_eq_getElem?_getD, l1]
  rw [a1, g1]
  exact q1
theorem eqH_at {pins : List (Addr × Obj)} {σ : St} {H : Hp} {s : Shared} (I : Inv X pins σ H s) {n : Nat} {x y : V} {b : Bool} (h : EqH X.K H n x y b) : ∀ {A : Around} {u v : Value}, RelV x u → RelV y v → A.units + n ≤ cLine → SeqAt.EqAt A s u v b := by
  induction h with
  | flat f g => intro A u v r r' _; exact eqAt_V r r' f g
  | same => intro A u v r r' _; cases r; cases r'; exact SeqAt.EqAt.same _
  | @lst n a b xs ys e hne ha hb hl _ ih =>
    intro A u v r r' hu
    cases r; cases r'
    refine Classical.byContradiction fun hnzq => ?_; obtain ⟨us, r, pl, _⟩ := I.list ha
    refine hnzq ?_; clear hnzq
    refine Classical.byContradiction fun hnzq => ?_; obtain ⟨ws, r', pl', _⟩ := I.list hb
    refine hnzq ?_; clear hnzq
    refine SeqAt.EqAt.of_refs hne ?_
    have hz : us.toArray.size = ws.toArray.size := by simp only [List.size_toArray]; rw [← r.length, ← r'.length, hl]
    have e1 : xs.length = us.toArray.size := by rw [List.size_toArray, ← r.length]
    rw [e1]
    refine SeqAt.RcAt.lists pl.isList pl'.isList hz (by lia) fun j h1 h2 => ?_
    exact ih j (by rw [e1]; exact h1) (vals_at r h1) (vals_at r' h2) (by rw [in1_units]; lia)
  | lstN hne ha hb hl =>
    intro A u v r r' hu
    cases r; cases r'
    refine Classical.byContradiction fun hnzq => ?_; obtain ⟨us, r, pl, _⟩ := I.list ha
    refine hnzq ?_; clear hnzq
    refine Classical.byContradiction fun hnzq => ?_; obtain ⟨ws, r', pl', _⟩ := I.list hb
    refine hnzq ?_; clear hnzq
    refine SeqAt.EqAt.of_refs hne (SeqAt.RcAt.lists_lengths pl.isList pl'.isList ?_ (by lia))
    simp only [List.size_toArray]; rw [← r.length, ← r'.length]; exact bne_iff_ne.mpr hl
  | @tup n a b xs ys e hne ha hb hl _ ih =>
    intro A u v r r' hu
    cases r; cases r'
    refine Classical.byContradiction fun hnzq => ?_; obtain ⟨us, r, pl, _⟩ := I.tuple ha
    refine hnzq ?_; clear hnzq
    refine Classical.byContradiction fun hnzq => ?_; obtain ⟨ws, r', pl', _⟩ := I.tuple hb
    refine hnzq ?_; clear hnzq
    refine SeqAt.EqAt.of_refs hne ?_
    have hz : us.toArray.size = ws.toArray.size := by simp only [List.size_toArray]; rw [← r.length, ← r'.length, hl]
    have e1 : xs.length = us.toArray.size := by rw [List.size_toArray, ← r.length]
    rw [e1, show (List.range us.toArray.size).all e = ((List.range (min us.toArray.size ws.toArray.size)).all e && us.toArray.size == ws.toArray.size) by rw [← hz, Nat.min_self, beq_self_eq_true, Bool.and_true]]
    refine SeqAt.RcAt.tuples pl pl' (by omega) fun j h1 h2 => ?_
    exact ih j (by rw [e1]; exact h1) (vals_at r h1) (vals_at r' h2) (by rw [in1_units]; omega)
noncomputable def rEqD (K : PySem.W.Frag) (neg : Bool) : R2 := fun x y H Q => ∃ a b xs ys, x = .ref a ∧ y = .ref b ∧ SqL K H a xs ∧ SqL K H b ys ∧
  ((xs.length ≠ ys.length ∧ Q (.bl neg) H) ∨ (xs.length = ys.length ∧ ∃ e : Nat → Bool, (∀ j, j < xs.length → EqH K H 60 (xs.getD j .non) (ys.getD j .non) (e j)) ∧ Q (.bl (if neg then !(List.range xs.length).all e else (List.range xs.length).all e)) H))
theorem op_neD (hu : X.A.units + 64 < cLine) : OpR X (compareOp .NotEq) (rEqD X.K true) := by
  intro pins s σ H x y v u Q I rx ry h
  refine Classical.byContradiction fun hnzq => ?_; obtain ⟨a, b, xs, ys, rfl, rfl, ha, hb, h⟩ := h
  refine hnzq ?_; clear hnzq
  cases rx
  cases ry
  refine Classical.byContradiction fun hnzq => ?_; obtain ⟨us, r, pl, _⟩ := I.list ha
  refine hnzq ?_; clear hnzq
  refine Classical.byContradiction fun hnzq => ?_; obtain ⟨ws, r', pl', _⟩ := I.list hb
  refine hnzq ?_; clear hnzq
  rcases h with ⟨hl, q⟩ | ⟨hl, e, he, q⟩
  · have hz : (us.toArray.size != ws.toArray.size) = true := by
      simp only [List.size_toArray]; rw [← r.length, ← r'.length]; exact bne_iff_ne.mpr hl
    exact SeqAt.RcNeAt.lists_lengths pl.isList pl'.isList hz (by lia) _ _ _ _ ⟨.bl true, H, I, rfl, q⟩
  · have hz : us.toArray.size = ws.toArray.size := by simp only [List.size_toArray]; rw [← r.length, ← r'.length, hl]
    have e1 : xs.length = us.toArray.size := by rw [List.size_toArray, ← r.length]
    refine SeqAt.RcNeAt.lists (e := e) pl.isList pl'.isList hz (by (clear I ha hb r pl r' pl' hl he q hz e1; omega)) (fun j h1 h2 => eqH_at I (he j (by rw [e1]; exact h1)) (vals_at r h1) (vals_at r' h2) (by rw [in1_units]; lia)) _ _ _ _ ⟨.bl (!(List.range xs.length).all e), H, I, ?_, q⟩
    show Value.bool _ = Value.bool _
    rw [e1]
end
theorem comp_map {K : PySem.W.Frag} {α : Type} {a : Addr} {ps : List α} {r : α → V} {k : Nat} {g : TG} {tf : TT} {te : TE} {σ : St} {H : Hp} {Q : VK} (p : α → Bool) (f : α → V) (hq : SqL K H a (ps.map r)) (hl : ps.length ≤ sizeLine)
    (hs : ∀ x H', x ∈ ps → Same H H' → ∀ (R : V → Hp → Prop) (R0 : Hp → Prop), (p x = true → ∀ H2, Same H' H2 → R (f x) H2) → (p x = false → ∀ H2, Same H' H2 → R0 H2) →
      g (r x) (List.replicate k none ++ σ) H' fun σ4 H4 => σ4.drop k = σ ∧ tf σ4 H4 fun b H5 => if b = true then te σ4 H5 R else R0 H5)
    (hd : ∀ H', Same H H' → NewL Q ((ps.filter p).map f) H') :
    ∃ W : Nat → Nat → List V → Hp → Prop, (∃ m, W 0 m [] H) ∧ ∀ i m ys H2, W i m ys H2 →
      ((Itl K a).stop i H2 ∧ NewL Q ys H2) ∨
      ((Itl K a).go i H2 ∧ ys.length < sizeLine ∧ ∀ x H3, (Itl K a).yld i H2 x H3 → g x (List.replicate k none ++ σ) H3 fun σ4 H4 => σ4.drop k = σ ∧ tf σ4 H4 fun b H5 =>
        if b = true then te σ4 H5 fun y H6 => ∃ m', m' < m ∧ W (i + 1) m' (ys ++ [y]) H6 else ∃ m', m' < m ∧ W (i + 1) m' ys H5) := by
  refine ⟨fun i m ys H2 => m = ps.length - i ∧ i ≤ ps.length ∧ ys = ((ps.take i).filter p).map f ∧ Same H H2, ⟨ps.length, by simp, Nat.zero_le _, rfl, Same.refl H⟩, ?_⟩
  rintro i m ys H2 ⟨rfl, hi, rfl, sm⟩
  have q2 : SqL K H2 a (ps.map r) := sm.seq hq
  by_cases hlt : i < ps.length
  · refine .inr ⟨⟨ps.map r, r ps[i], q2, by simp [hlt]⟩, ?_, fun x H3 y => ?_⟩
    · rw [List.length_map]
      have := List.length_filter_le p (ps.take i)
      rw [List.length_take] at this
      lia
    · obtain ⟨e, y⟩ := y
      subst e
      have ex : (ps.map r)[i]? = some x := y _ q2
      have ei : ps[i]? = some ps[i] := by simp [hlt]
      have exr : x = r ps[i] := by rw [List.getElem?_map, ei] at ex; exact (Option.some.inj ex).symm
      subst exr
      have tk : ps.take (i + 1) = ps.take i ++ [ps[i]] := by rw [List.take_add_one, ei]; rfl
      refine hs ps[i] _ (List.getElem_mem hlt) sm _ _ (fun hp H4 s4 => ?_) (fun hp H4 s4 => ?_)
      · refine ⟨ps.length - (i + 1), by omega, rfl, hlt, ?_, sm.trans s4⟩
        rw [tk, List.filter_append, List.map_append]
        simp [hp]
      · refine ⟨ps.length - (i + 1), by omega, rfl, hlt, ?_, sm.trans s4⟩
        rw [tk, List.filter_append, List.map_append]
        simp [hp]
  · have e : i = ps.length := by lia
    subst e
    refine .inl ⟨⟨ps.map r, q2, by simp⟩, ?_⟩
    rw [List.take_length]
    exact hd H2 sm
theorem same_updN {H H1 : Hp} {p : Addr} {u : HO} (h : Same H H1) (hp : H p = none) : Same H (upd H1 p u) := fun b o e => by
  have hne : b ≠ p := fun z => by rw [z, hp] at e; cases e
  rw [upd_ne hne]
  exact h b o e
theorem upd_tup {H : Hp} {a p : Addr} {l : List V} {xs : List V} {u : HO} (h : H a = some (.tup l)) (hp : H p = some (.lst xs)) : upd H p u a = some (.tup l) := by
  have hne : a ≠ p := fun z => by rw [z, hp] at h; cases h
  rw [upd_ne hne]
  exact h
theorem upd_oth {H : Hp} {a p : Addr} {o u : HO} (h : H a = some o) (hne : a ≠ p) : upd H p u a = some o := by rw [upd_ne hne]; exact h
end L2
namespace L2
open PySem PySem.Spec PyProof.Rows
section
variable {X : Cx} {N M : List Str} {sc scope : Scope} {ts : List Str} {tg : Expr} {pos : Pos} {elt iter : Expr} {ifs : List Expr} {wi : TI} {g : TG} {tf : TT} {te : TE}
end
theorem hu1 {n : Nat} (h : n + 64 < cLine) : n + 1 < cLine := by lia
end L2
namespace L2
open PySem PySem.Spec PyProof.Rows
end L2
namespace L2
open PySem PySem.Spec PyProof.Rows
section
variable (P : Program) (w : World)
end
section
variable {P : Program} {w : World} {H H' : Hp} {h h' : Heap} {a : Addr} {o : HO}
end
section
variable {P : Program} {w : World} {H : Hp} {h h' : Heap} {x e : Addr} {o' : HO}
end
section
variable {fs fs' ex ex' : List Addr} {H H1 H2 : Hp} {h h1 h2 h' : Heap} {a x e : Addr} {o : HO}
end
end L2
namespace L2
open PySem PySem.Spec PyProof.Rows
section
variable {X : Cx} {pins : List (Addr × Obj)} {σ : List (Option V)} {H H' : Hp} {s : Shared} {h' : Heap}
end
end L2
namespace L2
open PySem PySem.Spec PyProof.Rows
section
variable {X : Cx}
variable {a b : Expr} {ta tb : TE} {pos : Pos}
variable {tA tB' : TT} {rest : List Expr}
end
end L2
namespace L2
open PySem PySem.Spec PyProof.Rows
section
variable {X : Cx} {pins : List (Addr × Obj)} {σ : St} {H : Hp} {s : Shared} {a : Addr} {xs ys : List V}
end
section
variable {X : Cx} {pins : List (Addr × Obj)} {σ : St} {H : Hp} {s : Shared} {E : Value → Shared → Prop}
end
section
variable {X : Cx} {st : Stmt} {rest : List Stmt} {t u : TS} {e : Expr} {te : TE} {pos : Pos}
end
section
variable {X : Cx} {pos : Pos}
end
section
variable {X : Cx} {pos : Pos}
end
end L2
namespace L2
open PySem PySem.Spec PyProof.Rows
section
variable {X : Cx} {tg : Expr}
end
end L2
namespace L2
open PySem PySem.Spec PyProof.Rows
section
variable {X : Cx} {a b c : Expr} {ta tb tc : TE} {pos : Pos}
end
section
variable {X : Cx} {a b c : Expr} {ta tb tc : TE} {pos : Pos}
end
end L2
namespace L2
open PySem PySem.Spec PyProof.Rows
section
variable {prog : Program} {w : World} {A : Around} {E : Value → Shared → Prop} {s : Shared} {K : PySem.W.Frag} {x dx C f : Addr} {mA : Str → Option Value} {name : Str} {v : Value}
end
section
variable {P : Program} {w : World} {H H' : Hp} {h h' : Heap} {a C dx : Addr} {fs fs' : List (Str × V)}
end
section
variable {X : Cx} {pins : List (Addr × Obj)} {σ : St} {H : Hp} {s : Shared} {a C dx : Addr} {fs : List (Str × V)} {f : Str} {v : V} {A : Around} {E : Value → Shared → Prop}
end
section
variable {X : Cx} {o e value : Expr} {f : Str} {pos pos' tpos : Pos} {ta tv : TE}
end
section
variable {X : Cx} {pins : List (Addr × Obj)} {σ : St} {H : Hp} {s : Shared} {A : Around} {E : Value → Shared → Prop} {Q : Value → Shared → Prop} {c : Value} {b : Bool}
end
end L2
namespace L2
open PySem PySem.Spec PyProof.Rows
section
variable {X : Cx} {e : Expr} {es : List Expr} {te : TE} {t : TA} {pos : Pos}
end
section
variable {X : Cx} {pins : List (Addr × Obj)} {σ : St} {H : Hp} {s s' : Shared}
end
section
variable {X : Cx} {CX : CXT} {k : Nat} {f C : Addr} {fd : FuncData} {ps : List Str} {sp : Sp} {dvs : List V} {ds : List Value} {E : XK} {x m : Str} {p pos apos : Pos} {e o : Expr} {es : List Expr} {ta : TE} {t : TA}
end
section
variable {X : Cx} {CX : CXT} {k : Nat} {f C : Addr} {fd : FuncData} {ps ks : List Str} {sp : Sp} {E : XK} {x m : Str} {p pos apos kpos : Pos} {e o : Expr} {es : List Expr} {kws : List Keyword} {te ta : TE} {t tk : TA} {nm : Option Str}
variable {g : List Value → List Value → List Value} {gV : List V → List V → List V}
end
end L2
namespace L2
open PySem PySem.Spec PyProof.Rows
section
variable {X : Cx} {x : Str} {p pos : Pos} {e : Expr} {es : List Expr} {t : TA} {id T : String} {r : List V → Hp → VK → Prop}
end
end L2
namespace L2
open PySem PySem.Spec PyProof.Rows
section
variable {κ : Type} [DecidableEq κ]
noncomputable def valV (kvs : List (κ × V)) (k : κ) : Option V := (kvs.find? fun kv => decide (kv.1 = k)).map (·.2)
noncomputable def putK (kvs : List (κ × V)) (k : κ) (v : V) : List (κ × V) :=
  if (kvs.any fun kv => decide (kv.1 = k)) = true then kvs.map (fun kv => if kv.1 = k then (kv.1, v) else kv) else kvs ++ [(k, v)]
noncomputable def dropK (kvs : List (κ × V)) (k : κ) : List (κ × V) := kvs.filter fun kv => decide (kv.1 ≠ k)
theorem valV_pos {p : κ × V} {r : List (κ × V)} {k : κ} (e : p.1 = k) : valV (p :: r) k = some p.2 := by simp [valV, List.find?_cons, e]
theorem valV_neg {p : κ × V} {r : List (κ × V)} {k : κ} (e : ¬ p.1 = k) : valV (p :: r) k = valV r k := by simp [valV, List.find?_cons, e]
theorem valV_any (k : κ) : ∀ kvs : List (κ × V), (kvs.any fun kv => decide (kv.1 = k)) = (valV kvs k).isSome
  | [] => rfl
  | p :: r => by
    rw [List.any_cons]
    by_cases e : p.1 = k
    · simp only [valV_pos e, decide_eq_true e, Bool.true_or, Option.isSome_some]
    · rw [valV_neg e, decide_eq_false e, Bool.false_or]; exact valV_any k r
theorem length_putK (kvs : List (κ × V)) (k : κ) (v : V) : (putK kvs k v).length ≤ kvs.length + 1 := by
  unfold putK
  split
  · rw [List.length_map]; (exact Nat.le_succ _)
  · rw [List.length_append, List.length_cons, List.length_nil]; (exact Nat.lt_succ_self _)
theorem putK_new {kvs : List (κ × V)} {k : κ} (v : V) (h : valV kvs k = none) : putK kvs k v = kvs ++ [(k, v)] := by
  unfold putK
  rw [valV_any, h]
  exact if_neg (by decide)
theorem RelO.isSome_eq {o : Option V} {u : Option Value} (r : RelO o u) : o.isSome = u.isSome := by
  cases o with
  | none => cases u with
    | none => rfl
    | some _ => exact (show False from r).elim
  | some _ => cases u with
    | none => exact (show False from r).elim
    | some _ => rfl
theorem KV.val {kvs : List (κ × V)} {vs : List (κ × Value)} (r : KV kvs vs) (k : κ) : RelO (valV kvs k) (valueAt vs k) := by
  unfold KV at r
  induction r with
  | nil => exact True.intro
  | @cons p q ps qs h t ih =>
    obtain ⟨h1, h2⟩ := h
    by_cases e : p.1 = k
    · have e' : q.1 = k := h1.symm.trans e
      have b : valueAt (q :: qs) k = some q.2 := by simp [valueAt, List.find?_cons, e']
      rw [valV_pos e, b]; exact h2
    · have e' : ¬ q.1 = k := fun z => e (h1.trans z)
      have b : valueAt (q :: qs) k = valueAt qs k := by simp [valueAt, List.find?_cons, e']
      rw [valV_neg e, b]; exact ih
theorem KV.any {kvs : List (κ × V)} {vs : List (κ × Value)} (r : KV kvs vs) (k : κ) : (kvs.any fun kv => decide (kv.1 = k)) = vs.any fun kv => decide (kv.1 = k) := by
  unfold KV at r
  induction r with
  | nil => rfl
  | cons h t ih => rw [List.any_cons, List.any_cons, ih, h.1]
theorem KV.repl {kvs : List (κ × V)} {vs : List (κ × Value)} (r : KV kvs vs) (k : κ) {y : V} {u : Value} (ry : RelV y u) :
    KV (kvs.map fun kv => if kv.1 = k then (kv.1, y) else kv) (vs.map fun kv => if kv.1 = k then (kv.1, u) else kv) := by
  unfold KV at r ⊢
  induction r with
  | nil => exact .nil
  | @cons p q ps qs h t ih =>
    rw [List.map_cons, List.map_cons]
    refine .cons ?_ ih
    obtain ⟨h1, h2⟩ := h
    by_cases e : p.1 = k
    · rw [if_pos e, if_pos (h1.symm.trans e)]; exact ⟨h1, ry⟩
    · rw [if_neg e, if_neg (fun z => e (h1.trans z))]; exact ⟨h1, h2⟩
theorem KV.put {kvs : List (κ × V)} {vs : List (κ × Value)} (r : KV kvs vs) (k : κ) {y : V} {u : Value} (ry : RelV y u) : KV (putK kvs k y) (stored vs k u) := by
  unfold putK stored
  rw [r.any k]
  by_cases e : (vs.any fun kv => decide (kv.1 = k)) = true
  · rw [if_pos e, if_pos e]; exact r.repl k ry
  · rw [if_neg e, if_neg e]; exact Paired.snoc r ⟨rfl, ry⟩
theorem KV.drop {kvs : List (κ × V)} {vs : List (κ × Value)} (r : KV kvs vs) (k : κ) : KV (dropK kvs k) (without vs k) := by
  unfold KV at r ⊢
  unfold dropK without
  induction r with
  | nil => exact .nil
  | @cons p q ps qs h t ih =>
    obtain ⟨h1, h2⟩ := h
    rw [List.filter_cons, List.filter_cons]
    by_cases e : p.1 = k
    · have a : ¬ decide (p.1 ≠ k) = true := by simp [e]
      have b : ¬ decide (q.1 ≠ k) = true := by simp [h1.symm.trans e]
      rw [if_neg a, if_neg b]; exact ih
    · have e' : ¬ q.1 = k := fun z => e (h1.trans z)
      have a : decide (p.1 ≠ k) = true := by simp [e]
      have b : decide (q.1 ≠ k) = true := by simp [e']
      rw [if_pos a, if_pos b]; exact .cons ⟨h1, h2⟩ ih
theorem KV.length {kvs : List (κ × V)} {vs : List (κ × Value)} (r : KV kvs vs) : kvs.length = vs.length := Paired.length r
theorem dropK_le (kvs : List (κ × V)) (k : κ) : (dropK kvs k).length ≤ kvs.length := List.length_filter_le _ _
end
theorem kV_is {P : Program} {w : World} {k : Key} {u : Value} (r : RelV (kV k) u) : (mixKind P w).is k u = true := by
  cases k with
  | inl i => obtain ⟨t, e⟩ := (show ∃ t, u = Value.int i t from r); subst e; exact mixKind_int P w i t
  | inr x => obtain ⟨t, e⟩ := (show ∃ t, u = Value.str x t from r); subst e; exact mixKind_str P w x t
theorem items_are {P : Program} {w : World} : ∀ {ks : List Key} {us : List Value}, Vals (ks.map kV) us → ItemsAre (mixKind P w) ks us
  | [], _, r => by rw [List.map_nil] at r; cases r; exact .nil
  | k :: ks, _, r => by
    rw [List.map_cons] at r
    cases r with
    | cons h t => exact .cons (kV_is h) (items_are t)
noncomputable abbrev KT (H : Hp) : List (List Key × V) → List (List Key × Addr × Value) → Prop := Paired fun p q => p.1 = q.1 ∧ H q.2.1 = some (.tup (p.1.map kV)) ∧ RelV p.2 q.2.2
theorem KT.val {H : Hp} {kvs : List (List Key × V)} {xs : List (List Key × Addr × Value)} (r : KT H kvs xs) (k : List Key) : RelO (valV kvs k) ((atKey xs k).map (·.2)) := by
  induction r with
  | nil => exact True.intro
  | @cons p q ps qs h t ih =>
    refine Classical.byContradiction fun hnzq => ?_; obtain ⟨h1, _, h2⟩ := h
    refine hnzq ?_; clear hnzq
    by_cases e : p.1 = k
    · have e' : q.1 = k := h1.symm.trans e
      have b : atKey (q :: qs) k = some q.2 := by simp [atKey, List.find?_cons, e']
      rw [valV_pos e, b]; exact h2
    · have e' : ¬ q.1 = k := fun z => e (h1.trans z)
      have b : atKey (q :: qs) k = atKey qs k := by simp [atKey, List.find?_cons, e']
      rw [valV_neg e, b]; exact ih
theorem KT.repl {H : Hp} {kvs : List (List Key × V)} {xs : List (List Key × Addr × Value)} (r : KT H kvs xs) (k : List Key) {y : V} {u : Value} (ry : RelV y u) :
    KT H (kvs.map fun kv => if kv.1 = k then (kv.1, y) else kv) (xs.map (putAt k u)) := by
  induction r with
  | nil => exact .nil
  | @cons p q ps qs h t ih =>
    rw [List.map_cons, List.map_cons]
    refine .cons ?_ ih
    refine Classical.byContradiction fun hnzq => ?_; obtain ⟨h1, h2, h3⟩ := h
    refine hnzq ?_; clear hnzq
    unfold putAt
    by_cases e : p.1 = k
    · rw [if_pos e, if_pos (h1.symm.trans e)]; exact ⟨h1, h2, ry⟩
    · rw [if_neg e, if_neg (fun z => e (h1.trans z))]; exact ⟨h1, h2, h3⟩
theorem KT.put {H : Hp} {kvs : List (List Key × V)} {xs : List (List Key × Addr × Value)} (r : KT H kvs xs) (k : List Key) {b : Addr} {y : V} {u : Value} (hb : H b = some (.tup (k.map kV))) (ry : RelV y u) :
    KT H (putK kvs k y) (storedH xs k b u) := by
  have e : (kvs.any fun kv => decide (kv.1 = k)) = (atKey xs k).isSome := by
    rw [valV_any, (r.val k).isSome_eq, Option.isSome_map]
  unfold putK storedH
  rw [e]
  by_cases q : (atKey xs k).isSome = true
  · rw [if_pos q, if_pos q]; exact r.repl k ry
  · rw [if_neg q, if_neg q]; exact Paired.snoc r ⟨rfl, hb, ry⟩
theorem KT.keeps {H H' : Hp} {kvs : List (List Key × V)} {xs : List (List Key × Addr × Value)} (r : KT H kvs xs) (ht : ∀ b ys, H b = some (.tup ys) → H' b = some (.tup ys)) : KT H' kvs xs :=
  Paired.mapP r fun _ _ z => ⟨z.1, ht _ _ z.2.1, z.2.2⟩
section
variable {P : Program} {w : World} {H : Hp} {h : Heap} {a : Addr}
theorem rd_of {u : HO} (ok : HOk P w H h) (e : Rd H a u) : ObjOk P w H h a u := e.ok ok
theorem dk_rd {kvs : List (Key × V)} (ok : HOk P w H h) (e : Rd H a (.dK kvs)) : kvs.length ≤ sizeLine ∧ (a == sysModules) = false ∧ ∃ vs, KV kvs vs ∧ h.DictOf (mixKind P w) a vs :=
  show ObjOk P w H h a (.dK kvs) from rd_of ok e
theorem dk_of {kvs : List (Key × V)} (ok : HOk P w H h) (e : H a = some (.dK kvs)) : kvs.length ≤ sizeLine ∧ (a == sysModules) = false ∧ ∃ vs, KV kvs vs ∧ h.DictOf (mixKind P w) a vs := dk_rd ok (.inl e)
theorem key_of {ks : List Key} (ok : HOk P w H h) (e : H a = some (.tup (ks.map kV))) : (tupleKind (mixKind P w)).is h ks a := by
  refine Classical.byContradiction fun hnzq => ?_; obtain ⟨_, its, r, o, h1, h2, n, h3⟩ := (show ObjOk P w H h a (.tup (ks.map kV)) from ok a _ e)
  refine hnzq ?_; clear hnzq
  exact ⟨o, its.toArray, n, h1, h2, h3, by simpa using items_are r⟩
theorem dt_rd {kvs : List (List Key × V)} (ok : HOk P w H h) (e : Rd H a (.dT kvs)) : kvs.length ≤ sizeLine ∧ (a == sysModules) = false ∧
    ∃ xs, KT H kvs xs ∧ h.DictOfH (tupleKind (mixKind P w)) a xs := by
  refine Classical.byContradiction fun hnzq => ?_; obtain ⟨z, y, xs, r, o, es, ep, h1, h2, h3, h4, h5⟩ := (show ObjOk P w H h a (.dT kvs) from rd_of ok e)
  refine hnzq ?_; clear hnzq
  refine ⟨z, y, xs, r, o, es, ep, h1, h2, h3, h4, fun x hx => ?_, h5⟩
  have all : ∀ {l : List (List Key × V)} {m : List (List Key × Addr × Value)}, KT H l m → ∀ x ∈ m, (tupleKind (mixKind P w)).is h x.1 x.2.1 := by
    intro l m q
    induction q with
    | nil => intro x hx; exact nomatch hx
    | @cons p q ps qs hq t ih =>
      intro x hx
      rcases List.mem_cons.mp hx with e | hx
      · subst e
        exact key_of ok (by rw [← hq.1]; exact hq.2.1)
      · exact ih x hx
  exact all r x hx
theorem dt_of {kvs : List (List Key × V)} (ok : HOk P w H h) (e : H a = some (.dT kvs)) : kvs.length ≤ sizeLine ∧ (a == sysModules) = false ∧
    ∃ xs, KT H kvs xs ∧ h.DictOfH (tupleKind (mixKind P w)) a xs := dt_rd ok (.inl e)
end
noncomputable def DGet (H : Hp) (a : Addr) (y : V) (r : Option V) : Prop :=
  (∃ kvs k, Rd H a (.dK kvs) ∧ y = kV k ∧ r = valV kvs k) ∨ ∃ kvs k b, Rd H a (.dT kvs) ∧ y = .ref b ∧ H b = some (.tup (k.map kV)) ∧ r = valV kvs k
noncomputable def DPut (H : Hp) (a : Addr) (y v : V) (H' : Hp) : Prop :=
  (∃ kvs k, H a = some (.dK kvs) ∧ y = kV k ∧ kvs.length < sizeLine ∧ H' = upd H a (.dK (putK kvs k v))) ∨
  ∃ kvs k b, H a = some (.dT kvs) ∧ y = .ref b ∧ H b = some (.tup (k.map kV)) ∧ kvs.length < sizeLine ∧ H' = upd H a (.dT (putK kvs k v))
section
variable {X : Cx} {pins : List (Addr × Obj)} {σ : St} {H : Hp} {s : Shared} {a : Addr} {y v : V} {u r : Value} {o : Option V} {A : Around} {E : Value → Shared → Prop}
theorem Inv.big (I : Inv X pins σ H s) : sysModules < s.heap.objs.size := by
  have h : mainGlobals < s.heap.objs.size := (I.mod.glob.keeps I.bk).lt
  exact Nat.lt_trans (by decide) h
theorem d_getItem {Q : Value → Shared → Prop} (hu : A.units + 1 < cLine) (I : Inv X pins σ H s) (g : DGet H a y (some v)) (ry : RelV y u) (h : ∀ w' s', Inv X pins σ H s' → RelV v w' → Q w' s') :
    wpAny (model X.prog X.w) A (getItem (.ref a) u) Q E s := by
  rcases g with ⟨kvs, k, e, ey, l⟩ | ⟨kvs, k, b, e, ey, eb, l⟩
  · subst ey
    refine Classical.byContradiction fun hnzq => ?_; obtain ⟨z, hd, vs, rel, dd⟩ := dk_rd I.hok e
    refine hnzq ?_; clear hnzq
    refine Classical.byContradiction fun hnzq => ?_; obtain ⟨w', hw, rw'⟩ := RelO.some_of (v := v) (o := valueAt vs k) (by rw [l]; exact rel.val k)
    refine hnzq ?_; clear hnzq
    exact wpAny_getItem_of (kV_is ry) dd.mapOf hw (h w' _ (I.tok _) rw')
  · subst ey
    cases (show u = Value.ref b from ry)
    refine Classical.byContradiction fun hnzq => ?_; obtain ⟨z, hd, xs, rel, dd⟩ := dt_rd I.hok e
    refine hnzq ?_; clear hnzq
    refine Classical.byContradiction fun hnzq => ?_; obtain ⟨w', hw, rw'⟩ := RelO.some_of (v := v) (o := (atKey xs k).map (·.2)) (by rw [l]; exact rel.val k)
    refine hnzq ?_; clear hnzq
    refine Classical.byContradiction fun hnzq => ?_; obtain ⟨p, hp, hp2⟩ := Option.map_eq_some_iff.mp hw
    refine hnzq ?_; clear hnzq
    refine wpAny_getItem_heap (tupleKind_room_in1 hu) (key_of I.hok eb) dd hp ?_
    rw [hp2]
    exact h w' _ (I.tok _) rw'
theorem d_in {Q : Value → Shared → Prop} (hu : A.units + 1 < cLine) (I : Inv X pins σ H s) (g : DGet H a y o) (ry : RelV y u) (h : ∀ s', Inv X pins σ H s' → Q (.bool o.isSome) s') :
    wpAny (model X.prog X.w) A (compareOp .In u (.ref a)) Q E s := by
  rcases g with ⟨kvs, k, e, ey, l⟩ | ⟨kvs, k, b, e, ey, eb, l⟩
  · subst ey
    refine Classical.byContradiction fun hnzq => ?_; obtain ⟨z, hd, vs, rel, dd⟩ := dk_rd I.hok e
    refine hnzq ?_; clear hnzq
    refine wpAny_in_of (kV_is ry) hd dd.mapOf ?_
    rw [← (rel.val k).isSome_eq, ← l]
    exact h _ (I.tok _)
  · subst ey
    cases (show u = Value.ref b from ry)
    refine Classical.byContradiction fun hnzq => ?_; obtain ⟨z, hd, xs, rel, dd⟩ := dt_rd I.hok e
    refine hnzq ?_; clear hnzq
    refine wpAny_in_heap (tupleKind_room_in1 hu) (key_of I.hok eb) hd dd ?_
    have q := (rel.val k).isSome_eq
    rw [Option.isSome_map] at q
    rw [← q, ← l]
    exact h _ (I.tok _)
theorem d_notIn {Q : Value → Shared → Prop} (hu : A.units + 1 < cLine) (I : Inv X pins σ H s) (g : DGet H a y o) (ry : RelV y u) (h : ∀ s', Inv X pins σ H s' → Q (.bool (!o.isSome)) s') :
    wpAny (model X.prog X.w) A (compareOp .NotIn u (.ref a)) Q E s := by
  rcases g with ⟨kvs, k, e, ey, l⟩ | ⟨kvs, k, b, e, ey, eb, l⟩
  · subst ey
    refine Classical.byContradiction fun hnzq => ?_; obtain ⟨z, hd, vs, rel, dd⟩ := dk_rd I.hok e
    refine hnzq ?_; clear hnzq
    refine wpAny_notIn_of (kV_is ry) hd dd.mapOf ?_
    rw [← (rel.val k).isSome_eq, ← l]
    exact h _ (I.tok _)
  · subst ey
    cases (show u = Value.ref b from ry)
    refine Classical.byContradiction fun hnzq => ?_; obtain ⟨z, hd, xs, rel, dd⟩ := dt_rd I.hok e
    refine hnzq ?_; clear hnzq
    refine wpAny_notIn_heap (tupleKind_room_in1 hu) (key_of I.hok eb) hd dd ?_
    have q := (rel.val k).isSome_eq
    rw [Option.isSome_map] at q
    rw [← q, ← l]
    exact h _ (I.tok _)
theorem d_write {h' : Heap} {t' : Nat} {ob : HO} (I : Inv X pins σ H s) (mu : Mut (H a)) (hs : Heap.SameBut a s.heap h') (he : ∃ q, h'.get? a = some q) (new : ObjOk X.prog X.w (upd H a ob) h' a ob) :
    Inv X pins σ (upd H a ob) { s with heap := h', toks := t' } :=
  I.write (x := a) (e := a) mu (.inl rfl) (fun b q hb z => (hs.2 b hb).trans z) he new
theorem dk_new {P : Program} {w : World} {H' : Hp} {h' : Heap} {kvs : List (Key × V)} {vs : List (Key × Value)} (z : kvs.length ≤ sizeLine) (hd : (a == sysModules) = false) (rel : KV kvs vs) (dd : h'.DictOf (mixKind P w) a vs) :
    ObjOk P w H' h' a (.dK kvs) := ⟨z, hd, vs, rel, dd⟩
theorem d_setItem {H' : Hp} {Q : Unit → Shared → Prop} (hu : A.units + 1 < cLine) (I : Inv X pins σ H s) (g : DPut H a y v H') (ry : RelV y u) (rv : RelV v r) (h : ∀ s', Inv X pins σ H' s' → Q () s') :
    wpAny (model X.prog X.w) A (setItem (.ref a) u r) Q E s := by
  rcases g with ⟨kvs, k, e, ey, l, eH⟩ | ⟨kvs, k, b, e, ey, eb, l, eH⟩
  · subst ey eH
    refine Classical.byContradiction fun hnzq => ?_; obtain ⟨z, hd, vs, rel, dd⟩ := dk_of I.hok e
    refine hnzq ?_; clear hnzq
    have hz : vs.length ≤ sizeLine := by rw [← rel.length]; exact z
    have hl : (putK kvs k v).length ≤ sizeLine := by have := length_putK kvs k v; (exact Nat.le_trans (by assumption) (by assumption))
    refine wpAny_setItem_pairs (hsz := hz) (kV_is ry) dd fun h' dd' hs => h _ ?_
    have he : ∃ q, h'.get? a = some q := let ⟨q, _, _, hq, _⟩ := dd'; ⟨q, hq⟩
    exact d_write I (by rw [e]; exact True.intro) hs he (dk_new hl hd (rel.put k rv) dd')
  · subst ey eH
    cases (show u = Value.ref b from ry)
    refine Classical.byContradiction fun hnzq => ?_; obtain ⟨z, hd, xs, rel, dd⟩ := dt_of I.hok e
    refine hnzq ?_; clear hnzq
    have hz : xs.length ≤ sizeLine := by rw [← Paired.length rel]; exact z
    have hl : (putK kvs k v).length ≤ sizeLine := by have := length_putK kvs k v; (exact Nat.le_trans (by assumption) (by assumption))
    refine wpAny_setItem_heap (hsz := hz) (tupleKind_room_in1 hu) (key_of I.hok eb) dd fun h' dd' hs => h _ ?_
    refine Classical.byContradiction fun hnzq => ?_; obtain ⟨q, es, ep, hq, h2, h3, h4, _, h5⟩ := dd'
    refine hnzq ?_; clear hnzq
    refine d_write I (by rw [e]; exact True.intro) hs ⟨q, hq⟩ ⟨hl, hd, _, (rel.put k eb rv).keeps fun c ys ec => ?_, q, es, ep, hq, h2, h3, h4, h5⟩
    rw [upd_ne (ne_of ec e (fun z => nomatch z))]
    exact ec
end
section
variable {X : Cx} {pins : List (Addr × Obj)} {σ : St} {H : Hp} {s : Shared} {a : Addr} {kvs : List (Key × V)} {k : Key} {u : Value} {A : Around} {E : Value → Shared → Prop}
theorem d_pop {v : V} {more : List Value} {Q : Value → Shared → Prop} (I : Inv X pins σ H s) (e : H a = some (.dK kvs)) (ry : RelV (kV k) u) (l : valV kvs k = some v) (hm : more = [] ∨ ∃ x, more = [x])
    (h : ∀ w' s', Inv X pins σ (upd H a (.dK (dropK kvs k))) s' → RelV v w' → Q w' s') : wpAny (model X.prog X.w) A (call (.builtin "dict.pop") (.ref a :: u :: more)) Q E s := by
  refine Classical.byContradiction fun hnzq => ?_; obtain ⟨z, hd, vs, rel, dd⟩ := dk_of I.hok e
  refine hnzq ?_; clear hnzq
  refine Classical.byContradiction fun hnzq => ?_; obtain ⟨w', hw, rw'⟩ := RelO.some_of (v := v) (o := valueAt vs k) (by rw [← l]; exact rel.val k)
  refine hnzq ?_; clear hnzq
  have hp : (keyPart u).isSome = true := by
    cases k with
    | inl i => obtain ⟨t, q⟩ := (show ∃ t, u = Value.int i t from ry); subst q; rfl
    | inr x => obtain ⟨t, q⟩ := (show ∃ t, u = Value.str x t from ry); subst q; rfl
  have ha : argsOk "dict.pop" ⟨.ref a :: u :: more, []⟩ := by
    rcases hm with q | ⟨x, q⟩
    · subst q; exact PySem.F.args_dict_pop_2 _ _
    · subst q; exact PySem.F.args_dict_pop_3 _ _ _
  refine call_meetsIn PySem.F.slot_dict_pop dd.typeIs PySem.F.entry_dict_pop ha (meets_dict_pop_there (mixKind X.prog X.w) a (kV_is ry) more hm hp)
    ⟨vs, w', dd, by rw [← rel.length]; exact z, hw, fun h' dd' hs => h w' _ ?_ rw'⟩
  have he : ∃ q, h'.get? a = some q := let ⟨q, _, _, hq, _⟩ := dd'; ⟨q, hq⟩
  exact d_write I (by rw [e]; exact True.intro) hs he (dk_new (Nat.le_trans (dropK_le kvs k) z) hd (rel.drop k) dd')
end
noncomputable def NoSl (i : Expr) : Prop := ∀ ov iv, subscripted i false ov iv = operate [ov, iv] (getItem ov iv)
theorem subD_of {prog : Program} {w : World} {A : Around} {E : Value → Shared → Prop} {s : Shared} {env : Env} {value slice : Expr} {pos : Pos} {T id : String} {Q : Value → Shared → Prop}
    (hl : typeLookup (.type T) "__getitem__" = pure (some (.builtin id))) (hs : NoSl slice)
    (h : wpAny (model prog w) A (eval value env) (fun o s₁ => wpAny (model prog w) A (eval slice env) (fun i s₂ => s₂.TypeIs o T ∧ wpAny (model prog w) A (getItem o i) Q E s₂) E s₁) E s) :
    wpAny (model prog w) A (eval (.Subscript value slice pos) env) Q E s := by
  refine Subscript_ (wpAny_mono h (fun o s₁ h₁ => wpAny_mono h₁ (fun i s₂ h₂ => ?_) fun _ _ x => x) fun _ _ x => x)
  obtain ⟨hT, h₂⟩ := h₂
  unfold subscriptTail
  refine wpAny_bind ?_
  rw [getitemInPython_of_ne hT.not_modules]
  refine wpAny_bind (wpAny_specialOf hT hl ?_)
  have fin : wpAny (model prog w) A (subscripted slice false o i) (fun r s₃ => wpAny (model prog w) A (letTemporaryGo value o r >>= fun _ => pure r) Q E s₃) E s₂ := by
    rw [hs o i]
    exact wpAny_operating (wpAny_mono h₂ (fun r s₃ h₃ => wpAny_bind (wpAny_letTemporaryGo (wpAny_pure h₃))) fun _ _ x => x)
  first
    | exact wpAny_pure (wpAny_bind fin)
    | exact wpAny_bind (wpAny_pure (wpAny_bind fin))
    | exact wpAny_bind fin
theorem dict_typeIs {X : Cx} {pins : List (Addr × Obj)} {σ : St} {H : Hp} {s : Shared} {a : Addr} {y : V} {o : Option V} (I : Inv X pins σ H s) (g : DGet H a y o) : s.TypeIs (.ref a) "dict" := by
  rcases g with ⟨kvs, k, e, _, _⟩ | ⟨kvs, k, b, e, _, _, _⟩
  · refine Classical.byContradiction fun hnzq => ?_; obtain ⟨_, _, vs, _, dd⟩ := dk_rd I.hok e
    refine hnzq ?_; clear hnzq
    exact dd.typeIs
  · refine Classical.byContradiction fun hnzq => ?_; obtain ⟨_, _, xs, _, dd⟩ := dt_rd I.hok e
    refine hnzq ?_; clear hnzq
    exact dd.typeIs
noncomputable def tDGet (td ty : TE) : TE := fun σ H Q => td σ H fun x H1 => ty σ H1 fun y H2 => ∃ a v, x = .ref a ∧ DGet H2 a y (some v) ∧ Q v H2
noncomputable def tDIn (ty td : TE) : TE := fun σ H Q => ty σ H fun y H1 => td σ H1 fun x H2 => ∃ a o, x = .ref a ∧ DGet H2 a y o ∧ Q (.bl o.isSome) H2
noncomputable def tDNotIn (ty td : TE) : TE := fun σ H Q => ty σ H fun y H1 => td σ H1 fun x H2 => ∃ a o, x = .ref a ∧ DGet H2 a y o ∧ Q (.bl (!o.isSome)) H2
noncomputable def sDPut (td ty tv : TE) : TS := fun D σ H => tv σ H fun v H1 => td σ H1 fun x H2 => ty σ H2 fun y H3 => ∃ a H4, x = .ref a ∧ DPut H3 a y v H4 ∧ D.nx σ H4
section
variable {X : Cx} {o i e value : Expr} {pos pos' tpos : Pos} {td ty tv : TE}
theorem pe_dget (hu : X.A.units + 1 < cLine) (ho : PE X o td) (hi : PE X i ty) (hs : NoSl i) : PE X (.Subscript o i pos) (tDGet td ty) := by
  intro pins s σ H Q I h
  refine subD_of PySem.F.slot_dict_getitem.lookup hs (thn (ho pins s σ H _ I h) fun u s1 ⟨x, H1, I1, rx, q1⟩ => thn (hi pins s1 σ H1 _ I1 q1) fun iv s2 zzq => ?_)
  refine Classical.byContradiction fun hnzq => ?_; obtain ⟨y, H2, I2, ry, a, v, ex, g, q2⟩ := zzq; refine hnzq ?_; clear hnzq
  subst ex
  obtain rfl : u = Value.ref a := rx
  exact ⟨dict_typeIs I2 g, d_getItem hu I2 g ry fun w' s3 I3 rw' => ⟨v, H2, I3, rw', q2⟩⟩
theorem pc_din (hu : X.A.units + 1 < cLine) (hi : PE X i ty) (ho : PE X o td) : PC X .In i o (tDIn ty td) := by
  intro pins s σ H Q I h
  refine thn (hi pins s σ H _ I h) fun iv s1 ⟨y, H1, I1, ry, q1⟩ => thn (ho pins s1 σ H1 _ I1 q1) fun u s2 zzq => ?_
  refine Classical.byContradiction fun hnzq => ?_; obtain ⟨x, H2, I2, rx, a, ov, ex, g, q2⟩ := zzq; refine hnzq ?_; clear hnzq
  subst ex
  obtain rfl : u = Value.ref a := rx
  exact d_in hu I2 g ry fun s3 I3 => ⟨.bl ov.isSome, H2, I3, rfl, q2⟩
theorem pc_dnotin (hu : X.A.units + 1 < cLine) (hi : PE X i ty) (ho : PE X o td) : PC X .NotIn i o (tDNotIn ty td) := by
  intro pins s σ H Q I h
  refine thn (hi pins s σ H _ I h) fun iv s1 ⟨y, H1, I1, ry, q1⟩ => thn (ho pins s1 σ H1 _ I1 q1) fun u s2 zzq => ?_
  refine Classical.byContradiction fun hnzq => ?_; obtain ⟨x, H2, I2, rx, a, ov, ex, g, q2⟩ := zzq; refine hnzq ?_; clear hnzq
  subst ex
  obtain rfl : u = Value.ref a := rx
  exact d_notIn hu I2 g ry fun s3 I3 => ⟨.bl (!ov.isSome), H2, I3, rfl, q2⟩
theorem ps_dput (hu : X.A.units + 1 < cLine) (ho : PE X o td) (hi : PE X i ty) (hv : PE X value tv) (hs : swapsWith value (some (.Subscript o i pos')) pos.line X.env = pure false) :
    PS X (.Assign [.Subscript o i pos'] value pos) (sDPut td ty tv) := by
  intro pins s σ H D I h
  refine wpAny_Assign_Subscript (thn (hv pins s σ H _ I h) fun r s1 ⟨v, H1, I1, rv, q1⟩ => thn (ho pins s1 σ H1 _ I1 q1) fun u s2 ⟨x, H2, I2, rx, q2⟩ => thn (hi pins s2 σ H2 _ I2 q2) fun iv s3 ⟨y, H3, I3, ry, a, H4, ex, g, q3⟩ => ?_) hs
  subst ex
  obtain rfl : u = Value.ref a := rx
  exact d_setItem hu I3 g ry rv fun s4 I4 => ⟨σ, H4, I4, q3⟩
end
theorem dk_empty {P : Program} {w : World} {H : Hp} (h : Heap) (hb : sysModules < h.objs.size) : ObjOk P w H (h.push { cls := .type "dict", data := .dict #[] }) h.objs.size (.dK []) :=
  ⟨Nat.zero_le _, beq_eq_false_iff_ne.mpr (Ne.symm (Nat.ne_of_lt hb)), [], .nil, Heap.DictOf.new h⟩
noncomputable def tDNewK : TE := fun _ H Q => ∀ p, H p = none → Q (.ref p) (upd H p (.dK []))
section
variable {X : Cx} {pos : Pos}
theorem pe_dnewK : PE X (.Dict [] [] pos) tDNewK := fun pins s σ H Q I h =>
  wpAny_Dict_empty ⟨.ref s.heap.objs.size, _, I.laid (a := s.heap.objs.size) (o := .dK []) (t' := s.toks) (fun _ _ q => Heap.get?_push_of_some _ q) (Nat.le_refl _) (dk_empty s.heap I.big), rfl, h _ (I.hok.fresh (Nat.le_refl _))⟩
end
set_option genInjectivity false in
set_option genSizeOf false in
set_option genSizeOfSpec false in
structure M1 (X : Cx) (o : Expr) (m : Str) (apos : Pos) (e : Expr) (cpos : Pos) : Prop where
  base : attributeBase o m X.env (eval o X.env) = eval o X.env
  few : ((backTo cpos (starEach [e] X.env)).all (fun x => !x.1) && (backToKw cpos (keywordEach [] X.env)).all (fun x => x.1.isSome)
    && decide (([e] : List Expr).length + ([] : List Keyword).length + (if ([] : List Keyword).isEmpty then 0 else 1) < 30)) = true
  line : (apos.endLine == cpos.line) = true
  trees : backTo cpos (starEach [e] X.env) = [(false, eval e X.env)]
noncomputable def IsD (H : Hp) (a : Addr) : Prop := (∃ kvs, Rd H a (.dK kvs)) ∨ ∃ kvs, Rd H a (.dT kvs)
theorem isD_at {X : Cx} {pins : List (Addr × Obj)} {σ : St} {H : Hp} {s : Shared} {a : Addr} (I : Inv X pins σ H s) (d : IsD H a) :
    s.TypeIs (.ref a) "dict" ∧ (∀ b, Value.ref a = .ref b → ∃ ob, s.heap.get? b = some ob ∧ ob.dict = none) ∧ (a == sysModules) = false := by
  rcases d with ⟨kvs, e⟩ | ⟨kvs, e⟩
  · refine Classical.byContradiction fun hnzq => ?_; obtain ⟨_, hd, vs, _, dd⟩ := dk_rd I.hok e
    refine hnzq ?_; clear hnzq
    refine ⟨dd.typeIs, fun b q => ?_, hd⟩
    cases q
    refine Classical.byContradiction fun hnzq => ?_; obtain ⟨ob, _, _, h1, h2, _⟩ := dd
    refine hnzq ?_; clear hnzq
    exact ⟨ob, h1, h2.2.1⟩
  · refine Classical.byContradiction fun hnzq => ?_; obtain ⟨_, hd, xs, _, dd⟩ := dt_rd I.hok e
    refine hnzq ?_; clear hnzq
    refine ⟨dd.typeIs, fun b q => ?_, hd⟩
    cases q
    refine Classical.byContradiction fun hnzq => ?_; obtain ⟨ob, _, _, h1, h2, _⟩ := dd
    refine hnzq ?_; clear hnzq
    exact ⟨ob, h1, h2.2.1⟩
section
variable {X : Cx} {pins : List (Addr × Obj)} {σ : St} {H : Hp} {s : Shared} {a : Addr} {y d : V} {u r : Value} {o : Option V} {A : Around} {E : Value → Shared → Prop}
end
noncomputable def tDPop1 (td ty : TE) : TE := fun σ H Q => td σ H fun x H1 => ∃ a, x = .ref a ∧ IsD H1 a ∧ ty σ H1 fun y H2 => ∃ kvs k v, H2 a = some (.dK kvs) ∧ y = kV k ∧ valV kvs k = some v ∧ Q v (upd H2 a (.dK (dropK kvs k)))
section
variable {X : Cx} {o e f : Expr} {apos cpos : Pos} {td ty tx : TE}
theorem pe_dpop1 (ho : PE X o td) (he : PE X e ty) (m : M1 X o "pop" apos e cpos) : PE X (.Call (.Attribute o "pop" apos) [e] [] cpos) (tDPop1 td ty) := by
  intro pins s σ H Q I h
  refine wpAny_Call_method m.base m.few m.line PySem.F.plainAttrs_dict PySem.F.slot_dict_pop PySem.F.type_dict_pop (thn (ho pins s σ H _ I h) fun u s1 zzq => ?_)
  refine Classical.byContradiction fun hnzq => ?_; obtain ⟨x, H1, I1, rx, a, ex, d, q1⟩ := zzq; refine hnzq ?_; clear hnzq
  subst ex
  obtain rfl : u = Value.ref a := rx
  refine Classical.byContradiction fun hnzq => ?_; obtain ⟨t1, t2, _⟩ := isD_at I1 d
  refine hnzq ?_; clear hnzq
  refine ⟨t1, t2, ?_⟩
  rw [m.trees]
  refine Calls.callWith_builtin rfl (Calls.evalArgs_plain (Calls.spliced_cons (thn (he pins s1 σ H1 _ I1 q1) fun iv s2 ⟨y, H2, I2, ry, kvs, k, v, ea, ey, l, q2⟩ => Calls.spliced_nil ?_)))
  subst ey
  exact d_pop I2 ea ry l (.inl rfl) fun w' s3 I3 rw' => ⟨v, _, I3, rw', q2⟩
end
section
variable {X : Cx} {pins : List (Addr × Obj)} {σ : St} {H : Hp} {s : Shared} {a : Addr} {kvs : List (Key × V)} {A : Around} {E : Value → Shared → Prop}
end
section
variable {X : Cx} {pins : List (Addr × Obj)} {σ : St} {H : Hp} {s : Shared} {a : Addr} {y : V} {u : Value} {A : Around} {E : Value → Shared → Prop}
end
end L2
namespace Att
open PySem PySem.W PySem.Calls PyProof.Rows
section
variable {prog : Program} {w : World} {A : Around} {E : Value → Shared → Prop} {s : Shared} {K : Frag}
end
end Att
namespace L2
open PySem PySem.Spec PyProof.Rows
end L2
namespace L2
open PySem PySem.Spec PyProof.Rows
end L2
namespace L2
open PySem PySem.Spec PyProof.Rows
section
variable {P : Program} {w : World} {K : PySem.W.Frag} {mg : Str → Option Value} {base : Heap}
end
section
variable {X : Cx}
end
section
variable {κ : Type} [DecidableEq κ]
end
end L2
namespace L2
open PySem PySem.Spec PyProof.Rows
section
variable {X : Cx} {C : Addr}
end
section
variable {X : Cx} {CX : CXT} {k : Nat} {ι : Type} {C f : ι → Addr} {fd : ι → FuncData} {ps : List Str} {sp : ι → Sp} {E : XK} {m : Str} {pos apos : Pos} {e o : Expr} {es : List Expr} {ta : TE} {t : TA}
end
end L2
namespace L2
open PySem PySem.Spec PyProof.Rows
end L2
namespace L2
open PySem PySem.Spec PyProof.Rows
section
variable {X : Cx} {k : Nat} {f C : Addr} {fd : FuncData} {ps : List Str} {sp : Sp} {m : Str} {pos apos : Pos} {e o : Expr} {es : List Expr} {ta : TE} {t : TA}
end
section
variable {X : Cx} {o : Expr} {to : TE} {p apos cpos pos : Pos}
end
end L2
namespace L2
open PySem PySem.W PyProof.Rows
section
variable {n : Nat} {rk : Nat → Nat} {cmp : Nat → Nat → (Bool → Shared → Prop) → Shared → Prop} {s : Shared}
noncomputable def ByRank (n : Nat) (rk : Nat → Nat) (cmp : Nat → Nat → (Bool → Shared → Prop) → Shared → Prop) (s : Shared) : Prop := ∀ (i j : Nat) (C : Bool → Shared → Prop), i < n → j < n → i ≠ j → C (decide (rk i < rk j)) s → cmp i j C s
noncomputable def RkInj (n : Nat) (rk : Nat → Nat) : Prop := ∀ i j, i < n → j < n → rk i = rk j → i = j
noncomputable def gk (rk : Nat → Nat) (p : Array Nat) (k : Nat) : Nat := rk (p.getD k 0)
noncomputable def Pm (n : Nat) (p : Array Nat) : Prop := p.toList.Perm (List.range n)
noncomputable def Srt (rk : Nat → Nat) (p : Array Nat) (m : Nat) : Prop := ∀ i j, i ≤ j → j < m → gk rk p i ≤ gk rk p j
noncomputable def Dec (rk : Nat → Nat) (p : Array Nat) (m : Nat) : Prop := ∀ i j, i ≤ j → j < m → gk rk p j ≤ gk rk p i
theorem Pm.size {p : Array Nat} (h : Pm n p) : p.size = n := by
  have := h.length_eq
  rw [List.length_range, Array.length_toList] at this
  exact this
theorem getD_get {p : Array Nat} {k : Nat} (h : k < p.size) : p.getD k 0 = p[k] := by
  simp [Array.getD, h]
theorem Pm.lt {p : Array Nat} (h : Pm n p) {k : Nat} (hk : k < n) : p.getD k 0 < n := by
  have hs : k < p.size := by rw [h.size]; exact hk
  rw [getD_get hs]
  have : p[k] ∈ List.range n := h.mem_iff.mp (by simp)
  exact List.mem_range.mp this
theorem Pm.dif {p : Array Nat} (h : Pm n p) {i j : Nat} (h1 : i < n) (h2 : j < n) (d : i ≠ j) : p.getD i 0 ≠ p.getD j 0 := fun e1 => by
  have s1 : i < p.size := by rw [h.size]; exact h1
  have s2 : j < p.size := by rw [h.size]; exact h2
  rw [getD_get s1, getD_get s2] at e1
  have nd : p.toList.Nodup := h.nodup_iff.mpr List.nodup_range
  have pw := List.pairwise_iff_getElem.mp nd
  have t1 : i < p.toList.length := by rw [Array.length_toList]; exact s1
  have t2 : j < p.toList.length := by rw [Array.length_toList]; exact s2
  have e2 : p.toList[i] = p.toList[j] := by rw [Array.getElem_toList, Array.getElem_toList]; exact e1
  rcases Nat.lt_trichotomy i j with c | c | c
  · exact pw i j t1 t2 c e2
  · exact d c
  · exact pw j i t2 t1 c e2.symm
theorem Pm.ne {p : Array Nat} (h : Pm n p) (hi : RkInj n rk) {i j : Nat} (h1 : i < n) (h2 : j < n) (e : gk rk p i = gk rk p j) : i = j := by
  by_cases c : i = j
  · exact c
  · exact absurd (hi _ _ (h.lt h1) (h.lt h2) e) (h.dif h1 h2 c)
theorem Pm.of {p q : Array Nat} (h : Pm n p) (e : q.Perm p) : Pm n q := (Array.perm_iff_toList_perm.mp e).trans h
theorem gk_congr {p q : Array Nat} {i j : Nat} (e : p[i]? = q[j]?) : gk rk p i = gk rk q j := by
  unfold gk
  congr 1
  rw [Array.getD_eq_getD_getElem?, Array.getD_eq_getD_getElem?, e]
theorem gk_mirror {p : Array Nat} {m : Nat} (hm : m ≤ p.size) (k : Nat) : gk rk (kas_rev p 0 m) k = if k < m then gk rk p (m - 1 - k) else gk rk p k := by
  have e := getElem?_mirror_all (i := 0) hm k
  unfold kas_rev
  by_cases h : k < m
  · rw [if_pos ⟨Nat.zero_le _, h⟩] at e
    rw [if_pos h]
    exact gk_congr (by rw [e]; congr 1; lia)
  · rw [if_neg (by lia)] at e
    rw [if_neg h]
    exact gk_congr e
theorem gk_bubble {p : Array Nat} {k d : Nat} (hk : k < p.size) (hd : d ≤ k) (j : Nat) : gk rk (bubble p k d) j = if j = k - d then gk rk p k else if k - d < j ∧ j ≤ k then gk rk p (j - 1) else gk rk p j := by
  have e := getElem?_bubble hk d hd j
  by_cases h : j = k - d
  · rw [if_pos h] at e ⊢
    exact gk_congr e
  · rw [if_neg h] at e ⊢
    by_cases h2 : k - d < j ∧ j ≤ k
    · rw [if_pos h2] at e ⊢
      exact gk_congr e
    · rw [if_neg h2] at e ⊢
      exact gk_congr e
theorem asc_wp (B : ByRank n rk cmp s) {p : Array Nat} (hp : Pm n p) {Q : Nat → Shared → Prop} : ∀ (f m : Nat), 1 ≤ m → m + f ≤ n → Srt rk p m → (∀ t, m ≤ t → t ≤ m + f → Srt rk p t → (t = m + f ∨ gk rk p t < gk rk p (t - 1)) → Q t s) → (kas_asc p f m).kasWp cmp Q s
  | 0, m, _, _, hs, h => h m (Nat.le_refl _) (Nat.le_refl _) hs (.inl rfl)
  | f + 1, m, h1, hn, hs, h => by
    refine B _ _ _ (hp.lt (by lia)) (hp.lt (by omega)) (hp.dif (by omega) (by omega) (by (clear B hp hn hs h; omega))) ?_
    by_cases c : rk (p.getD m 0) < rk (p.getD (m - 1) 0)
    · rw [decide_eq_true c]
      exact h m (Nat.le_refl _) (by (exact Nat.le_add_right _ _)) hs (.inr c)
    · rw [decide_eq_false c]
      refine asc_wp B hp f (m + 1) (by (exact Nat.succ_pos _)) (by lia) (fun i j hij hj => ?_) fun t a b c d => h t (by (exact Nat.le_of_lt (by assumption))) (by lia) c (by rcases d with d | d; exact .inl (by lia); exact .inr d)
      by_cases hj' : j < m
      · exact hs i j hij hj'
      · have ej : j = m := by lia
        subst ej
        by_cases hi : i = j
        · subst hi; exact Nat.le_refl _
        · exact Nat.le_trans (hs i (j - 1) (by lia) (by (clear B hp hij hn hs h c hj hj' hi; omega))) (Nat.le_of_not_lt c)
theorem desc_wp (B : ByRank n rk cmp s) (hi : RkInj n rk) {p : Array Nat} (hp : Pm n p) {Q : Array Nat × Nat × Nat → Shared → Prop} : ∀ (f m : Nat), 1 ≤ m → m + f ≤ n → Dec rk p m → (∀ t, m ≤ t → t ≤ m + f → Dec rk p t → Q (p, t, 0) s) → (kas_desc f p m 0).kasWp cmp Q s
  | 0, m, _, _, hs, h => h m (Nat.le_refl _) (Nat.le_refl _) hs
  | f + 1, m, h1, hn, hs, h => by
    refine B _ _ _ (hp.lt (by omega)) (hp.lt (by omega)) (hp.dif (by omega) (by omega) (by omega)) ?_
    by_cases c : rk (p.getD m 0) < rk (p.getD (m - 1) 0)
    · rw [decide_eq_true c]
      refine desc_wp B hi hp f (m + 1) (by (exact Nat.succ_pos _)) (by omega) (fun i j hij hj => ?_) fun t a b c => h t (by (exact Nat.le_of_lt (by assumption))) (by omega) c
      by_cases hj' : j < m
      · exact hs i j hij hj'
      · have ej : j = m := by omega
        subst ej
        by_cases hi : i = j
        · subst hi; exact Nat.le_refl _
        · exact Nat.le_trans (Nat.le_of_lt c) (hs i (j - 1) (by omega) (by omega))
    · rw [decide_eq_false c]
      refine B _ _ _ (hp.lt (by (clear B hi hp hs h c; omega))) (hp.lt (by (clear B hi hp h1 hs h c; omega))) (hp.dif (by omega) (by omega) (by (clear B hi hp hn hs h c; omega))) ?_
      have ne : gk rk p m ≠ gk rk p (m - 1) := fun e => by
        have := hp.ne hi (by omega) (by omega) e
        (clear B hi hp hn hs h c e; omega)
      have : rk (p.getD (m - 1) 0) < rk (p.getD m 0) := Nat.lt_of_le_of_ne (Nat.le_of_not_lt c) (fun e => ne e.symm)
      rw [decide_eq_true this]
      exact h m (Nat.le_refl _) (by (exact Nat.le_add_right _ _)) hs
theorem tail3_wp (B : ByRank n rk cmp s) {p : Array Nat} (hp : Pm n p) {Q : Nat × Array Nat → Shared → Prop} {m : Nat} (h1 : 1 ≤ m) (hm : m ≤ n) (hs : Dec rk p m) (h : ∀ t q, Pm n q → 1 ≤ t → t ≤ n → Srt rk q t → Q (t, q) s) : (kas_tail3 m n p).kasWp cmp Q s := by
  unfold kas_tail3
  rw [KasT.kasWp_bind]
  have hq : Pm n (kas_rev p 0 m) := hp.of (mirror_perm _ _ _ _)
  refine asc_wp B hq (n - m) m h1 (by lia) (fun i j hij hj => ?_) fun t a b c _ => h t _ hq (by (exact Nat.lt_of_lt_of_le (by assumption) (by assumption))) (by lia) c
  have z : m ≤ p.size := by rw [hp.size]; exact hm
  rw [gk_mirror z, gk_mirror z, if_pos (by (exact Nat.lt_of_le_of_lt (by assumption) (by assumption))), if_pos hj]
  exact hs _ _ (by (clear B hp h1 hm hs h hq z; omega)) (by (clear B hp h1 hm hs h hq z; omega))
theorem descPart_wp (B : ByRank n rk cmp s) (hi : RkInj n rk) {p : Array Nat} (hp : Pm n p) {Q : Nat × Array Nat → Shared → Prop} {m : Nat} (hm : m + 1 ≤ n) (hs : Dec rk p (m + 1)) (h : ∀ t q, Pm n q → 1 ≤ t → t ≤ n → Srt rk q t → Q (t, q) s) : (kas_descPart m n p).kasWp cmp Q s := by
  unfold kas_descPart
  rw [KasT.kasWp_bind]
  refine desc_wp B hi hp (n - (m + 1)) (m + 1) (by (exact Nat.succ_pos _)) (by omega) hs fun t a b c => ?_
  show (kas_tail3 t n p).kasWp cmp Q s
  exact tail3_wp B hp (by lia) (by omega) c h
theorem count_wp (B : ByRank n rk cmp s) (hi : RkInj n rk) {p : Array Nat} (hp : Pm n p) {Q : Nat × Array Nat → Shared → Prop} (h1 : 1 ≤ n) (h : ∀ t q, Pm n q → 1 ≤ t → t ≤ n → Srt rk q t → Q (t, q) s) : (kas_count n p).kasWp cmp Q s := by
  unfold kas_count
  rw [KasT.kasWp_bind]
  refine asc_wp B hp (n - 1) 1 (Nat.le_refl _) (by omega) (fun i j hij hj => ?_) fun t a b hs hor => ?_
  · have : i = j := by lia
    subst this
    exact Nat.le_refl _
  by_cases e : t = n
  · subst e
    rw [if_pos (by simp)]
    exact h t p hp a (Nat.le_refl _) hs
  · rw [if_neg (by simpa using e)]
    have lt : gk rk p t < gk rk p (t - 1) := hor.resolve_left (by lia)
    by_cases g : t > 1
    · rw [if_pos g]
      refine B _ _ _ (hp.lt (by lia)) (hp.lt (by lia)) (hp.dif (by omega) (by omega) (by (clear B hi hp h1 h a b hs hor e lt; omega))) ?_
      have ne : gk rk p 0 ≠ gk rk p (t - 1) := fun z => by
        have := hp.ne hi (by omega) (by omega) z
        (clear B hi hp h1 h a b hs hor e lt z; omega)
      have : rk (p.getD 0 0) < rk (p.getD (t - 1) 0) := Nat.lt_of_le_of_ne (hs 0 (t - 1) (by (exact Nat.le_add_left _ _)) (by (clear B hi hp h1 h a b hs hor e lt ne; omega))) ne
      rw [decide_eq_true this]
      exact h t p hp (by omega) (by lia) hs
    · rw [if_neg g]
      have : t = 1 := by lia
      subst this
      refine descPart_wp B hi hp (by (exact Nat.lt_of_le_of_ne (by assumption) (by assumption))) (fun i j hij hj => ?_) h
      by_cases hij' : i = j
      · subst hij'; exact Nat.le_refl _
      · have : i = 0 := by lia
        have : j = 1 := by lia
        subst i j
        exact Nat.le_of_lt lt
theorem place_wp (B : ByRank n rk cmp s) {p : Array Nat} (hp : Pm n p) {k : Nat} (hk : k < n) {Q : Nat → Shared → Prop} (hs : Srt rk p k) : ∀ (f l r : Nat), l ≤ r → r ≤ k → r - l ≤ f → (∀ i, i < l → gk rk p i ≤ gk rk p k) → (∀ i, r ≤ i → i < k → gk rk p k < gk rk p i) → (∀ t, t ≤ k → (∀ i, i < t → gk rk p i ≤ gk rk p k) → (∀ i, t ≤ i → i < k → gk rk p k < gk rk p i) → Q t s) → (kas_place p k f l r).kasWp cmp Q s
  | 0, l, r, h1, h2, h3, a, b, h => h l (by (exact Nat.le_trans (by assumption) (by assumption))) a fun i x y => b i (by lia) y
  | f + 1, l, r, h1, h2, h3, a, b, h => by
    unfold kas_place
    by_cases c : l ≥ r
    · rw [if_pos c]
      exact h l (by (exact Nat.le_trans (by assumption) (by assumption))) a fun i x y => b i (by (exact Nat.le_trans (by assumption) (by assumption))) y
    · rw [if_neg c]
      refine B _ _ _ (hp.lt hk) (hp.lt (by lia)) (hp.dif hk (by omega) (by lia)) ?_
      by_cases d : rk (p.getD k 0) < rk (p.getD ((l + r) / 2) 0)
      · rw [decide_eq_true d]
        refine place_wp B hp hk hs f l ((l + r) / 2) (by lia) (by lia) (by (clear B hp hk hs h1 h2 a b h d; omega)) a (fun i x y => ?_) h
        exact Nat.lt_of_lt_of_le d (hs _ i x y)
      · rw [decide_eq_false d]
        refine place_wp B hp hk hs f ((l + r) / 2 + 1) r (by lia) (by omega) (by (clear B hp hk hs h1 h2 a b h d; omega)) (fun i x => ?_) b h
        exact Nat.le_trans (hs i ((l + r) / 2) (by (exact Nat.le_of_succ_le_succ (by assumption))) (by lia)) (Nat.le_of_not_lt d)
theorem bin_wp (B : ByRank n rk cmp s) {Q : Array Nat → Shared → Prop} : ∀ (f : Nat) (p : Array Nat) (k : Nat), Pm n p → k + f = n → Srt rk p k → (∀ q, Pm n q → Srt rk q n → Q q s) → (kas_bin f p k).kasWp cmp Q s
  | 0, p, k, hp, e, hs, h => h p hp (by rw [← e]; exact hs)
  | f + 1, p, k, hp, e, hs, h => by
    unfold kas_bin
    rw [KasT.kasWp_bind]
    refine place_wp B hp (by lia) hs k 0 k (Nat.zero_le _) (Nat.le_refl _) (by (exact Nat.sub_le _ _)) (fun i x => by (contradiction)) (fun i x y => by lia) fun t ht lo hi => ?_
    refine bin_wp B f _ (k + 1) (hp.of (bubble_perm _ _ _)) (by lia) (fun i j hij hj => ?_) h
    have z : k < p.size := by rw [hp.size]; (clear B hp hs h ht lo hi hij hj; omega)
    rw [gk_bubble z (by (exact Nat.sub_le _ _)), gk_bubble z (by (exact Nat.sub_le _ _))]
    have ek : k - (k - t) = t := by lia
    rw [ek]
    by_cases c1 : i = t
    · rw [if_pos c1]
      by_cases c2 : j = t
      · rw [if_pos c2]; exact Nat.le_refl _
      · rw [if_neg c2, if_pos (by lia)]
        exact Nat.le_of_lt (hi _ (by lia) (by lia))
    · rw [if_neg c1]
      by_cases c3 : t < i ∧ i ≤ k
      · rw [if_pos c3, if_neg (by lia), if_pos (by lia)]
        exact hs _ _ (by (clear B hp e hs h ht lo hi hj z c1; omega)) (by lia)
      · rw [if_neg c3]
        have hit : i < t := by lia
        by_cases c2 : j = t
        · rw [if_pos c2]; exact lo i hit
        · rw [if_neg c2]
          by_cases c4 : t < j ∧ j ≤ k
          · rw [if_pos c4]; exact hs _ _ (by lia) (by lia)
          · rw [if_neg c4]; exact hs _ _ hij (by lia)
theorem sort_wp (B : ByRank n rk cmp s) (hi : RkInj n rk) {Q : Array Nat → Shared → Prop} (h1 : 1 ≤ n) (h : ∀ q, Pm n q → Srt rk q n → Q q s) : (kas_sort n).kasWp cmp Q s := by
  unfold kas_sort
  rw [KasT.kasWp_bind]
  have h0 : Pm n (List.toArray (List.range n)) := by show List.Perm _ _; exact List.Perm.refl _
  refine count_wp B hi h0 h1 fun t q hq a b hs => ?_
  by_cases c : t < n
  · rw [if_pos c]
    have : max t 1 = t := by lia
    rw [this]
    exact bin_wp B (n - t) q t hq (by (exact Nat.add_sub_of_le (by assumption))) hs h
  · rw [if_neg c]
    have : t = n := by omega
    subst this
    exact h q hq hs
end
end L2
namespace L2
open PySem PySem.W PyProof.Rows
section
variable {prog : Program} {w : World} {A : Around} {E : Value → Shared → Prop} {s : Shared}
noncomputable def midHeap (h : Heap) (a : Addr) (vs : List Value) : Heap := ((h.update a (Obj.mapSeq fun _ => #[])).push (seqObj "tuple" vs.toArray 0)).push (seqObj "list" #[] 0)
theorem midHeap_old {h : Heap} {a b : Addr} {vs : List Value} (nb : b ≠ a) (lb : b < h.objs.size) : (midHeap h a vs).get? b = h.get? b := by
  unfold midHeap
  rw [Heap.get?_push_ne _ _ _ (by rw [size_push', Heap.size_update]; exact Nat.ne_of_lt (Nat.lt_succ_of_lt lb)),
    Heap.get?_push_ne _ _ _ (by rw [Heap.size_update]; exact Nat.ne_of_lt lb), Heap.get?_update_ne _ _ _ _ nb]
noncomputable def outOf (vs : List Value) (q : Array Nat) : List Value := q.toList.map fun i => vs.getD i Value.none
theorem outOf_range (vs : List Value) : outOf vs (List.toArray (List.range vs.length)) = vs := by
  unfold outOf
  apply List.ext_getElem
  · simp
  · intro i h1 h2
    simp [h2]
theorem list_sort_rk {rk : Nat → Nat} {a : Addr} {vs : List Value} {n : Nat} {P : PySem.Fin → Shared → Prop} (atL : s.heap.get? a = some (seqObj "list" vs.toArray n)) (h64 : vs.length < 64) (hi : RkInj vs.length rk)
    (hk : 2 ≤ vs.length → wpAny (model prog w) A (keyKind' vs.toArray) (fun κ s' => s' = { s with heap := midHeap s.heap a vs } ∧ ByRank vs.length rk (kas_ask prog w A κ vs) s') (fun _ _ => False) { s with heap := midHeap s.heap a vs })
    (h : ∀ q, Pm vs.length q → Srt rk q vs.length → P (.done (.ret .none)) { s with heap := sortedHeap s.heap a vs (outOf vs q).toArray }) :
    wpAny (model prog w) A (Builtin.«list.sort» ⟨[.ref a], []⟩) P E s := by
  rw [list_sort_plain]
  have la : a < s.heap.objs.size := Heap.lt_size atL
  obtain ⟨ep1, atE⟩ : ∃ ep1, (s.heap.update a (Obj.mapSeq fun _ => (#[] : Array Value))).get? a = some (seqObj "list" #[] ep1) := ⟨_, get?_update_seq atL (fun _ => #[])⟩
  have atM : (midHeap s.heap a vs).get? a = some (seqObj "list" #[] ep1) := by
    unfold midHeap
    rw [Heap.get?_push_ne _ _ _ (by rw [size_push', Heap.size_update]; exact Nat.ne_of_lt (Nat.lt_succ_of_lt la)), Heap.get?_push_ne _ _ _ (by rw [Heap.size_update]; exact Nat.ne_of_lt la)]
    exact atE
  refine wpAny_bind (listItems_at atL rfl (wpAny_bind (listUpdate_at atL rfl (wpAny_bind (seqEpoch_at atE rfl ?_)) (by rw [List.size_toArray, sizeLine_eq]; lia) (Nat.zero_le _))))
  refine wpAny_bind (wpAny_newTuple (wpAny_bind (wpAny_newList (wpAny_holding ?_) (Nat.zero_le _))) (by show vs.length ≤ _; rw [sizeLine_eq]; omega))
  show wpAny (model prog w) A _ P E { s with heap := midHeap s.heap a vs }
  dsimp only
  by_cases few : vs.toArray.size < 2
  · rw [if_pos few, if_pos few]
    refine wpAny_bind (wpAny_pure ?_)
    rw [StateT.run_pure]
    refine wpAny_bind (wpAny_pure ?_)
    dsimp only
    have ev : (arrOf (SortSt.mk' general' (vs.toArray.zip vs.toArray) #[] 7 none)).map (·.2) = vs.toArray := by
      show (vs.toArray.zip vs.toArray).map (·.2) = vs.toArray
      apply Array.toList_inj.mp
      simp [List.map_snd_zip]
    refine wpAny_bind (seqEpoch_at atM rfl ?_)
    rw [ev]
    refine wpAny_bind (listUpdate_at atM rfl ?_ (Nat.zero_le _) (by rw [List.size_toArray, sizeLine_eq]; lia))
    simp only [bne_self_eq_false, Bool.false_eq_true, if_false]
    have fin := h (List.toArray (List.range vs.length)) (List.Perm.refl _) (fun i j hij hj => by
      have : i = j := by rw [List.size_toArray] at few; lia
      subst this
      exact Nat.le_refl _)
    rw [outOf_range] at fin
    exact wpAny_pure fin
  have h2 : 2 ≤ vs.length := by rw [List.size_toArray] at few; (exact Nat.le_of_not_lt (by assumption))
  rw [if_neg few, if_neg few]
  refine wpAny_bind (wpAny_mono (hk h2) (fun κ s0 hk => ?_) fun _ _ x => x.elim)
  obtain ⟨rfl, B⟩ := hk
  refine wpAny_bind (wpAny_mono (kat_run (Q := fun st' s' => s' = { s with heap := midHeap s.heap a vs } ∧ ∃ p : Array Nat, Pm vs.length p ∧ Srt rk p vs.length ∧ arrOf st' = p.map (kas_item (vs.toArray.zip vs.toArray)) ∧ failedOf st' = none)
    rfl h2 h64 (fun p' st' s' a1 a2 a3 a4 => ⟨a4.1, p', a4.2.1, a4.2.2, a2, a3⟩) (sort_wp B hi (Q := fun p s' => s' = { s with heap := midHeap s.heap a vs } ∧ Pm vs.length p ∧ Srt rk p vs.length) (by (exact Nat.le_of_lt (by assumption))) fun q hq hs => ⟨rfl, hq, hs⟩)) ?_ fun _ _ e => e)
  rintro ⟨⟨⟩, st'⟩ s' ⟨rfl, p, hp, hs, arr, nof⟩
  dsimp only
  have outq := kat_snds (ks := vs) (vs := vs) rfl arr
  rw [outq]
  have szq : (List.toArray (p.toList.map fun i => vs.getD i Value.none)).size = vs.length := by rw [List.size_toArray, List.length_map, Array.length_toList, hp.size]
  refine wpAny_bind (seqEpoch_at atM rfl ?_)
  refine wpAny_bind (listUpdate_at atM rfl ?_ (Nat.zero_le _) (Nat.le_trans (Nat.le_of_eq szq) (by rw [sizeLine_eq]; lia)))
  rw [nof]
  simp only [bne_self_eq_false, Bool.false_eq_true, if_false]
  exact wpAny_pure (h p hp hs)
end
noncomputable def keyL (x : Str) : List Nat := x.cps.toList
theorem countP_lt {α : Type} {p q : α → Bool} : ∀ {l : List α} {x : α}, (∀ y, p y = true → q y = true) → x ∈ l → p x = false → q x = true → l.countP p < l.countP q
  | y :: l, x, h, m, hp, hq => by
    rw [List.countP_cons, List.countP_cons]
    rcases List.mem_cons.mp m with rfl | m
    · rw [if_neg (by simp [hp]), if_pos hq]
      have := List.countP_mono_left (l := l) (p := p) (q := q) fun y _ => h y
      (exact Nat.succ_le_succ (by assumption))
    · have := countP_lt h m hp hq
      by_cases c : p y = true
      · rw [if_pos c, if_pos (h y c)]; (exact Nat.succ_lt_succ (by assumption))
      · rw [if_neg c]; split <;> (first | exact Nat.lt_succ_of_lt (by assumption) | omega)
end L2
namespace L2
open PySem PySem.W PyProof.Rows
theorem paired_get {α β : Type} {F : α → β → Prop} : ∀ {l : List α} {m : List β} {j : Nat} {a : α}, Paired F l m → l[j]? = some a → ∃ b, m[j]? = some b ∧ F a b
  | _, _, 0, a, .cons h _, e => ⟨_, rfl, by cases e; exact h⟩
  | _, _, j + 1, a, .cons _ t, e => paired_get (j := j) t e
theorem paired_len {α β : Type} {F : α → β → Prop} : ∀ {l : List α} {m : List β}, Paired F l m → l.length = m.length
  | _, _, .nil => rfl
  | _, _, .cons _ t => congrArg (· + 1) (paired_len t)
theorem paired_map2 {ι α β : Type} {F : α → β → Prop} {f : ι → α} {g : ι → β} : ∀ (l : List ι), (∀ i ∈ l, F (f i) (g i)) → Paired F (l.map f) (l.map g)
  | [], _ => .nil
  | i :: l, h => .cons (h i List.mem_cons_self) (paired_map2 l fun j m => h j (List.mem_cons_of_mem _ m))
section
variable {X : Cx} {pins : List (Addr × Obj)} {σ : St} {H H2 : Hp} {s : Shared} {h' : Heap}
end
section
variable {X : Cx} {o : Expr} {to : TE} {p apos cpos pos : Pos}
end
end L2
namespace L2
open PySem PySem.Spec PyProof.Rows
theorem strs_back : ∀ {its : List Value} {ys : List Str}, StrsAre its ys → Vals (ys.map V.str) its
  | _, _, .nil => .nil
  | _, _, .cons _ _ r => .cons ⟨_, rfl⟩ (strs_back r)
theorem risingS_pw : ∀ (l : List Str) (p : Str), risingS p l = true → (p :: l).Pairwise fun a b => ¬ keyL b < keyL a
  | [], p, _ => List.pairwise_singleton _ _
  | x :: l, p, h => by
    have h' : (!ltCps x.cps.toList p.cps.toList && risingS x l) = true := h
    rw [Bool.and_eq_true] at h'
    have a : ¬ keyL x < keyL p := by
      have z := h'.1
      rw [ltCps_eq, Bool.not_eq_true', decide_eq_false_iff_not] at z
      exact z
    have r := risingS_pw l x h'.2
    refine List.pairwise_cons.mpr ⟨fun y m => ?_, r⟩
    rcases List.mem_cons.mp m with rfl | m
    · exact a
    · have b := (List.pairwise_cons.mp r).1 y m
      exact List.not_lt.mpr (List.le_trans (List.not_lt.mp a) (List.not_lt.mp b))
theorem sortedS_pw {l : List Str} (h : sortedS l = true) : l.Pairwise fun a b => ¬ keyL b < keyL a := by
  cases l with
  | nil => exact .nil
  | cons p l => exact risingS_pw l p h
section
variable {X : Cx}
theorem call_sortedS : CallR X (.builtin "sorted") (fun xs H Q => ∃ (p : Addr) (ns : List Str), xs = [.ref p] ∧ SqL X.K H p (ns.map V.str) ∧ ns.length < 64 ∧ ∀ (l : Addr) (ms : List Str), H l = none → ms.Perm ns → ms.Pairwise (fun a b => ¬ keyL b < keyL a) → Q (.ref l) (upd H l (.lst (ms.map V.str)))) := by
  intro pins s σ H xs us Q I r h
  refine Classical.byContradiction fun hnzq => ?_; obtain ⟨p, ns, rfl, hq, h64, q⟩ := h
  refine hnzq ?_; clear hnzq
  refine Classical.byContradiction fun hnzq => ?_; obtain ⟨u, rfl, rx⟩ := vals1 r
  refine hnzq ?_; clear hnzq
  cases rx
  refine Classical.byContradiction fun hnzq => ?_; obtain ⟨its, r', pl, hz⟩ := I.list hq
  refine hnzq ?_; clear hnzq
  have hI := strs_of r'
  have hlen : its.length = ns.length := by rw [← r'.length, List.length_map]
  refine sorted_strs pl.isList hI (by lia) fun out ms a1 a2 a3 => ?_
  obtain ⟨e, he⟩ := sortedAll_at s.heap its out
  refine ⟨.ref (s.heap.objs.size + 1), _, I.laid (t' := s.toks) (fun b o e => sortedAll_old e) (Nat.le_succ _) (show ObjOk X.prog X.w _ _ _ (.lst (ms.map V.str)) from ⟨?_, out.toList, e, strs_back a1, he⟩), rfl, q _ ms (I.hok.fresh (Nat.le_succ _)) a2 (sortedS_pw a3)⟩
  rw [List.length_map, a2.length_eq, sizeLine_eq]
  lia
end
section
variable {X : Cx}
end
end L2
namespace L2
open PySem PySem.Spec PySem.Calls PyProof.Rows
section
variable {X : Cx}
end
end L2
namespace L2
open PySem PySem.Spec PyProof.Rows
noncomputable def Ris (xs : Array Nat) : Prop := ∀ i j, i < j → j < xs.size → xs.getD i 0 < xs.getD j 0
theorem getD_d {xs : Array Nat} {i : Nat} (h : i < xs.size) (a b : Nat) : xs.getD i a = xs.getD i b := by
  rw [Array.getD_eq_getD_getElem?, Array.getD_eq_getD_getElem?, Array.getElem?_eq_getElem h]; rfl
theorem below_go {xs : Array Nat} (hr : Ris xs) (j : Nat) : ∀ (f lo hi : Nat), hi ≤ xs.size → lo ≤ hi → hi - lo ≤ f → (∀ i, i < lo → xs.getD i 0 < j) → (∀ i, hi ≤ i → i < xs.size → j ≤ xs.getD i 0) →
    SetTable.below.go xs j f lo hi ≤ xs.size ∧ (∀ i, i < SetTable.below.go xs j f lo hi → xs.getD i 0 < j) ∧ ∀ i, SetTable.below.go xs j f lo hi ≤ i → i < xs.size → j ≤ xs.getD i 0
  | 0, lo, hi, h1, h2, h3, h4, h5 => by
    have e : lo = hi := by lia
    subst e
    exact ⟨h1, h4, h5⟩
  | f + 1, lo, hi, h1, h2, h3, h4, h5 => by
    unfold SetTable.below.go
    by_cases c : lo < hi
    · rw [if_pos c]
      have lm : (lo + hi) / 2 < xs.size := by lia
      dsimp only
      by_cases d : xs.getD ((lo + hi) / 2) j < j
      · rw [if_pos d]
        rw [getD_d lm j 0] at d
        refine below_go hr j f _ hi h1 (by lia) (by (clear hr h1 h2 h4 h5 lm d; omega)) (fun i hi' => ?_) h5
        by_cases e : i = (lo + hi) / 2
        · rw [e]; exact d
        · have := hr i ((lo + hi) / 2) (by lia) lm
          (exact Nat.lt_trans (by assumption) (by assumption))
      · rw [if_neg d]
        rw [getD_d lm j 0] at d
        refine below_go hr j f lo _ (by (exact Nat.le_of_lt (by assumption))) (by lia) (by (clear hr h1 h2 h4 h5 lm d; omega)) h4 fun i hi' hs => ?_
        by_cases e : i = (lo + hi) / 2
        · rw [e]; (exact Nat.le_of_not_lt (by assumption))
        · have := hr ((lo + hi) / 2) i (by lia) hs
          (clear hr h1 h2 h3 h4 h5 c lm hi' hs e; omega)
    · rw [if_neg c]
      have e : lo = hi := by lia
      subst e
      exact ⟨h1, h4, h5⟩
theorem below_at {xs : Array Nat} (hr : Ris xs) (j : Nat) : SetTable.below xs j ≤ xs.size ∧ (∀ i, i < SetTable.below xs j → xs.getD i 0 < j) ∧ ∀ i, SetTable.below xs j ≤ i → i < xs.size → j ≤ xs.getD i 0 :=
  below_go hr j xs.size 0 xs.size (Nat.le_refl _) (Nat.zero_le _) (by (exact Nat.sub_le _ _)) (fun i h => absurd h (Nat.not_lt_zero _)) fun i h1 h2 => absurd h2 (by (exact Nat.not_lt_of_le (by assumption)))
theorem ins_size {α : Type} (xs : Array α) (p : Nat) (x : α) (h : p ≤ xs.size) : (SetTable.insertAt xs p x).size = xs.size + 1 := by
  unfold SetTable.insertAt
  rw [Array.size_append, Array.size_push, Array.size_extract, Array.size_extract]
  lia
theorem insA_get (xs : Array Nat) (p : Nat) (x : Nat) (h : p ≤ xs.size) (i : Nat) : (SetTable.insertAt xs p x).getD i 0 = if i < p then xs.getD i 0 else if i = p then x else xs.getD (i - 1) 0 := by
  have e : (SetTable.insertAt xs p x).toList = xs.toList.take p ++ x :: xs.toList.drop p := by
    unfold SetTable.insertAt
    rw [Array.toList_append, Array.toList_push, Array.toList_extract, Array.toList_extract]
    simp only [List.extract_eq_drop_take, List.drop_zero, Nat.sub_zero, List.append_assoc, List.singleton_append]
    congr 2
    exact List.take_of_length_le (by rw [List.length_drop, Array.length_toList]; (exact Nat.le_refl _))
  have g : ∀ (ys : Array Nat) (i : Nat), ys.getD i 0 = ys.toList.getD i 0 := fun ys i => by rw [Array.getD_eq_getD_getElem?, List.getD_eq_getElem?_getD, Array.getElem?_toList]
  rw [g, e, g, g, List.getD_eq_getElem?_getD, List.getD_eq_getElem?_getD, List.getD_eq_getElem?_getD]
  have lt : (xs.toList.take p).length = p := by rw [List.length_take, Array.length_toList]; lia
  by_cases c : i < p
  · rw [if_pos c, List.getElem?_append_left (by lia), List.getElem?_take, if_pos c]
  · rw [if_neg c, List.getElem?_append_right (by lia), lt]
    by_cases d : i = p
    · rw [if_pos d, d, Nat.sub_self]; rfl
    · rw [if_neg d, show i - p = (i - 1 - p) + 1 by lia, List.getElem?_cons_succ, List.getElem?_drop]
      congr 2
      lia
theorem ins_ris {xs : Array Nat} (hr : Ris xs) {j : Nat} (hn : xs[SetTable.below xs j]? ≠ some j) : Ris (SetTable.insertAt xs (SetTable.below xs j) j) := by
  refine Classical.byContradiction fun hnzq => ?_; obtain ⟨h1, h2, h3⟩ := below_at hr j
  refine hnzq ?_; clear hnzq
  intro a b hab hb
  rw [ins_size _ _ _ h1] at hb
  rw [insA_get _ _ _ h1, insA_get _ _ _ h1]
  generalize hp : SetTable.below xs j = p at *
  have h4 : ∀ i, p ≤ i → i < xs.size → j < xs.getD i 0 := fun i hi hs => by
    have a1 := h3 i hi hs
    by_cases e : xs.getD i 0 = j
    · exfalso
      by_cases q : i = p
      · refine hn ?_
        rw [← q, Array.getElem?_eq_getElem hs]
        rw [Array.getD_eq_getD_getElem?, Array.getElem?_eq_getElem hs] at e
        exact congrArg some e
      · have := h3 p (Nat.le_refl _) (by (exact Nat.lt_of_le_of_lt (by assumption) (by assumption)))
        have := hr p i (by lia) hs
        (clear hr hab hb hp hn h1 h2 h3 hi hs a1 q; omega)
    · lia
  by_cases c1 : b < p
  · rw [if_pos c1, if_pos (by (exact Nat.lt_trans (by assumption) (by assumption)))]
    exact hr a b hab (by (exact Nat.lt_of_lt_of_le (by assumption) (by assumption)))
  · rw [if_neg c1]
    by_cases c2 : b = p
    · rw [if_pos c2, if_pos (by lia)]
      exact h2 a (by omega)
    · rw [if_neg c2]
      by_cases c3 : a < p
      · rw [if_pos c3]
        have := h2 a c3
        have := h4 (b - 1) (by lia) (by (clear hr hp hn h1 h2 h3 h4 c1 c2 c3 this; omega))
        (exact Nat.lt_trans (by assumption) (by assumption))
      · rw [if_neg c3]
        by_cases c4 : a = p
        · rw [if_pos c4]
          exact h4 (b - 1) (by lia) (by omega)
        · rw [if_neg c4]
          exact hr (a - 1) (b - 1) (by lia) (by omega)
theorem range_ris (n : Nat) : Ris (Array.range n) := fun i j hij hj => by
  rw [Array.size_range] at hj
  rw [Array.getD_eq_getD_getElem?, Array.getD_eq_getD_getElem?, Array.getElem?_eq_getElem (by rw [Array.size_range]; (exact Nat.lt_trans (by assumption) (by assumption))), Array.getElem?_eq_getElem (by rw [Array.size_range]; omega), Array.getElem_range, Array.getElem_range]
  exact hij
theorem ris_of {xs : List Nat} (h : xs.Pairwise (· < ·)) : Ris xs.toArray := fun i j hij hj => by
  rw [List.size_toArray] at hj
  rw [Array.getD_eq_getD_getElem?, Array.getD_eq_getD_getElem?, List.getElem?_toArray, List.getElem?_toArray, List.getElem?_eq_getElem hj, List.getElem?_eq_getElem (by (exact Nat.lt_trans (by assumption) (by assumption)))]
  exact List.pairwise_iff_getElem.mp h i j (by omega) hj hij
theorem free_not {t : SetTable} {ha : Nat → Int} {h : Int} : ∀ (f : Nat) (p : SetTable.Probe) {j : Nat} {d : Option Nat}, (∀ x, p.dummy = some x → t.place[SetTable.below t.place x]? ≠ some x) → SetTable.probe.go t ha h f p = some (.empty j d) → t.place[SetTable.below t.place j]? ≠ some j ∧ ∀ x, d = some x → t.place[SetTable.below t.place x]? ≠ some x
  | 0, p, j, d, _, e => by cases e
  | f + 1, p, j, d, hd, e => by
    unfold SetTable.probe.go at e
    have adv : ∀ q : SetTable.Probe, (t.advance q).dummy = q.dummy := fun q => by
      unfold SetTable.advance
      split <;> rfl
    have sl : t.slot p.j ≠ .live (SetTable.below t.place p.j) → t.place[SetTable.below t.place p.j]? ≠ some p.j := fun hn z => hn (by
      unfold SetTable.slot
      dsimp only
      rw [if_pos (by rw [z]; simp)])
    split at e
    · rename_i q
      cases e
      exact ⟨sl (by rw [q]; exact fun z => by cases z), hd⟩
    · rename_i q
      refine free_not f _ (fun x hx => ?_) e
      rw [adv] at hx
      cases hx
      exact sl (by rw [q]; exact fun z => by cases z)
    · split at e
      · cases e
      · refine free_not f _ (fun x hx => ?_) e
        rw [adv] at hx
        exact hd x hx
theorem slot_not {t : SetTable} {h : Int} {slot : Nat} {wd : Bool} (e : t.freeSlot h = some (slot, wd)) : t.place[SetTable.below t.place slot]? ≠ some slot := by
  unfold SetTable.freeSlot at e
  split at e
  · rename_i j d q
    obtain ⟨h1, h2⟩ := free_not _ _ (fun x hx => by cases hx) q
    cases d with
    | none => cases e; exact h1
    | some x => cases e; exact h2 x rfl
  · cases e
theorem or_ris {t : SetTable} (hr : Ris t.place) (n : Nat) : Ris (t.orStandIn n).place ∧ (t.orStandIn n).led = t.led := by
  unfold SetTable.orStandIn
  split
  · exact ⟨hr, rfl⟩
  · exact ⟨range_ris _, rfl⟩
theorem lay_ris {t : SetTable} (hr : Ris t.place) (es : Array (Int × Value)) (h : Int) (x : Value) : Ris (layNew t es h x).2.1.place ∧ (layNew t es h x).2.1.led = t.led := by
  unfold layNew
  split
  · rename_i slot wd q
    have hn := slot_not q
    exact or_ris (t := (t.put slot).1) (ins_ris hr hn) _
  · exact ⟨range_ris _, rfl⟩
theorem relay_ris (t : SetTable) (es : Array (Int × Value)) (n : Nat) : Ris (relayAll t es n).2.1.place ∧ (relayAll t es n).2.1.led = t.led := by
  unfold relayAll
  split
  · rename_i t' order q
    dsimp only
    split
    · unfold SetTable.relaid SetTable.laid at q
      simp only [Option.bind_eq_bind, Option.pure_def, Option.bind_eq_some_iff, Option.some.injEq, Prod.mk.injEq] at q
      refine Classical.byContradiction fun hnzq => ?_; obtain ⟨ow, _, rfl, _⟩ := q
      refine hnzq ?_; clear hnzq
      refine ⟨ris_of ?_, rfl⟩
      refine List.pairwise_map.mpr (List.pairwise_filterMap.mpr (List.pairwise_lt_range.imp fun {a b} hab x hx y hy => ?_))
      refine Classical.byContradiction fun hnzq => ?_; obtain ⟨u, _, rfl⟩ := Option.map_eq_some_iff.mp hx
      refine hnzq ?_; clear hnzq
      refine Classical.byContradiction fun hnzq => ?_; obtain ⟨v, _, rfl⟩ := Option.map_eq_some_iff.mp hy
      refine hnzq ?_; clear hnzq
      exact hab
    · exact ⟨range_ris _, rfl⟩
  · exact ⟨range_ris _, rfl⟩
theorem paired_perm {α β : Type} {F : α → β → Prop} {l l' : List β} (p : l'.Perm l) : ∀ {k : List α}, Paired F k l → ∃ k', Paired F k' l' ∧ k'.Perm k := by
  induction p with
  | nil => intro k h; exact ⟨k, h, List.Perm.refl _⟩
  | cons x _ ih =>
    intro k h
    cases h with
    | cons h1 h2 =>
      refine Classical.byContradiction fun hnzq => ?_; obtain ⟨k', a, b⟩ := ih h2
      refine hnzq ?_; clear hnzq
      exact ⟨_, .cons h1 a, b.cons _⟩
  | swap x y l =>
    intro k h
    cases h with
    | cons h1 h2 =>
      cases h2 with
      | cons h3 h4 => exact ⟨_, .cons h3 (.cons h1 h4), List.Perm.swap _ _ _⟩
  | trans _ _ i1 i2 =>
    intro k h
    refine Classical.byContradiction fun hnzq => ?_; obtain ⟨k1, a1, b1⟩ := i2 h
    refine hnzq ?_; clear hnzq
    refine Classical.byContradiction fun hnzq => ?_; obtain ⟨k2, a2, b2⟩ := i1 a1
    refine hnzq ?_; clear hnzq
    exact ⟨k2, a2, b2.trans b1⟩
theorem paired_snoc {α β : Type} {F : α → β → Prop} : ∀ {k : List α} {l : List β} {x : α} {y : β}, Paired F k l → F x y → Paired F (k ++ [x]) (l ++ [y])
  | _, _, _, _, .nil, h => .cons h .nil
  | _, _, _, _, .cons a b, h => .cons a (paired_snoc b h)
section
variable {prog : Program} {w : World} {A : Around} {E : Value → Shared → Prop} {s : Shared} {κ : Type} [DecidableEq κ] [BEq κ] [LawfulBEq κ] {knd : KeyKind prog w κ}
noncomputable def SetS (knd : KeyKind prog w κ) (led : Bool) (ks : List κ) (o : Obj) : Prop :=
  o.ExactSet ∧ ks.Nodup ∧ ∃ es ep t, o.data = .set es ep t ∧ ElemsOf knd es.toList ∧ Paired (fun k (e : Int × Value) => knd.is k e.2 = true) ks es.toList ∧ es.size < scanBound ∧ t.fits es.size = true ∧ Ris t.place ∧ t.led = led
theorem setS_new (led : Bool) : SetS knd led [] { cls := .type "set", dict := none, data := .set #[] 0 (.fresh 0 0 led) } :=
  ⟨⟨rfl, rfl, rfl⟩, List.nodup_nil, #[], 0, _, rfl, fun e he => by simp at he, .nil, by unfold scanBound; decide, by rfl, fun i j _ h => absurd h (Nat.not_lt_zero _), rfl⟩
theorem setS_put {led : Bool} {a : Addr} {o : Obj} {es es' : Array (Int × Value)} {ep : Nat} {t t' : SetTable} {ks' : List κ} {h : Heap} (ho : h.get? a = some o) (hex : o.ExactSet) (hd : o.data = .set es ep t) (nd : ks'.Nodup) (hel : ElemsOf knd es'.toList) (hp : Paired (fun k (e : Int × Value) => knd.is k e.2 = true) ks' es'.toList) (hb : es'.size < scanBound) (hf : t'.fits es'.size = true) (hr : Ris t'.place) (hl : t'.led = led) :
    (h.update a (Obj.putSet es' t')).get? a = some { o with data := .set es' (ep + 1) t' } ∧ SetS knd led ks' { o with data := .set es' (ep + 1) t' } := by
  refine ⟨?_, hex, nd, es', ep + 1, t', rfl, hel, hp, hb, hf, hr, hl⟩
  have := Heap.get?_update_self (Obj.putSet es' t') ho (by rw [putSet_of es' t' hd]; rfl)
  rwa [putSet_of es' t' hd] at this
theorem setS_add {led : Bool} {a : Addr} {o : Obj} {ks : List κ} {k : κ} {x : Value} {Q : Bool → Shared → Prop} (hkey : knd.is k x = true) (hsc : x.scannable = true) (ho : s.heap.get? a = some o) (hS : SetS knd led ks o) (hroom : ks.length + 1 < scanBound)
    (h : ∀ (b : Bool) (h' : Heap) (o' : Obj) (ks' : List κ), Heap.SameBut a s.heap h' → h'.get? a = some o' → SetS knd led ks' o' → (∀ z, z ∈ ks' ↔ z ∈ ks ∨ z = k) → ks'.length ≤ ks.length + 1 → Q b { s with heap := h' }) :
    wpAny (model prog w) A (setAddHashed a x (knd.hash k)) Q E s := by
  refine Classical.byContradiction fun hnzq => ?_; obtain ⟨hex, nd, es, ep, t, hd, hel, hp, hb, hf, hr, hl⟩ := id hS
  refine hnzq ?_; clear hnzq
  have hlen : ks.length = es.toList.length := paired_len hp
  unfold setAddHashed setAddHashedIn
  refine wpAny_holding (wpAny_bind (wpAny_setState_of ho hd hf ?_))
  dsimp only
  rw [byScan_of hsc hb hel, if_pos rfl]
  unfold setAddByScan
  refine wpAny_bind (wpAny_bind (wpAny_rule ?_))
  refine wpAny_bind (wpAny_setScan_of hkey ho hd hf hel ?_)
  cases hq : List.findIdx? (fun e => knd.is k e.2) es.toList with
  | some j =>
    dsimp only
    refine Classical.byContradiction fun hnzq => ?_; obtain ⟨hj, hpj, _⟩ := List.findIdx?_eq_some_iff_getElem.mp hq
    refine hnzq ?_; clear hnzq
    have mk : k ∈ ks := by
      have hj' : j < ks.length := by lia
      refine Classical.byContradiction fun hnzq => ?_; obtain ⟨b, e1, e2⟩ := paired_get hp (List.getElem?_eq_getElem hj')
      refine hnzq ?_; clear hnzq
      rw [List.getElem?_eq_getElem hj] at e1
      cases e1
      rw [knd.inj _ _ _ hpj e2]
      exact List.getElem_mem hj'
    refine wpAny_pure (wpAny_pure ?_)
    exact h false s.heap o ks (Heap.SameBut.refl a s.heap) ho hS (fun z => ⟨.inl, fun q => q.elim id fun e => e ▸ mk⟩) (Nat.le_succ _)
  | none =>
    dsimp only
    have nk : k ∉ ks := fun m => by
      refine Classical.byContradiction fun hnzq => ?_; obtain ⟨j, hj, e⟩ := List.mem_iff_getElem.mp m
      refine hnzq ?_; clear hnzq
      refine Classical.byContradiction fun hnzq => ?_; obtain ⟨b, e1, e2⟩ := paired_get hp (List.getElem?_eq_getElem hj)
      refine hnzq ?_; clear hnzq
      have := List.findIdx?_eq_none_iff.mp hq b (List.mem_of_getElem? e1)
      rw [← e, e2] at this
      exact Bool.noConfusion this
    have gw : ∀ (b : Bool) {s₁ : Shared} {Q' : Unit → Shared → Prop}, Q' () s₁ → wpAny (model prog w) A (match b with | true => rule "set.scan.the-table-gave-way" | false => pure ()) Q' E s₁ := fun b s₁ Q' q => by
      cases b
      · exact wpAny_pure q
      · exact wpAny_rule q
    have pm := layNew_perm t es (knd.hash k) x
    have ft := layNew_fits t es (knd.hash k) x
    have rs := lay_ris hr es (knd.hash k) x
    generalize layNew t es (knd.hash k) x = L at pm ft rs ⊢
    refine Classical.byContradiction fun hnzq => ?_; obtain ⟨es1, t1, wd, gave⟩ := L
    refine hnzq ?_; clear hnzq
    dsimp only at pm ft rs ⊢
    rw [Array.toList_push] at pm
    refine Classical.byContradiction fun hnzq => ?_; obtain ⟨k1, p1, q1⟩ := paired_perm pm (paired_snoc hp hkey)
    refine hnzq ?_; clear hnzq
    have el1 : ElemsOf knd es1.toList := (hel.push hkey hsc).perm pm
    have nd1 : k1.Nodup := q1.nodup_iff.mpr (List.nodup_append.mpr ⟨nd, List.nodup_cons.mpr ⟨List.not_mem_nil, List.nodup_nil⟩, fun u hu v hv e => by rw [List.mem_singleton.mp hv] at e; exact nk (e ▸ hu)⟩)
    have m1 : ∀ z, z ∈ k1 ↔ z ∈ ks ∨ z = k := fun z => by rw [q1.mem_iff, List.mem_append, List.mem_singleton]
    have l1 : k1.length = ks.length + 1 := by rw [q1.length_eq, List.length_append]; rfl
    have b1 : es1.size < scanBound := by
      have e : es1.size = k1.length := by rw [← Array.length_toList]; exact (paired_len p1).symm
      lia
    refine wpAny_bind (gw _ ?_)
    split
    · refine wpAny_bind ?_
      rw [hashByValue_scannable 8 hsc]
      refine wpAny_pure ?_
      obtain ⟨t2, e2, f2, r2, w2⟩ : ∃ t2 : SetTable, (if plainKind x = true then t1 else { t1 with plain := false }) = t2 ∧ t2.fits es1.size = true ∧ Ris t2.place ∧ t2.led = led := by
        cases plainKind x
        · exact ⟨_, rfl, SetTable.fits_plain_off ft, rs.1, rs.2.trans hl⟩
        · exact ⟨_, rfl, ft, rs.1, rs.2.trans hl⟩
      rw [e2]
      refine wpAny_bind (wpAny_storeSet_of ho hd ?_ (fits_of_scanBound b1))
      obtain ⟨o1, S1⟩ := setS_put (knd := knd) ho hex hd nd1 el1 p1 b1 f2 r2 w2
      have sb1 := Heap.SameBut.update s.heap a (Obj.putSet es1 t2)
      split
      · have pm3 := relayAll_perm t2 es1 (SetTable.grown es1.size)
        have ft3 := relayAll_fits t2 es1 (SetTable.grown es1.size)
        have rs3 := relay_ris t2 es1 (SetTable.grown es1.size)
        generalize relayAll t2 es1 (SetTable.grown es1.size) = L at pm3 ft3 rs3 ⊢
        refine Classical.byContradiction fun hnzq => ?_; obtain ⟨es3, t3, gave3⟩ := L
        refine hnzq ?_; clear hnzq
        dsimp only at pm3 ft3 rs3 ⊢
        refine Classical.byContradiction fun hnzq => ?_; obtain ⟨k3, p3, q3⟩ := paired_perm pm3 p1
        refine hnzq ?_; clear hnzq
        have b3 : es3.size < scanBound := by
          have e : es3.size = k3.length := by rw [← Array.length_toList]; exact (paired_len p3).symm
          rw [e, q3.length_eq]
          lia
        refine wpAny_bind (gw _ ?_)
        refine wpAny_bind (wpAny_storeSet_of o1 rfl ?_ (fits_of_scanBound b3))
        obtain ⟨o3, S3⟩ := setS_put (knd := knd) (t' := t3) o1 hex rfl (q3.nodup_iff.mpr nd1) (el1.perm pm3) p3 b3 ft3 rs3.1 (rs3.2.trans w2)
        refine wpAny_pure (wpAny_pure ?_)
        exact h true _ _ k3 (sb1.trans (Heap.SameBut.update _ a _)) o3 S3 (fun z => q3.mem_iff.trans (m1 z)) (by rw [q3.length_eq]; (exact Nat.le_of_eq (by assumption)))
      · refine wpAny_pure (wpAny_pure ?_)
        exact h true _ _ k1 sb1 o1 S1 m1 (by (exact Nat.le_of_eq (by assumption)))
    · refine wpAny_bind (wpAny_pure ?_)
      obtain ⟨t2, e2, f2, r2, w2⟩ : ∃ t2 : SetTable, (if true = true then t1 else { t1 with plain := false }) = t2 ∧ t2.fits es1.size = true ∧ Ris t2.place ∧ t2.led = led := by
        exact ⟨_, rfl, ft, rs.1, rs.2.trans hl⟩
      rw [e2]
      refine wpAny_bind (wpAny_storeSet_of ho hd ?_ (fits_of_scanBound b1))
      obtain ⟨o1, S1⟩ := setS_put (knd := knd) ho hex hd nd1 el1 p1 b1 f2 r2 w2
      have sb1 := Heap.SameBut.update s.heap a (Obj.putSet es1 t2)
      split
      · have pm3 := relayAll_perm t2 es1 (SetTable.grown es1.size)
        have ft3 := relayAll_fits t2 es1 (SetTable.grown es1.size)
        have rs3 := relay_ris t2 es1 (SetTable.grown es1.size)
        generalize relayAll t2 es1 (SetTable.grown es1.size) = L at pm3 ft3 rs3 ⊢
        refine Classical.byContradiction fun hnzq => ?_; obtain ⟨es3, t3, gave3⟩ := L
        refine hnzq ?_; clear hnzq
        dsimp only at pm3 ft3 rs3 ⊢
        refine Classical.byContradiction fun hnzq => ?_; obtain ⟨k3, p3, q3⟩ := paired_perm pm3 p1
        refine hnzq ?_; clear hnzq
        have b3 : es3.size < scanBound := by
          have e : es3.size = k3.length := by rw [← Array.length_toList]; exact (paired_len p3).symm
          rw [e, q3.length_eq]
          omega
        refine wpAny_bind (gw _ ?_)
        refine wpAny_bind (wpAny_storeSet_of o1 rfl ?_ (fits_of_scanBound b3))
        obtain ⟨o3, S3⟩ := setS_put (knd := knd) (t' := t3) o1 hex rfl (q3.nodup_iff.mpr nd1) (el1.perm pm3) p3 b3 ft3 rs3.1 (rs3.2.trans w2)
        refine wpAny_pure (wpAny_pure ?_)
        exact h true _ _ k3 (sb1.trans (Heap.SameBut.update _ a _)) o3 S3 (fun z => q3.mem_iff.trans (m1 z)) (by rw [q3.length_eq]; (exact Nat.le_of_eq (by assumption)))
      · refine wpAny_pure (wpAny_pure ?_)
        exact h true _ _ k1 sb1 o1 S1 m1 (by (exact Nat.le_of_eq (by assumption)))
end
section
variable {prog : Program} {w : World} {A : Around} {E : Value → Shared → Prop} {s : Shared} {κ : Type} [DecidableEq κ] [BEq κ] [LawfulBEq κ] {knd : PySem.KeyKind prog w κ} {R : Result → Shared → Prop}
theorem set_loop {led : Bool} {S I l : Addr} {items : Array Value} (hh : A.handled = none) (hne : l ≠ I) (hSI : S ≠ I) (hSl : S ≠ l) (keys : Nat → κ) (hk : ∀ i v, items[i]? = some v → knd.is (keys i) v = true ∧ v.scannable = true) (hb : items.size + 1 < scanBound) :
    ∀ (n i : Nat) (s : Shared) (o : Obj) (ks : List κ), items.size = i + n → s.heap.IsListIter I l i ∧ s.heap.IsList l items → s.heap.get? S = some o → SetS knd led ks o → (∀ z, z ∈ ks ↔ ∃ j, j < i ∧ keys j = z) → ks.length ≤ i →
    (∀ (h' : Heap) (tk : Nat) (o' : Obj) (ks' : List κ), (∀ b ob, b ≠ I → b ≠ S → s.heap.get? b = some ob → h'.get? b = some ob) → h'.get? S = some o' → SetS knd led ks' o' → (∀ z, z ∈ ks' ↔ ∃ j, j < items.size ∧ keys j = z) → ks'.length ≤ items.size → R (.ok (.ret .none)) { s with heap := h', toks := tk }) →
    codeAny (model prog w) A (.builtin "set.update.loop" ⟨[.ref S, .ref I], []⟩) R s := by
  have W := Walks.list (prog := prog) (w := w) (A := A.in1) hh I l hne items
  intro n
  induction n with
  | zero =>
    intro i s o ks e st hS hK hm hl hR
    have ei : items.size = i := by omega
    refine codeAny_builtin PyProof.Rows.F.entry_set_update_loop ?_
    rw [Around.under_plainId PyProof.Rows.F.plain_set_update_loop _]
    show wpAny _ A.in1 (pyNext (.ref I) >>= _) _ _ s
    refine wpAny_bind (W.done s _ _ (by rw [ei]; exact st) fun h' tk hk' => ?_)
    refine wpAny_pure (hR h' tk o ks (fun b ob n1 _ q => hk' b ob (by simpa using n1) q) (hk' S o (by simpa using hSI) hS) hK (by rw [ei]; exact hm) (by lia))
  | succ n ih =>
    intro i s o ks e st hS hK hm hl hR
    refine codeAny_builtin PyProof.Rows.F.entry_set_update_loop ?_
    rw [Around.under_plainId PyProof.Rows.F.plain_set_update_loop _]
    show wpAny _ A.in1 (pyNext (.ref I) >>= _) _ _ s
    refine wpAny_bind (W.item i s _ _ (by lia) st fun v h1 tk hv st1 k1 => ?_)
    obtain ⟨hkey, hsc⟩ := hk i v hv
    have hS1 := k1 S o (by simpa using hSI) hS
    show wpAny _ A.in1 (holding [v] (setAdd S v) >>= _) _ _ _
    refine wpAny_bind (wpAny_holding ?_)
    unfold setAdd
    refine wpAny_holding (wpAny_bind (knd.pyHash (k := keys i) hkey ?_))
    refine setS_add hkey hsc hS1 hK (by lia) fun b h2 o2 ks2 sb g2 S2 m2 l2 => ?_
    have up : ∀ b ob, b ≠ S → h1.get? b = some ob → h2.get? b = some ob := fun b ob nb q => (sb.2 b nb).trans q
    refine wpAny_pure ⟨plainId_quiet PyProof.Rows.F.plain_set_update_loop _, ih (i + 1) _ o2 ks2 (by lia) (W.frame _ _ _ st1 fun b hb' ob q => up b ob (fun z => ?_) q) g2 S2 (fun z => ?_) (by lia) fun h3 tk3 o3 ks3 k3 g3 S3 m3 l3 => ?_⟩
    · rcases List.mem_cons.mp hb' with q' | q'
      · exact hSI (z.symm.trans q')
      · exact hSl (z.symm.trans (List.mem_singleton.mp q'))
    · rw [m2, hm]
      constructor
      · rintro (⟨j, hj, q⟩ | rfl)
        · exact ⟨j, by (exact Nat.lt_succ_of_lt (by assumption)), q⟩
        · exact ⟨i, Nat.lt_succ_self _, rfl⟩
      · rintro ⟨j, hj, q⟩
        by_cases c : j = i
        · exact .inr (by rw [← q, c])
        · exact .inl ⟨j, by lia, q⟩
    · exact hR h3 tk3 o3 ks3 (fun b ob n1 n2 q => k3 b ob n1 n2 (up b ob n2 (k1 b ob (by simpa using n1) q))) g3 S3 m3 l3
noncomputable def ledW (w : World) : Bool := !w.params.followText "set-order"
theorem set_new1 (a : Value) {Q₁ : Value → Shared → Prop} (h : Q₁ (.ref s.heap.objs.size) { s with heap := s.heap.push { cls := .type "set", dict := none, data := .set #[] 0 (.fresh 0 0 (ledW w)) } }) :
    codeAny (model prog w) A (.call (.builtin "set.__new__") ⟨[.type "set", a], []⟩) (wants Q₁ E) s := by
  refine codeAny_of_tree ?_
  show wpAny _ A.in1 (checkBuiltinCall "set.__new__" ⟨[.type "set", a], []⟩ >>= fun _ => again (.builtin "set.__new__" ⟨[.type "set", a], []⟩)) _ _ s
  refine wpAny_bind (wpAny_of_eq (PySem.F.newCall_set_1 a) (wpAny_pure ⟨plainId_quiet PySem.F.plain_set_new _, codeAny_builtin PySem.F.entry_set_new ?_⟩))
  rw [Around.under_plainId PySem.F.plain_set_new _]
  unfold Builtin.«set.__new__» Builtin.Frozenset.newClass
  have su := sub_set_self
  refine Classical.byContradiction fun hnzq => ?_; obtain ⟨hp, g, d, tk, os⟩ := s
  refine hnzq ?_; clear hnzq
  dsimp only
  wp_walk
  refine wpAny_askSetting (wpAny_pure ?_)
  dsimp only
  simp only [newObj]
  exact wpAny_bind (wpAny_alloc (wpAny_pure (wpAny_pure h)))
end
section
variable {prog : Program} {w : World} {A : Around} {E : Value → Shared → Prop} {s : Shared} {κ : Type} [DecidableEq κ] [BEq κ] [LawfulBEq κ] {knd : PySem.KeyKind prog w κ}
noncomputable abbrev newSetO (w : World) : Obj := { cls := .type "set", dict := none, data := .set #[] 0 (.fresh 0 0 (ledW w)) }
theorem set_init1 {l : Addr} {items : Array Value} {Q : Value → Shared → Prop} (hh : A.handled = none) (hl : s.heap.IsList l items) (keys : Nat → κ) (hk : ∀ i v, items[i]? = some v → knd.is (keys i) v = true ∧ v.scannable = true) (hb : items.size + 1 < scanBound)
    (h : ∀ (h' : Heap) (tk : Nat) (o' : Obj) (ks : List κ), (∀ b ob, b < s.heap.objs.size → s.heap.get? b = some ob → h'.get? b = some ob) → h'.get? s.heap.objs.size = some o' → SetS knd (ledW w) ks o' → (∀ z, z ∈ ks ↔ ∃ j, j < items.size ∧ keys j = z) → ks.length ≤ items.size → Q .none { s with heap := h', toks := tk }) :
    codeAny (model prog w) A (.call (.builtin "set.__init__") ⟨[.ref s.heap.objs.size, .ref l], []⟩) (wants Q E) { s with heap := s.heap.push (newSetO w) } := by
  have hS : (s.heap.push (newSetO w)).get? s.heap.objs.size = some (newSetO w) := Heap.get?_push_size _ rfl
  have hT : Shared.TypeIs { s with heap := s.heap.push (newSetO w) } (.ref s.heap.objs.size) "set" := ⟨_, hS, rfl⟩
  refine codeAny_call_builtin PySem.F.called_set.init.plain PySem.F.entry_set_init (check_set_init_1 hT ?_)
  refine Classical.byContradiction fun hnzq => ?_; obtain ⟨⟨oc, od, odt, osl⟩, ho, hc, nl, hd⟩ := id hl
  refine hnzq ?_; clear hnzq
  simp only at hc hd
  subst hc hd
  have ho' : (s.heap.push (newSetO w)).get? l = some { cls := .type "list", dict := od, data := .seq items nl, slots := osl } := Heap.get?_push_of_some _ ho
  have s1 := PySem.F.sub_list_set
  have s2 := PySem.F.sub_list_frozenset
  have ne1 : (Value.type "list" == Value.type "dict") = false := by decide
  have hl1 : (s.heap.push (newSetO w)).IsList l items := ⟨_, ho', rfl, nl, rfl⟩
  have llt : l < s.heap.objs.size := Heap.lt_size ho
  unfold Builtin.«set.__init__» noKeywords Builtin.Frozenset.updateFrom
  generalize hPI : pyIter = PI
  wp_walk
  subst hPI
  refine wpAny_pyIter_list hl1 (wpAny_bind (wpAny_runValue ?_))
  have e1 : (s.heap.push (newSetO w)).objs.size = s.heap.objs.size + 1 := Heap.size_push ..
  refine set_loop (knd := knd) (led := ledW w) (S := s.heap.objs.size) (I := (s.heap.push (newSetO w)).objs.size) (l := l) (items := items) (by simp [hh]) (by rw [e1]; exact Nat.ne_of_lt (Nat.lt_succ_of_lt llt)) (by rw [e1]; exact Nat.ne_of_lt (Nat.lt_succ_self _)) (Nat.ne_of_gt llt) keys hk hb items.size 0 _ (newSetO w) [] (by lia) ⟨⟨_, Heap.get?_push_size _ rfl, rfl, rfl⟩, hl1.push _⟩ (Heap.get?_push_of_some _ hS) (setS_new _) (fun z => ⟨fun q => (by cases q), fun ⟨j, hj, _⟩ => absurd hj (Nat.not_lt_zero _)⟩) (Nat.le_refl _) fun h' tk o' ks k1 g1 S1 m1 l1 => ?_
  refine wpAny_pure (wpAny_pure ?_)
  exact h h' tk o' ks (fun b ob hb' q => k1 b ob (by rw [e1]; exact Nat.ne_of_lt (Nat.lt_succ_of_lt hb')) (Nat.ne_of_lt hb') (Heap.get?_push_of_some _ (Heap.get?_push_of_some _ q))) g1 S1 m1 l1
theorem call_setS {l : Addr} {items : Array Value} {Q : Value → Shared → Prop} (hh : A.handled = none) (hl : s.heap.IsList l items) (keys : Nat → κ) (hk : ∀ i v, items[i]? = some v → knd.is (keys i) v = true ∧ v.scannable = true) (hb : items.size + 1 < scanBound)
    (h : ∀ (h' : Heap) (tk : Nat) (o' : Obj) (ks : List κ), (∀ b ob, b < s.heap.objs.size → s.heap.get? b = some ob → h'.get? b = some ob) → h'.get? s.heap.objs.size = some o' → SetS knd (ledW w) ks o' → (∀ z, z ∈ ks ↔ ∃ j, j < items.size ∧ keys j = z) → ks.length ≤ items.size → Q (.ref s.heap.objs.size) { s with heap := h', toks := tk }) :
    wpAny (model prog w) A (call (.type "set") [.ref l]) Q E s := by
  refine Classical.byContradiction fun hnzq => ?_; obtain ⟨c, tl, hmro⟩ := PySem.F.called_set.mro
  refine hnzq ?_; clear hnzq
  have a1 := PySem.F.called_set.made
  have a2 := PySem.F.called_set.sub
  have a3 := PySem.F.called_set.notType
  have a4 := PySem.F.called_set.canCreate
  have a5 := PySem.F.typeCall_set_1 (.ref l)
  refine wpAny_call (codeAny_of_tree ?_)
  show wpAny _ _ (callAny (.type "set") _) _ _ _
  refine wpAny_pure ⟨Code.quiet_builtin _ (by decide +kernel), codeAny_builtin PySem.F.entry_type_call ?_⟩
  rw [Around.under_plain (weight_type_call_type "set" [.ref l] []) rfl]
  repeat (any_goals (first | assumption | wp_step))
  refine codeAny_mono (set_new1 (.ref l) (E := E) (Q₁ := fun ob s₁ => ob = .ref s.heap.objs.size ∧ s₁ = { s with heap := s.heap.push (newSetO w) }) ⟨rfl, rfl⟩) fun r s₁ hr => ?_
  cases r with
  | error e => exact hr
  | ok fl =>
    cases fl with
    | ret ob =>
      obtain ⟨rfl, rfl⟩ := hr
      have hT : Shared.TypeIs { s with heap := s.heap.push (newSetO w) } (.ref s.heap.objs.size) "set" := ⟨_, Heap.get?_push_size _ rfl, rfl⟩
      have b1 := PySem.F.called_set.init.lookup
      have b2 := PySem.F.called_set.init.bind (.ref s.heap.objs.size)
      repeat (any_goals (first | assumption | wp_step))
      refine codeAny_mono (set_init1 (knd := knd) (E := E) (Q := fun r s₂ => r = .none ∧ Q (.ref s.heap.objs.size) s₂) (by simp [hh]) hl keys hk hb fun h' tk o' ks k1 g1 S1 m1 l1 => ⟨rfl, h h' tk o' ks k1 g1 S1 m1 l1⟩) fun r₂ s₂ hr₂ => ?_
      cases r₂ with
      | error e => exact hr₂
      | ok fl₂ =>
        cases fl₂ with
        | ret r =>
          obtain ⟨rfl, q⟩ := hr₂
          repeat (any_goals (first | assumption | wp_step))
        | _ => exact hr₂.elim
    | _ => exact hr.elim
end
section
variable {X : Cx} {e : Expr} {te : TE} {p p2 pos pos2 : Pos}
noncomputable def tLenSet (K : PySem.W.Frag) (te : TE) : TE := fun σ H Q => te σ H fun x H1 => ∃ (l : Addr) (zs : List Str), x = .ref l ∧ SqL K H1 l (zs.map V.str) ∧ zs.length < 1000 ∧ ∀ ks : List Str, ks.Nodup → (∀ z, z ∈ ks ↔ z ∈ zs) → Q (.int (ks.length : Int)) H1
theorem pe_lenSet (hc : X.calm = true) (hg1 : Gl X "len") (hm1 : X.mg "len" = none) (hg2 : Gl X "set") (hm2 : X.mg "set" = none) (he : PE X e te)
    (h1 : starEach [.Call (.Name "set" p2) [e] [] pos2] X.env = [(false, eval (.Call (.Name "set" p2) [e] [] pos2) X.env)] := by rfl)
    (h2 : starEach [e] X.env = [(false, eval e X.env)] := by rfl) : PE X (.Call (.Name "len" p) [.Call (.Name "set" p2) [e] [] pos2] [] pos) (tLenSet X.K te) := by
  intro pins s σ H Q I h
  refine wpAny_Call_Name_kw (ld_blt I hg1 hm1 PySem.boot_len ?_)
  refine PyProof.Rows.callWith_builtin1 ?_ h1 rfl
  rw [h1]
  show wpAny _ _ (spliced ((false, eval (.Call (.Name "set" p2) [e] [] pos2) X.env) :: backTo pos [])) _ _ s
  refine Calls.spliced_cons (wpAny_Call_Name_kw (ld_blt I hg2 hm2 (by decide +kernel : bootBuiltins "set" = some (.type "set")) ?_))
  refine PyProof.Rows.callWith_type1 ?_ h2 rfl
  rw [h2]
  show wpAny _ _ (spliced ((false, eval e X.env) :: backTo pos2 [])) _ _ s
  refine Calls.spliced_cons (thn (he pins s σ H _ I h) fun u s1 zzq => ?_)
  refine Classical.byContradiction fun hnzq => ?_; obtain ⟨x, H1, I1, rx, l, zs, ex, hq, hl, q⟩ := zzq; refine hnzq ?_; clear hnzq
  subst ex
  obtain rfl : u = Value.ref l := rx
  refine Classical.byContradiction fun hnzq => ?_; obtain ⟨its, r', pl, hz⟩ := I1.list hq
  refine hnzq ?_; clear hnzq
  have hS := strs_of r'
  have hlen : its.length = zs.length := by rw [← r'.length, List.length_map]
  refine Calls.spliced_nil ?_
  have sz : its.toArray.size = zs.length := by rw [List.size_toArray, hlen]
  have keyed : ∀ (i : Nat) (v : Value), its.toArray[i]? = some v → ∃ t, v = Value.str (zs.getD i Str.empty) t := fun i v hv => by
    rw [List.getElem?_toArray] at hv
    refine Classical.byContradiction fun hnzq => ?_; obtain ⟨w', e1, e2⟩ := r'.get (i := i) (x := V.str (zs.getD i Str.empty)) (by
      have hi : i < zs.length := by have := (List.getElem?_eq_some_iff.mp hv).1; lia
      rw [List.getElem?_map, List.getD_eq_getElem?_getD, List.getElem?_eq_getElem hi]; rfl)
    refine hnzq ?_; clear hnzq
    rw [hv] at e1
    cases e1
    exact e2
  refine call_setS (knd := PySem.strKind X.prog X.w) (I1.ok.hd hc) pl.isList (fun i => zs.getD i Str.empty) (fun i v hv => ?_) (by rw [sz]; unfold scanBound; lia) fun h' tk o' ks k1 g1 S1 m1 l1 => ?_
  · obtain ⟨t, rfl⟩ := keyed i v hv
    exact ⟨by simp [PySem.strKind, Value.isStrOf], rfl⟩
  · refine Calls.spliced_nil ?_
    refine Classical.byContradiction fun hnzq => ?_; obtain ⟨hex, nd, es, ep, t, hd, hel, hp, hb, hf, hr, hw⟩ := S1
    refine hnzq ?_; clear hnzq
    have hks : es.size = ks.length := by rw [← Array.length_toList]; exact (paired_len hp).symm
    have sb : scanBound = 4096 := rfl
    refine call_len_set g1 hex hd hf (by omega) ?_
    refine ⟨.int (ks.length : Int), H1, ?_, ⟨_, by rw [hks]⟩, q ks nd fun z => ?_⟩
    · exact I1.kept (t' := _) fun b ob e => k1 b ob (Heap.lt_size e) e
    · rw [m1, sz]
      constructor
      · rintro ⟨j, hj, rfl⟩
        rw [List.getD_eq_getElem?_getD, List.getElem?_eq_getElem hj]
        exact List.getElem_mem hj
      · intro hz'
        refine Classical.byContradiction fun hnzq => ?_; obtain ⟨j, hj, ej⟩ := List.mem_iff_getElem.mp hz'
        refine hnzq ?_; clear hnzq
        exact ⟨j, hj, by rw [List.getD_eq_getElem?_getD, List.getElem?_eq_getElem hj]; exact ej⟩
end
section
variable {X : Cx} {o : Expr} {to : TE} {p apos cpos pos : Pos}
end
end L2
namespace L2
open PySem PySem.W PyProof.Rows
noncomputable def rkG {α : Type} (lt : α → α → Bool) (xs : List α) (d : α) (i : Nat) : Nat := xs.countP fun y => lt y (xs.getD i d)
theorem rkG_lt {α : Type} {lt : α → α → Bool} {xs : List α} {d : α} (tr : ∀ a b c, lt a b = true → lt b c = true → lt a c = true) (irr : ∀ a, lt a a = false) {i j : Nat} (h1 : i < xs.length) (h : lt (xs.getD i d) (xs.getD j d) = true) : rkG lt xs d i < rkG lt xs d j := by
  refine countP_lt (x := xs.getD i d) (fun y hy => tr _ _ _ hy h) ?_ (irr _) h
  rw [List.getD_eq_getElem?_getD, List.getElem?_eq_getElem h1]
  exact List.getElem_mem h1
theorem rkG_iff {α : Type} {lt : α → α → Bool} {xs : List α} {d : α} (tr : ∀ a b c, lt a b = true → lt b c = true → lt a c = true) (irr : ∀ a, lt a a = false) (tot : ∀ i j, i < xs.length → j < xs.length → i ≠ j → lt (xs.getD i d) (xs.getD j d) = false → lt (xs.getD j d) (xs.getD i d) = true) {i j : Nat} (h1 : i < xs.length) (h2 : j < xs.length) (ne : i ≠ j) : decide (rkG lt xs d i < rkG lt xs d j) = lt (xs.getD i d) (xs.getD j d) := by
  cases c : lt (xs.getD i d) (xs.getD j d) with
  | true => exact decide_eq_true (rkG_lt tr irr h1 c)
  | false =>
    have := rkG_lt tr irr h2 (tot i j h1 h2 ne c)
    exact decide_eq_false (by lia)
theorem rkG_inj {α : Type} {lt : α → α → Bool} {xs : List α} {d : α} (tr : ∀ a b c, lt a b = true → lt b c = true → lt a c = true) (irr : ∀ a, lt a a = false) (tot : ∀ i j, i < xs.length → j < xs.length → i ≠ j → lt (xs.getD i d) (xs.getD j d) = false → lt (xs.getD j d) (xs.getD i d) = true) : RkInj xs.length (rkG lt xs d) := fun i j h1 h2 e => by
  by_cases dn : i = j
  · exact dn
  · cases c : lt (xs.getD i d) (xs.getD j d) with
    | true => have := rkG_lt tr irr h1 c; lia
    | false => have := rkG_lt tr irr h2 (tot i j h1 h2 dn c); lia
noncomputable abbrev TN3 := Addr × Int × Int × Addr
noncomputable def ltN3 (a b : TN3) : Bool := decide (a.2.1 < b.2.1 ∨ (a.2.1 = b.2.1 ∧ a.2.2.1 < b.2.2.1))
theorem ltN3_trans (a b c : TN3) (h1 : ltN3 a b = true) (h2 : ltN3 b c = true) : ltN3 a c = true := by
  unfold ltN3 at *
  have := of_decide_eq_true h1
  have := of_decide_eq_true h2
  exact decide_eq_true (by lia)
theorem ltN3_irr (a : TN3) : ltN3 a a = false := decide_eq_false (by lia)
theorem ltN3_tot (a b : TN3) (ne : (a.2.1, a.2.2.1) ≠ (b.2.1, b.2.2.1)) (h : ltN3 a b = false) : ltN3 b a = true := by
  unfold ltN3 at *
  have := of_decide_eq_false h
  refine decide_eq_true ?_
  by_cases e : a.2.1 = b.2.1
  · have : a.2.2.1 ≠ b.2.2.1 := fun z => ne (by rw [e, z])
    lia
  · lia
theorem refs_of3 : ∀ {ps : List TN3} {its : List Value}, Vals (ps.map fun q => V.ref q.1) its → its = ps.map fun q => Value.ref q.1
  | [], _, .nil => rfl
  | _ :: _, _, .cons e r => by
    have e' := e
    cases e'
    rw [refs_of3 r]
    rfl
theorem katTups3 {h : Heap} : ∀ {ps : List TN3}, (∀ q ∈ ps, ∃ (o : Obj) (t1 t2 : Tok) (n : Nat), h.get? q.1 = some o ∧ o.cls = .type "tuple" ∧ o.data = .seq #[.int q.2.1 t1, .int q.2.2.1 t2, .ref q.2.2.2] n) → ∃ fs : List Value, KatTups h (ps.map fun q => Value.ref q.1) fs ∧ fs.length = ps.length ∧ ∀ v ∈ fs, ∃ x t, v = Value.int x t
  | [], _ => ⟨[], KatTups.nil, rfl, fun _ z => by cases z⟩
  | q :: ps, hh => by
    refine Classical.byContradiction fun hnzq => ?_; obtain ⟨o, t1, t2, n, e1, e2, e3⟩ := hh q List.mem_cons_self
    refine hnzq ?_; clear hnzq
    refine Classical.byContradiction fun hnzq => ?_; obtain ⟨fs, k, l, hv⟩ := katTups3 (ps := ps) fun x hx => hh x (List.mem_cons_of_mem _ hx)
    refine hnzq ?_; clear hnzq
    refine ⟨Value.int q.2.1 t1 :: fs, KatTups.cons e1 e2 e3 rfl k, by rw [List.length_cons, List.length_cons, l], fun v hv' => ?_⟩
    rcases List.mem_cons.mp hv' with rfl | hv'
    · exact ⟨_, _, rfl⟩
    · exact hv v hv'
section
variable {X : Cx}
theorem call_sortedN3 : CallR X (.builtin "sorted") (fun xs H Q => ∃ (p : Addr) (ps : List TN3), xs = [.ref p] ∧ SqL X.K H p (ps.map fun q => V.ref q.1) ∧ (∀ q ∈ ps, H q.1 = some (.tup [.int q.2.1, .int q.2.2.1, .ref q.2.2.2])) ∧ (ps.map fun q => (q.2.1, q.2.2.1)).Nodup ∧ ps.length < 64 ∧
    ∀ (l : Addr) (qs : List TN3), H l = none → qs.Perm ps → qs.Pairwise (fun a b => ltN3 a b = true) → Q (.ref l) (upd H l (.lst (qs.map fun q => V.ref q.1)))) := by
  intro pins s σ H xs us Q I r h
  refine Classical.byContradiction fun hnzq => ?_; obtain ⟨p, ps, rfl, hq, hT, nd, h64, q⟩ := h
  refine hnzq ?_; clear hnzq
  refine Classical.byContradiction fun hnzq => ?_; obtain ⟨u, rfl, rx⟩ := vals1 r
  refine hnzq ?_; clear hnzq
  cases rx
  refine Classical.byContradiction fun hnzq => ?_; obtain ⟨its, r', pl, hz⟩ := I.list hq
  refine hnzq ?_; clear hnzq
  have eI := refs_of3 r'
  subst eI
  have tot : ∀ i j, i < ps.length → j < ps.length → i ≠ j → ltN3 (ps.getD i ((0, 0, 0, 0) : TN3)) (ps.getD j ((0, 0, 0, 0) : TN3)) = false → ltN3 (ps.getD j ((0, 0, 0, 0) : TN3)) (ps.getD i ((0, 0, 0, 0) : TN3)) = true := fun i j hi hj ne => by
    refine ltN3_tot _ _ fun e => ?_
    rw [List.getD_eq_getElem?_getD, List.getElem?_eq_getElem hi, List.getD_eq_getElem?_getD, List.getElem?_eq_getElem hj] at e
    have pw := List.pairwise_iff_getElem.mp nd
    have e' : (ps[i].2.1, ps[i].2.2.1) = (ps[j].2.1, ps[j].2.2.1) := e
    rcases Nat.lt_trichotomy i j with c | c | c
    · exact pw i j (by rw [List.length_map]; exact hi) (by rw [List.length_map]; exact hj) c (by rw [List.getElem_map, List.getElem_map]; exact e')
    · exact ne c
    · exact pw j i (by rw [List.length_map]; exact hj) (by rw [List.length_map]; exact hi) c (by rw [List.getElem_map, List.getElem_map]; exact e'.symm)
  have lI : (ps.map fun q => Value.ref q.1).length = ps.length := List.length_map _
  refine Calls.call_function_entry kind_sorted plain_sorted entry_sorted (args_sorted1 _) ?_
  unfold Builtin.«sorted»
  refine wpAny_bind (m := checkCount "sorted" 1 1 _) (wpAny_pure ?_)
  refine wpAny_bind (collect_list pl.isList ?_)
  refine wpAny_bind (wpAny_newList ?_)
  generalize hvs : (ps.map fun q => Value.ref q.1) = vs at lI
  have hsz : ((s.heap.push (seqObj "list" #[] 0)).update s.heap.objs.size (Obj.mapSeq (· ++ vs.toArray))).objs.size = s.heap.objs.size + 1 := by
    rw [Heap.size_update, size_push']
  have hoL : (((s.heap.push (seqObj "list" #[] 0)).update s.heap.objs.size (Obj.mapSeq (· ++ vs.toArray))).push (seqObj "list" vs.toArray 0)).get? (s.heap.objs.size + 1) = some (seqObj "list" vs.toArray 0) := by
    rw [← hsz]; exact Heap.get?_push_size _ rfl
  show wpAny _ _ _ _ _ { s with heap := ((s.heap.push (seqObj "list" #[] 0)).update s.heap.objs.size (Obj.mapSeq (· ++ vs.toArray))).push (seqObj "list" vs.toArray 0) }
  rw [hsz]
  have inj : RkInj vs.length (rkG ltN3 ps ((0, 0, 0, 0) : TN3)) := lI ▸ rkG_inj ltN3_trans ltN3_irr tot
  refine wpAny_bind (wpAny_holding (wpAny_call_entry slot_list_sort ⟨_, hoL, rfl⟩ entry_list_sort (list_sort_rk (rk := rkG ltN3 ps ((0, 0, 0, 0) : TN3)) hoL (by lia) inj (fun h2 => ?_) fun qa hq hs => ⟨_, rfl, ?_⟩) (args_list_sort _)))
  · have tupAt : ∀ q ∈ ps, ∃ (o : Obj) (t1 t2 : Tok) (n : Nat), s.heap.get? q.1 = some o ∧ o.cls = .type "tuple" ∧ o.data = .seq #[.int q.2.1 t1, .int q.2.2.1 t2, .ref q.2.2.2] n := fun q hq => by
      refine Classical.byContradiction fun hnzq => ?_; obtain ⟨us, ru, ⟨o, e1, e2, n, e3⟩, _⟩ := I.tuple (.inl (.inl (hT q hq)))
      refine hnzq ?_; clear hnzq
      obtain ⟨u1, u2, u3, rfl, r1, r2, r3⟩ : ∃ u1 u2 u3, us = [u1, u2, u3] ∧ RelV (.int q.2.1) u1 ∧ RelV (.int q.2.2.1) u2 ∧ RelV (.ref q.2.2.2) u3 := by
        cases ru with
        | cons a b => cases b with
          | cons c d => cases d with
            | cons e f => cases f; exact ⟨_, _, _, rfl, a, c, e⟩
      obtain ⟨t1, rfl⟩ := r1
      obtain ⟨t2, rfl⟩ := r2
      cases r3
      exact ⟨o, t1, t2, n, e1, e2, e3⟩
    have stay : ∀ a ob, s.heap.get? a = some ob → (midHeap (((s.heap.push (seqObj "list" #[] 0)).update s.heap.objs.size (Obj.mapSeq (· ++ vs.toArray))).push (seqObj "list" vs.toArray 0)) (s.heap.objs.size + 1) vs).get? a = some ob := fun a ob e => by
      have la := Heap.lt_size e
      rw [midHeap_old (Nat.ne_of_lt (Nat.lt_succ_of_lt la)) (by rw [size_push', Heap.size_update, size_push']; exact Nat.lt_succ_of_lt (Nat.lt_succ_of_lt la)), Heap.get?_push_ne _ _ _ (by rw [Heap.size_update, size_push']; exact Nat.ne_of_lt (Nat.lt_succ_of_lt la)), Heap.get?_update_ne _ _ _ _ (Nat.ne_of_lt la)]
      exact Heap.get?_push_of_some _ e
    have tupM : ∀ q ∈ ps, ∃ (o : Obj) (t1 t2 : Tok) (n : Nat), (midHeap (((s.heap.push (seqObj "list" #[] 0)).update s.heap.objs.size (Obj.mapSeq (· ++ vs.toArray))).push (seqObj "list" vs.toArray 0)) (s.heap.objs.size + 1) vs).get? q.1 = some o ∧ o.cls = .type "tuple" ∧ o.data = .seq #[.int q.2.1 t1, .int q.2.2.1 t2, .ref q.2.2.2] n := fun q hq => by
      refine Classical.byContradiction fun hnzq => ?_; obtain ⟨o, t1, t2, n, e1, e2, e3⟩ := tupAt q hq
      refine hnzq ?_; clear hnzq
      exact ⟨o, t1, t2, n, stay _ _ e1, e2, e3⟩
    refine Classical.byContradiction fun hnzq => ?_; obtain ⟨fs, kt, lf, hv⟩ := katTups3 tupM
    refine hnzq ?_; clear hnzq
    rw [hvs] at kt
    refine kat_kind (fs := fs) (T := Value.type "int") kt (by lia) (fun v hv' => ?_) (by decide) ⟨rfl, fun i j C hi hj dn hC => ?_⟩
    · refine Classical.byContradiction fun hnzq => ?_; obtain ⟨x, t, rfl⟩ := hv v hv'
      refine hnzq ?_; clear hnzq
      exact Looks.of_pure rfl
    · have hi2 : i < ps.length := by lia
      have hj2 : j < ps.length := by lia
      rw [rkG_iff ltN3_trans ltN3_irr tot hi2 hj2 dn, List.getD_eq_getElem?_getD, List.getElem?_eq_getElem hi2, List.getD_eq_getElem?_getD, List.getElem?_eq_getElem hj2] at hC
      have nij := tot i j hi2 hj2 dn
      refine Classical.byContradiction fun hnzq => ?_; obtain ⟨oi, i1, i2, ni, gi, _, di⟩ := tupM ps[i] (List.getElem_mem hi2)
      refine hnzq ?_; clear hnzq
      refine Classical.byContradiction fun hnzq => ?_; obtain ⟨oj, j1, j2, nj, gj, _, dj⟩ := tupM ps[j] (List.getElem_mem hj2)
      refine hnzq ?_; clear hnzq
      have vi : vs.getD i Value.none = Value.ref ps[i].1 := by rw [← hvs, List.getD_eq_getElem?_getD, List.getElem?_map, List.getElem?_eq_getElem hi2]; rfl
      have vj : vs.getD j Value.none = Value.ref ps[j].1 := by rw [← hvs, List.getD_eq_getElem?_getD, List.getElem?_map, List.getElem?_eq_getElem hj2]; rfl
      show wpAny _ _ (keyLt' _ (vs.getD i Value.none) (vs.getD j Value.none)) C _ _
      rw [vi, vj]
      refine kat_lt gi di gj dj ?_
      show KatLex _ _ _ _ _ _ [(Value.int ps[i].2.1 i1, Value.int ps[j].2.1 j1), (Value.int ps[i].2.2.1 i2, Value.int ps[j].2.2.1 j2), (Value.ref ps[i].2.2.2, Value.ref ps[j].2.2.2)] 0 _
      have ne2 : ps[i].2.1 = ps[j].2.1 → ps[i].2.2.1 ≠ ps[j].2.2.1 := fun e f => by
        have pw := List.pairwise_iff_getElem.mp nd
        have e' : (ps[i].2.1, ps[i].2.2.1) = (ps[j].2.1, ps[j].2.2.1) := by rw [e, f]
        rcases Nat.lt_trichotomy i j with c | c | c
        · exact pw i j (by rw [List.length_map]; exact hi2) (by rw [List.length_map]; exact hj2) c (by rw [List.getElem_map, List.getElem_map]; exact e')
        · exact dn c
        · exact pw j i (by rw [List.length_map]; exact hj2) (by rw [List.length_map]; exact hi2) c (by rw [List.getElem_map, List.getElem_map]; exact e'.symm)
      have hC' : C (ltN3 ps[i] ps[j]) _ := hC
      refine kat_cons (wpAny_eqBool_int ?_)
      by_cases e : ps[i].2.1 = ps[j].2.1
      · rw [show (ps[i].2.1 == ps[j].2.1) = true from beq_iff_eq.mpr e]
        rw [show ltN3 ps[i] ps[j] = decide (ps[i].2.2.1 < ps[j].2.2.1) from decide_eq_decide.mpr (by (clear I hq hT nd h64 q r hz r' pl tot hvs lI hsz hoL inj h2 tupAt stay tupM kt lf hv hi hj dn hC nij gi di gj dj vi vj ne2 hC'; omega))] at hC'
        refine kat_yes (kat_cons (wpAny_eqBool_int ?_))
        rw [show (ps[i].2.2.1 == ps[j].2.2.1) = false from beq_eq_false_iff_ne.mpr (ne2 e)]
        refine kat_no ?_
        show wpAny _ _ (oneLt' false _ _) _ _ _
        refine kat_one _ _ (lt_int hC')
      · rw [show (ps[i].2.1 == ps[j].2.1) = false from beq_eq_false_iff_ne.mpr e]
        rw [show ltN3 ps[i] ps[j] = decide (ps[i].2.1 < ps[j].2.1) from decide_eq_decide.mpr (by (clear I hq hT nd h64 q r hz r' pl tot hvs lI hsz hoL inj h2 tupAt stay tupM kt lf hv hi hj dn hC nij gi di gj dj vi vj ne2 hC'; omega))] at hC'
        refine kat_no ?_
        show wpAny _ _ (oneLt' true _ _) _ _ _
        exact oneLt_int hC'
  · have mem : ∀ i ∈ qa.toList, i < ps.length := fun i m => by
      have := List.mem_range.mp (hq.mem_iff.mp m)
      lia
    obtain ⟨e, he⟩ := sortedAll_at s.heap vs (outOf vs qa).toArray
    refine wpAny_pure ⟨_, rfl, .ref (s.heap.objs.size + 1), _, I.laid (t' := s.toks) (fun b o e => sortedAll_old e) (Nat.le_succ _) (show ObjOk X.prog X.w _ _ _ (.lst ((qa.toList.map fun i => ps.getD i ((0, 0, 0, 0) : TN3)).map fun q => V.ref q.1)) from ⟨?_, outOf vs qa, e, ?_, he⟩), rfl, q _ (qa.toList.map fun i => ps.getD i ((0, 0, 0, 0) : TN3)) (I.hok.fresh (Nat.le_succ _)) ?_ ?_⟩
    · rw [List.length_map, List.length_map, Array.length_toList, hq.size, sizeLine_eq]
      lia
    · rw [List.map_map]
      refine paired_map2 _ fun i m => ?_
      show vs.getD i Value.none = Value.ref (ps.getD i ((0, 0, 0, 0) : TN3)).1
      rw [← hvs, List.getD_eq_getElem?_getD, List.getElem?_map, List.getElem?_eq_getElem (mem i m), List.getD_eq_getElem?_getD, List.getElem?_eq_getElem (mem i m)]
      rfl
    · have e : (List.range vs.length).map (fun i => ps.getD i ((0, 0, 0, 0) : TN3)) = ps := by
        apply List.ext_getElem
        · simp [lI]
        · intro i h1 h2
          simp [h2]
      exact (hq.map _).trans (by rw [e])
    · refine List.pairwise_iff_getElem.mpr fun i j h1 h2 hij => ?_
      have n1 : i < vs.length := by rw [List.length_map, Array.length_toList, hq.size] at h1; exact h1
      have n2 : j < vs.length := by rw [List.length_map, Array.length_toList, hq.size] at h2; exact h2
      have le := hs i j (Nat.le_of_lt hij) n2
      have ne : gk (rkG ltN3 ps ((0, 0, 0, 0) : TN3)) qa i ≠ gk (rkG ltN3 ps ((0, 0, 0, 0) : TN3)) qa j := fun e => Nat.ne_of_lt hij (hq.ne inj n1 n2 e)
      have lt : rkG ltN3 ps ((0, 0, 0, 0) : TN3) (qa.getD i 0) < rkG ltN3 ps ((0, 0, 0, 0) : TN3) (qa.getD j 0) := Nat.lt_of_le_of_ne le ne
      have m1 : qa.getD i 0 < ps.length := by rw [← lI]; exact hq.lt n1
      have m2 : qa.getD j 0 < ps.length := by rw [← lI]; exact hq.lt n2
      have lt2 := rkG_iff ltN3_trans ltN3_irr tot m1 m2 (hq.dif n1 n2 (Nat.ne_of_lt hij))
      rw [decide_eq_true lt] at lt2
      have z1 : i < qa.size := by rw [hq.size]; exact n1
      have z2 : j < qa.size := by rw [hq.size]; exact n2
      rw [List.getElem_map, List.getElem_map, Array.getElem_toList, Array.getElem_toList, ← getD_get z1, ← getD_get z2]
      exact lt2.symm
theorem vals_pt : ∀ {xs : List V} {us : List Value}, xs.length = us.length → (∀ (j : Nat) x u, xs[j]? = some x → us[j]? = some u → RelV x u) → Vals xs us
  | [], [], _, _ => .nil
  | x :: xs, u :: us, h, r => .cons (r 0 x u rfl rfl) (vals_pt (by simpa using h) fun j y v e1 e2 => r (j + 1) y v (by simpa using e1) (by simpa using e2))
theorem call_listD (hc : X.calm = true) : CallR X (.type "list") (fun xs H Q => ∃ (d : Addr) (ps : List (Str × V)), xs = [.ref d] ∧ H d = some (.dK (ps.map fun p => (Sum.inr p.1, p.2))) ∧ ps.length ≤ 1000 ∧ ∀ l : Addr, H l = none → Q (.ref l) (upd H l (.lst (ps.map fun p => V.str p.1)))) := by
  intro pins s σ H xs us Q I r h
  refine Classical.byContradiction fun hnzq => ?_; obtain ⟨d, ps, rfl, ed, h64, q⟩ := h
  refine hnzq ?_; clear hnzq
  refine Classical.byContradiction fun hnzq => ?_; obtain ⟨u, rfl, rx⟩ := vals1 r
  refine hnzq ?_; clear hnzq
  cases rx
  refine Classical.byContradiction fun hnzq => ?_; obtain ⟨hsz, hd, vs, rel, dd⟩ := dk_of I.hok ed
  refine hnzq ?_; clear hnzq
  obtain ⟨ep, da⟩ := dd.dictAt
  have lv : vs.length = ps.length := by rw [← paired_len rel, List.length_map]
  refine PySem.W.kdl_call (PySem.W.kdl_dict (knd := mixKind X.prog X.w) (kvs := vs) (ep := ep) hd) (I.ok.hd hc) da (by rw [lv, sizeLine_eq]; lia) fun h' tk acc c hk hS hacc => ?_
  obtain ⟨ha, hp⟩ := hacc
  have vv : Vals (ps.map fun p => V.str p.1) acc.toList := by
    refine vals_pt (by simp [ha, lv]) fun j x u e1 e2 => ?_
    refine Classical.byContradiction fun hnzq => ?_; obtain ⟨k, y, e3, e4⟩ := hp j u (by rw [← Array.getElem?_toList]; exact e2)
    refine hnzq ?_; clear hnzq
    rw [List.getElem?_map] at e1
    cases e5 : ps[j]? with
    | none => rw [e5] at e1; cases e1
    | some p =>
      rw [e5] at e1
      refine Classical.byContradiction fun hnzq => ?_; obtain ⟨z, e6, e7, _⟩ := paired_get rel (show (ps.map fun p => ((Sum.inr p.1 : Key), p.2))[j]? = some (Sum.inr p.1, p.2) by rw [List.getElem?_map, e5]; rfl)
      refine hnzq ?_; clear hnzq
      rw [e3] at e6
      cases e6
      have e7' : (Sum.inr p.1 : Key) = k := e7
      subst e7'
      obtain rfl : V.str p.1 = x := Option.some.inj e1
      exact Value.isStrOf_shape e4
  exact ⟨.ref s.heap.objs.size, _, I.laid (t' := tk) hk (Nat.le_refl _) (show ObjOk X.prog X.w _ _ _ (.lst (ps.map fun p => V.str p.1)) from ⟨by rw [List.length_map, sizeLine_eq]; lia, acc.toList, c, vv, by rw [Array.toArray_toList]; exact hS⟩), rfl, q _ (I.hok.fresh (Nat.le_refl _))⟩
theorem op_isB : OpR X (compareOp .Is) (fun x y H Q => ∃ a b : Bool, x = .bl a ∧ y = .bl b ∧ Q (.bl (a == b)) H) := by
  intro pins s σ H x y v u Q I rx ry h
  refine Classical.byContradiction fun hnzq => ?_; obtain ⟨a, b, rfl, rfl, q⟩ := h
  refine hnzq ?_; clear hnzq
  cases rx
  cases ry
  refine wpAny_is_plain (by cases a <;> cases b <;> rfl) ⟨.bl (a == b), H, I, ?_, q⟩
  cases a <;> cases b <;> rfl
end
end L2
namespace K15
theorem lcn {α : Type _} {C : List α → Prop} (us : List α) (n : Nat) (h : us.length = n + 1) (f : ∀ a l, l.length = n → C (a :: l)) : C us := by
  cases us with
  | nil => cases h
  | cons a l => exact f a l (Nat.succ.inj h)
theorem lcz {α : Type _} {C : List α → Prop} (us : List α) (h : us.length = 0) (f : C []) : C us := by
  cases us with
  | nil => exact f
  | cons a l => cases h
@[elab_as_elim] theorem ln1 {α : Type _} {C : List α → Prop} (us : List α) (f : ∀ a0, C [a0]) (h : us.length = 1) : C us :=
  lcn us 0 h fun a0 l0 h0 => lcz (C := fun l => C (a0 :: l)) l0 h0 (f a0)
@[elab_as_elim] theorem ln2 {α : Type _} {C : List α → Prop} (us : List α) (f : ∀ a0 a1, C [a0, a1]) (h : us.length = 2) : C us :=
  lcn us 1 h fun a0 l0 h0 => lcn (C := fun l => C (a0 :: l)) l0 0 h0 fun a1 l1 h1 => lcz (C := fun l => C (a0 :: a1 :: l)) l1 h1 (f a0 a1)
@[elab_as_elim] theorem ln3 {α : Type _} {C : List α → Prop} (us : List α) (f : ∀ a0 a1 a2, C [a0, a1, a2]) (h : us.length = 3) : C us :=
  lcn us 2 h fun a0 l0 h0 => lcn (C := fun l => C (a0 :: l)) l0 1 h0 fun a1 l1 h1 => lcn (C := fun l => C (a0 :: a1 :: l)) l1 0 h1 fun a2 l2 h2 => lcz (C := fun l => C (a0 :: a1 :: a2 :: l)) l2 h2 (f a0 a1 a2)
@[elab_as_elim] theorem ln4 {α : Type _} {C : List α → Prop} (us : List α) (f : ∀ a0 a1 a2 a3, C [a0, a1, a2, a3]) (h : us.length = 4) : C us :=
  lcn us 3 h fun a0 l0 h0 => lcn (C := fun l => C (a0 :: l)) l0 2 h0 fun a1 l1 h1 => lcn (C := fun l => C (a0 :: a1 :: l)) l1 1 h1 fun a2 l2 h2 => lcn (C := fun l => C (a0 :: a1 :: a2 :: l)) l2 0 h2 fun a3 l3 h3 => lcz (C := fun l => C (a0 :: a1 :: a2 :: a3 :: l)) l3 h3 (f a0 a1 a2 a3)
@[elab_as_elim] theorem ln5 {α : Type _} {C : List α → Prop} (us : List α) (f : ∀ a0 a1 a2 a3 a4, C [a0, a1, a2, a3, a4]) (h : us.length = 5) : C us :=
  lcn us 4 h fun a0 l0 h0 => lcn (C := fun l => C (a0 :: l)) l0 3 h0 fun a1 l1 h1 => lcn (C := fun l => C (a0 :: a1 :: l)) l1 2 h1 fun a2 l2 h2 => lcn (C := fun l => C (a0 :: a1 :: a2 :: l)) l2 1 h2 fun a3 l3 h3 => lcn (C := fun l => C (a0 :: a1 :: a2 :: a3 :: l)) l3 0 h3 fun a4 l4 h4 => lcz (C := fun l => C (a0 :: a1 :: a2 :: a3 :: a4 :: l)) l4 h4 (f a0 a1 a2 a3 a4)
@[elab_as_elim] theorem ln6 {α : Type _} {C : List α → Prop} (us : List α) (f : ∀ a0 a1 a2 a3 a4 a5, C [a0, a1, a2, a3, a4, a5]) (h : us.length = 6) : C us :=
  lcn us 5 h fun a0 l0 h0 => lcn (C := fun l => C (a0 :: l)) l0 4 h0 fun a1 l1 h1 => lcn (C := fun l => C (a0 :: a1 :: l)) l1 3 h1 fun a2 l2 h2 => lcn (C := fun l => C (a0 :: a1 :: a2 :: l)) l2 2 h2 fun a3 l3 h3 => lcn (C := fun l => C (a0 :: a1 :: a2 :: a3 :: l)) l3 1 h3 fun a4 l4 h4 => lcn (C := fun l => C (a0 :: a1 :: a2 :: a3 :: a4 :: l)) l4 0 h4 fun a5 l5 h5 => lcz (C := fun l => C (a0 :: a1 :: a2 :: a3 :: a4 :: a5 :: l)) l5 h5 (f a0 a1 a2 a3 a4 a5)
open PySem L2
noncomputable def top (i : Nat) : Stmt := PySem.Challenge.pw_bellbook_k15_whole_line_first_come.main.body.getD i (.Pass ⟨0, 0, 0, 0⟩)
set_option genInjectivity false in
set_option genSizeOf false in
set_option genSizeOfSpec false in
structure Bl (mg : Str → Option Value) : Prop where
  b_all : mg "all" = none
  b_any : mg "any" = none
  b_bool : mg "bool" = none
  b_int : mg "int" = none
  b_isinstance : mg "isinstance" = none
  b_len : mg "len" = none
  b_list : mg "list" = none
  b_min : mg "min" = none
  b_range : mg "range" = none
  b_set : mg "set" = none
  b_sorted : mg "sorted" = none
  b_str : mg "str" = none
  b_sum : mg "sum" = none
  b_tuple : mg "tuple" = none
set_option genInjectivity false in
set_option genSizeOf false in
set_option genSizeOfSpec false in
structure Co (mg : Str → Option Value) where
  t_GREATEST_AMOUNT : Tok
  t_GREATEST_PRICE : Tok
  t_LEFT : Tok
  t_LETTERS : Tok
  t_LETTERS_AND_FIGURES : Tok
  t_LONGEST_NAME : Tok
  t_MOST_PEAKS : Tok
  t_NAME : Tok
  t_PEAK : Tok
  t_PRICE : Tok
  t_SHOWN : Tok
  t_SIDE : Tok
  m_GREATEST_AMOUNT : mg "GREATEST_AMOUNT" = some (.int 1000000000 t_GREATEST_AMOUNT)
  m_GREATEST_PRICE : mg "GREATEST_PRICE" = some (.int 1000000000 t_GREATEST_PRICE)
  m_LEFT : mg "LEFT" = some (.int 4 t_LEFT)
  m_LETTERS : mg "LETTERS" = some (.str "abcdefghijklmnopqrstuvwxyz" t_LETTERS)
  m_LETTERS_AND_FIGURES : mg "LETTERS_AND_FIGURES" = some (.str "abcdefghijklmnopqrstuvwxyz0123456789" t_LETTERS_AND_FIGURES)
  m_LONGEST_NAME : mg "LONGEST_NAME" = some (.int 12 t_LONGEST_NAME)
  m_MOST_PEAKS : mg "MOST_PEAKS" = some (.int 16 t_MOST_PEAKS)
  m_NAME : mg "NAME" = some (.int 0 t_NAME)
  m_PEAK : mg "PEAK" = some (.int 6 t_PEAK)
  m_PRICE : mg "PRICE" = some (.int 3 t_PRICE)
  m_SHOWN : mg "SHOWN" = some (.int 5 t_SHOWN)
  m_SIDE : mg "SIDE" = some (.int 2 t_SIDE)
set_option genInjectivity false in
set_option genSizeOf false in
set_option genInjectivity false in
set_option genSizeOf false in
set_option genSizeOfSpec false in
structure Er (K : PySem.W.Frag) (mg : Str → Option Value) where
  c_BadName : Addr
  c_BadNumber : Addr
  c_BadSide : Addr
  c_BourseError : Addr
  c_NoOrder : Addr
  c_Twice : Addr
  m_BadName : mg "BadName" = some (.ref c_BadName)
  m_BadNumber : mg "BadNumber" = some (.ref c_BadNumber)
  m_BadSide : mg "BadSide" = some (.ref c_BadSide)
  m_BourseError : mg "BourseError" = some (.ref c_BourseError)
  m_NoOrder : mg "NoOrder" = some (.ref c_NoOrder)
  m_Twice : mg "Twice" = some (.ref c_Twice)
  x_BadName : PySem.W.excIn K c_BadName [.type "ValueError", .type "Exception", .type "BaseException", .type "object"] "ValueError.__new__" = true
  e_BadName : PySem.W.exmOne K (.ref c_BadName) (.ref c_BourseError) = some true
  i_BadName_BadName : PySem.W.kitOne K (.ref c_BadName) (.ref c_BadName) = some true
  i_BadName_BadNumber : PySem.W.kitOne K (.ref c_BadName) (.ref c_BadNumber) = some false
  i_BadName_BadSide : PySem.W.kitOne K (.ref c_BadName) (.ref c_BadSide) = some false
  i_BadName_BourseError : PySem.W.kitOne K (.ref c_BadName) (.ref c_BourseError) = some true
  i_BadName_NoOrder : PySem.W.kitOne K (.ref c_BadName) (.ref c_NoOrder) = some false
  i_BadName_Twice : PySem.W.kitOne K (.ref c_BadName) (.ref c_Twice) = some false
  x_BadNumber : PySem.W.excIn K c_BadNumber [.type "ValueError", .type "Exception", .type "BaseException", .type "object"] "ValueError.__new__" = true
  e_BadNumber : PySem.W.exmOne K (.ref c_BadNumber) (.ref c_BourseError) = some true
  i_BadNumber_BadName : PySem.W.kitOne K (.ref c_BadNumber) (.ref c_BadName) = some false
  i_BadNumber_BadNumber : PySem.W.kitOne K (.ref c_BadNumber) (.ref c_BadNumber) = some true
  i_BadNumber_BadSide : PySem.W.kitOne K (.ref c_BadNumber) (.ref c_BadSide) = some false
  i_BadNumber_BourseError : PySem.W.kitOne K (.ref c_BadNumber) (.ref c_BourseError) = some true
  i_BadNumber_NoOrder : PySem.W.kitOne K (.ref c_BadNumber) (.ref c_NoOrder) = some false
  i_BadNumber_Twice : PySem.W.kitOne K (.ref c_BadNumber) (.ref c_Twice) = some false
  x_BadSide : PySem.W.excIn K c_BadSide [.type "ValueError", .type "Exception", .type "BaseException", .type "object"] "ValueError.__new__" = true
  e_BadSide : PySem.W.exmOne K (.ref c_BadSide) (.ref c_BourseError) = some true
  i_BadSide_BadName : PySem.W.kitOne K (.ref c_BadSide) (.ref c_BadName) = some false
  i_BadSide_BadNumber : PySem.W.kitOne K (.ref c_BadSide) (.ref c_BadNumber) = some false
  i_BadSide_BadSide : PySem.W.kitOne K (.ref c_BadSide) (.ref c_BadSide) = some true
  i_BadSide_BourseError : PySem.W.kitOne K (.ref c_BadSide) (.ref c_BourseError) = some true
  i_BadSide_NoOrder : PySem.W.kitOne K (.ref c_BadSide) (.ref c_NoOrder) = some false
  i_BadSide_Twice : PySem.W.kitOne K (.ref c_BadSide) (.ref c_Twice) = some false
  x_NoOrder : PySem.W.excIn K c_NoOrder [.type "ValueError", .type "Exception", .type "BaseException", .type "object"] "ValueError.__new__" = true
  e_NoOrder : PySem.W.exmOne K (.ref c_NoOrder) (.ref c_BourseError) = some true
  i_NoOrder_BadName : PySem.W.kitOne K (.ref c_NoOrder) (.ref c_BadName) = some false
  i_NoOrder_BadNumber : PySem.W.kitOne K (.ref c_NoOrder) (.ref c_BadNumber) = some false
  i_NoOrder_BadSide : PySem.W.kitOne K (.ref c_NoOrder) (.ref c_BadSide) = some false
  i_NoOrder_BourseError : PySem.W.kitOne K (.ref c_NoOrder) (.ref c_BourseError) = some true
  i_NoOrder_NoOrder : PySem.W.kitOne K (.ref c_NoOrder) (.ref c_NoOrder) = some true
  i_NoOrder_Twice : PySem.W.kitOne K (.ref c_NoOrder) (.ref c_Twice) = some false
  x_Twice : PySem.W.excIn K c_Twice [.type "ValueError", .type "Exception", .type "BaseException", .type "object"] "ValueError.__new__" = true
  e_Twice : PySem.W.exmOne K (.ref c_Twice) (.ref c_BourseError) = some true
  i_Twice_BadName : PySem.W.kitOne K (.ref c_Twice) (.ref c_BadName) = some false
  i_Twice_BadNumber : PySem.W.kitOne K (.ref c_Twice) (.ref c_BadNumber) = some false
  i_Twice_BadSide : PySem.W.kitOne K (.ref c_Twice) (.ref c_BadSide) = some false
  i_Twice_BourseError : PySem.W.kitOne K (.ref c_Twice) (.ref c_BourseError) = some true
  i_Twice_NoOrder : PySem.W.kitOne K (.ref c_Twice) (.ref c_NoOrder) = some false
  i_Twice_Twice : PySem.W.kitOne K (.ref c_Twice) (.ref c_Twice) = some true
  k_BadName : Bk.ExcK K c_BadName
  k_BadNumber : Bk.ExcK K c_BadNumber
  k_BadSide : Bk.ExcK K c_BadSide
  k_NoOrder : Bk.ExcK K c_NoOrder
  k_Twice : Bk.ExcK K c_Twice
noncomputable def LET : Str := "abcdefghijklmnopqrstuvwxyz"
noncomputable def LFS : Str := "abcdefghijklmnopqrstuvwxyz0123456789"
noncomputable def nameB (z : Str) : Bool := !decide (z = "") && (decide (z.cps.size ≤ 12) && (decide (z.cps.getD 0 0 ∈ LET.cps.toList) && (List.range z.cps.size).all fun i => decide (z.cps.getD i 0 ∈ LFS.cps.toList)))
theorem str_ne {z : Str} (h : ¬ z = "") : 0 < z.cps.size := by
  obtain ⟨a⟩ := z
  cases hs : a.size with
  | zero =>
    have : a = #[] := Array.eq_empty_of_size_eq_zero hs
    subst this
    exact absurd rfl h
  | succ n => exact Nat.succ_pos n
theorem at_sgn {z : Str} {i : Nat} (h : i < z.cps.size) : atI z.cps.toList (i : Int) = some (z.cps.getD i 0) := by
  refine atI_nat ?_
  rw [Array.getElem?_toList, Array.getElem?_eq_getElem h, Array.getD_eq_getD_getElem?, Array.getElem?_eq_getElem h]
  rfl
theorem name_iff (z : Str) : nameB z = true ↔ 0 < z.cps.toList.length ∧ z.cps.toList.length ≤ 12 ∧ z.cps.toList.getD 0 0 ∈ LET.cps.toList ∧ ∀ c ∈ z.cps.toList, c ∈ LFS.cps.toList := by
  have g : ∀ i, z.cps.getD i 0 = z.cps.toList.getD i 0 := fun i => by
    rw [Array.getD_eq_getD_getElem?, List.getD_eq_getElem?_getD, Array.getElem?_toList]
  unfold nameB
  simp only [Bool.and_eq_true, decide_eq_true_eq, List.all_eq_true, List.mem_range, Bool.not_eq_true', decide_eq_false_iff_not, g]
  have hl : z.cps.toList.length = z.cps.size := Array.length_toList
  constructor
  · rintro ⟨h1, h2, h3, h4⟩
    refine ⟨by rw [hl]; exact str_ne h1, by rw [hl]; exact h2, h3, fun c hc => ?_⟩
    obtain ⟨i, hi, rfl⟩ := List.mem_iff_getElem.mp hc
    have := h4 i (by rw [hl] at hi; exact hi)
    rwa [List.getD_eq_getElem?_getD, List.getElem?_eq_getElem hi] at this
  · rintro ⟨h1, h2, h3, h4⟩
    refine ⟨fun e => ?_, by rw [hl] at h2; exact h2, h3, fun i hi => ?_⟩
    · subst e; exact absurd h1 (by decide)
    · refine h4 _ ?_
      have hi' : i < z.cps.toList.length := by rw [hl]; exact hi
      rw [List.getD_eq_getElem?_getD, List.getElem?_eq_getElem hi']
      exact List.getElem_mem hi'
theorem fig_in (c : Nat) (h1 : 48 ≤ c) (h2 : c ≤ 57) : c ∈ LFS.cps.toList := by
  have : c = 48 ∨ c = 49 ∨ c = 50 ∨ c = 51 ∨ c = 52 ∨ c = 53 ∨ c = 54 ∨ c = 55 ∨ c = 56 ∨ c = 57 := by lia
  rcases this with rfl | rfl | rfl | rfl | rfl | rfl | rfl | rfl | rfl | rfl <;> decide +kernel
theorem int_digits {v : Int} (h0 : 0 ≤ v) : ∀ c ∈ (Str.ofString (toString v)).cps.toList, 48 ≤ c ∧ c ≤ 57 := by
  intro c hc
  rw [PyProof.Rows.signs_ofString] at hc
  obtain ⟨ch, hm, rfl⟩ := List.mem_map.mp hc
  rw [Int.toString_eq_repr, Int.repr_eq_if, if_pos h0, Nat.toList_repr] at hm
  exact PyProof.Rows.digit_range (Nat.isDigit_of_mem_toDigits (by decide) (by decide) hm)
theorem name_num {p : Str} {x : Nat} (hp : p.cps.toList = [x]) (hx : x ∈ LET.cps.toList) (hx2 : x ∈ LFS.cps.toList) {v : Int} (h0 : 0 ≤ v) (h1 : v < 10 ^ 11) : nameB (p ++ Str.ofString (toString v)) = true := by
  rw [name_iff, PyProof.Rows.cps_toList_append, hp]
  have hl : (Str.ofString (toString v)).cps.toList.length ≤ 11 := by
    have := PyProof.Rows.toString_length_le h0 (k := 11) (by decide) h1
    rw [Array.length_toList]; exact this
  refine ⟨?_, ?_, hx, fun c hc => ?_⟩
  · rw [List.length_append]; exact Nat.lt_of_lt_of_le Nat.zero_lt_one (Nat.le_add_right _ _)
  · rw [List.length_append]
    show 1 + _ ≤ 12
    lia
  · rcases List.mem_append.mp hc with hc | hc
    · rw [List.mem_singleton.mp hc]; exact hx2
    · obtain ⟨a, b⟩ := int_digits h0 c hc
      exact fig_in c a b
theorem num_size {p : Str} (hp : p.cps.size ≤ 1) {v : Int} (h0 : 0 ≤ v) (h1 : v < 10 ^ 11) : (p ++ Str.ofString (toString v)).length ≤ 12 ∧ p.length + (Str.ofString (toString v)).length ≤ 12 := by
  have := PyProof.Rows.toString_length_le h0 (k := 11) (by decide) h1
  have e : p.length = p.cps.size := rfl
  rw [Str.length_append]
  lia
noncomputable def shw (l pk : Int) : Int := if pk = 0 then l else if l < pk then l else pk
noncomputable def ordV (n w s : Str) (pr l sh pk : Int) : List V := [.str n, .str w, .str s, .int pr, .int l, .int sh, .int pk]
theorem ord_cut (n w s : Str) (pr l sh pk : Int) : ¬ (HT.sIx (ordV n w s pr l sh pk).length 0 none = 0 ∧ HT.sIx (ordV n w s pr l sh pk).length (ordV n w s pr l sh pk).length (some 4) = (ordV n w s pr l sh pk).length) := by
  show ¬ (HT.sIx 7 0 none = 0 ∧ HT.sIx 7 7 (some 4) = 7)
  decide
noncomputable def OrdOk (l sh pk : Int) : Prop := 1 ≤ sh ∧ sh ≤ l ∧ 0 ≤ pk ∧ (pk = 0 → sh = l)
noncomputable def pkOk (pk am : Int) : Bool := decide (pk = 0) || (decide (1 ≤ pk ∧ pk ≤ am) && decide (am ≤ 16 * pk))
theorem ordOk_made {l pk : Int} (hl : 1 ≤ l) (hp : pkOk pk l = true) : OrdOk l (shw l pk) pk := by
  unfold pkOk at hp
  simp only [Bool.or_eq_true, Bool.and_eq_true, decide_eq_true_eq] at hp
  unfold OrdOk shw
  rcases hp with rfl | ⟨⟨h1, h2⟩, h3⟩
  · simp; omega
  · rw [if_neg (by (exact Int.ne_of_gt (by assumption)))]
    split <;> (first | lia | omega)
noncomputable def sideB (s : Str) : Bool := decide (s = "buy") || decide (s = "sell")
noncomputable def numB (pr am pk : Int) : Bool := decide (1 ≤ pr ∧ pr ≤ 1000000000) && (decide (1 ≤ am ∧ am ≤ 1000000000) && pkOk pk am)
theorem side_in (z : Str) : inV (.str z) [.str "buy", .str "sell"] = sideB z := by
  unfold inV sideB
  show (("buy" : Str) == z || (("sell" : Str) == z || false)) = _
  rw [Bool.or_false]
  have h : ∀ a : Str, (a == z) = decide (z = a) := fun a => by
    by_cases e : z = a
    · subst e; simp
    · rw [decide_eq_false e]
      exact beq_eq_false_iff_ne.mpr fun q => e q.symm
  rw [h, h]
set_option genInjectivity false in
set_option genSizeOf false in
set_option genSizeOfSpec false in
structure Od where
  n : Str
  w : Str
  s : Str
  pr : Int
  l : Int
  sh : Int
  pk : Int
noncomputable def odV (o : Od) : List V := [.str o.n, .str o.w, .str o.s, .int o.pr, .int o.l, .int o.sh, .int o.pk]
noncomputable abbrev AO := Addr × Od
noncomputable def rf (p : AO) : V := .ref p.1
noncomputable def Ords (H : Hp) (ps : List AO) : Prop := ∀ p ∈ ps, H p.1 = some (.tup (odV p.2))
theorem Ords.same {H H' : Hp} {ps : List AO} (h : Ords H ps) (s : Same H H') : Ords H' ps := fun p hp => s _ _ (h p hp)
noncomputable def aheadB (s : Str) (p o : Int) : Bool := if s = "buy" then decide (o < p) else decide (p < o)
theorem at_sgn2 {z : Str} {i : Int} (h0 : 0 ≤ i) (h1 : i < (z.cps.size : Int)) : atI z.cps.toList i = some (z.cps.getD i.toNat 0) := by
  obtain ⟨k, rfl⟩ := Int.eq_ofNat_of_zero_le h0
  have hk : k < z.cps.size := by (exact Int.ofNat_lt.mp (by assumption))
  refine atI_nat ?_
  rw [Array.getElem?_toList, Array.getElem?_eq_getElem hk, Array.getD_eq_getD_getElem?]
  simp [hk]
noncomputable def place (s : Str) (p : Int) : List AO → Nat
  | [] => 0
  | x :: r => if aheadB s p x.2.pr = true then 0 else place s p r + 1
theorem place_le (s : Str) (p : Int) : ∀ ps : List AO, place s p ps ≤ ps.length
  | [] => Nat.le_refl _
  | x :: r => by
    unfold place
    have := place_le s p r
    rw [List.length_cons]
    split <;> (first | exact Nat.lt_succ_of_le (by assumption) | exact Nat.zero_le _ | omega)
theorem place_step (s : Str) (p : Int) : ∀ (ps : List AO) (k : Nat) (x : AO), ps[k]? = some x → k ≤ place s p ps → (aheadB s p x.2.pr = false → k + 1 ≤ place s p ps) ∧ (aheadB s p x.2.pr = true → k = place s p ps)
  | [], _, _, h, _ => by cases h
  | y :: r, 0, x, h, _ => by
    have e : y = x := Option.some.inj h
    subst e
    unfold place
    constructor
    · intro h; rw [if_neg (by rw [h]; exact Bool.false_ne_true)]; (exact Nat.succ_pos _)
    · intro h; rw [if_pos h]
  | y :: r, k + 1, x, h, hk => by
    have h' : r[k]? = some x := h
    unfold place at hk ⊢
    by_cases c : aheadB s p y.2.pr = true
    · rw [if_pos c] at hk; (contradiction)
    · rw [if_neg c] at hk ⊢
      obtain ⟨a, b⟩ := place_step s p r k x h' (by (exact Nat.le_of_succ_le_succ (by assumption)))
      exact ⟨fun z => by have := a z; (exact Nat.succ_lt_succ (by assumption)), fun z => by have := b z; lia⟩
noncomputable def ins (x : AO) (ps : List AO) : List AO := ps.take (place x.2.s x.2.pr ps) ++ x :: ps.drop (place x.2.s x.2.pr ps)
theorem mem_ins {x y : AO} {ps : List AO} (h : y ∈ ins x ps) : y = x ∨ y ∈ ps := by
  rcases List.mem_append.mp h with h | h
  · exact .inr (List.mem_of_mem_take h)
  · rcases List.mem_cons.mp h with h | h
    · exact .inl h
    · exact .inr (List.mem_of_mem_drop h)
theorem cut_take (ps : List AO) {k : Nat} (hk : k ≤ ps.length) : cutV (ps.map rf) none (some (k : Int)) = (ps.take k).map rf := by
  unfold cutV
  have h1 : HT.sIx (ps.map rf).length 0 none = 0 := rfl
  have h2 : HT.sIx (ps.map rf).length (ps.map rf).length (some (k : Int)) = k := by
    rw [List.length_map, HT.sIx_nat]; lia
  rw [h1, h2, List.drop_zero, Nat.sub_zero, List.map_take]
theorem cut_drop (ps : List AO) {k : Nat} (hk : k ≤ ps.length) : cutV (ps.map rf) (some (k : Int)) none = (ps.drop k).map rf := by
  unfold cutV
  have h1 : HT.sIx (ps.map rf).length (ps.map rf).length none = ps.length := by rw [List.length_map]; rfl
  have h2 : HT.sIx (ps.map rf).length 0 (some (k : Int)) = k := by
    rw [List.length_map, HT.sIx_nat]; lia
  rw [h1, h2, List.map_drop]
  exact List.take_of_length_le (by rw [List.length_drop, List.length_map]; (exact Nat.le_refl _))
theorem names_in (n : Str) : ∀ ps : List AO, inV (.str n) (ps.map fun x => V.str x.2.n) = decide (n ∈ ps.map fun x => x.2.n)
  | [] => rfl
  | x :: r => by
    have ih := names_in n r
    unfold inV at *
    rw [List.map_cons, List.any_cons, ih, List.map_cons]
    show ((x.2.n == n) || _) = _
    by_cases e : x.2.n = n
    · rw [e, beq_self_eq_true, Bool.true_or]
      exact (decide_eq_true List.mem_cons_self).symm
    · rw [beq_eq_false_iff_ne.mpr e, Bool.false_or]
      exact decide_eq_decide.mpr ⟨fun h => List.mem_cons_of_mem _ h, fun h => (List.mem_cons.mp h).elim (fun z => absurd z.symm e) id⟩
theorem names_flat (ps : List AO) : (ps.map fun x => V.str x.2.n).all flatV = true := by
  rw [List.all_map]; exact List.all_eq_true.mpr fun _ _ => rfl
noncomputable def behO (x : Od) (am : Int) : Od := ⟨x.n, x.w, x.s, x.pr, x.l - am, if x.sh = am ∧ am < x.l then shw (x.l - am) x.pk else x.sh - am, x.pk⟩
noncomputable def placeO (s : Str) (p : Int) : List Od → Nat
  | [] => 0
  | x :: r => if aheadB s p x.pr = true then 0 else placeO s p r + 1
theorem placeO_map (s : Str) (p : Int) : ∀ ps : List AO, placeO s p (ps.map (·.2)) = place s p ps
  | [] => rfl
  | x :: r => by
    rw [List.map_cons]
    unfold placeO place
    rw [placeO_map s p r]
noncomputable def insO (x : Od) (os : List Od) : List Od := os.take (placeO x.s x.pr os) ++ x :: os.drop (placeO x.s x.pr os)
theorem ins_map (x : AO) (ps : List AO) : (ins x ps).map (·.2) = insO x.2 (ps.map (·.2)) := by
  unfold ins insO
  rw [placeO_map, List.map_append, List.map_cons, List.map_take, List.map_drop]
noncomputable def servedO : List Od → Int → List Od
  | [], _ => []
  | x :: r, am => if x.l = am then r else if x.sh = am ∧ am < x.l then insO (behO x am) r else behO x am :: r
theorem servedO_cons (x : Od) (r : List Od) (am : Int) : servedO (x :: r) am = if x.l = am then r else if x.sh = am ∧ am < x.l then insO (behO x am) r else behO x am :: r := rfl
theorem at_zero (x : AO) (r : List AO) : atI ((x :: r).map rf) 0 = some (rf x) := atI_nat (j := 0) rfl
theorem cut_tail (x : AO) (ps : List AO) : cutV ((x :: ps).map rf) (some 1) none = ps.map rf := by
  have := cut_drop (x :: ps) (k := 1) (by rw [List.length_cons]; (exact Nat.succ_pos _))
  simpa using this
noncomputable def OkO (x : Od) : Prop := 1 ≤ x.sh ∧ x.sh ≤ x.l ∧ 0 ≤ x.pk ∧ (x.pk = 0 → x.sh = x.l)
theorem okO_beh {x : Od} {am : Int} (h : OkO x) (h1 : 1 ≤ am) (h2 : am ≤ x.sh) (h3 : x.l ≠ am) : OkO (behO x am) := by
  obtain ⟨a, b, c, d⟩ := h
  unfold OkO behO shw
  by_cases e : x.sh = am ∧ am < x.l
  · have : ¬ x.pk = 0 := fun z => by have := d z; lia
    simp only [if_pos e, if_neg this]
    refine ⟨?_, ?_, c, fun z => absurd z this⟩
    · split <;> lia
    · split <;> (first | exact Int.le_of_not_gt (by assumption) | exact Int.le_refl _ | omega)
  · simp only [if_neg e]
    refine ⟨by lia, by lia, c, fun z => by have := d z; lia⟩
theorem mem_insO {x y : Od} {os : List Od} (h : y ∈ insO x os) : y = x ∨ y ∈ os := by
  rcases List.mem_append.mp h with h | h
  · exact .inr (List.mem_of_mem_take h)
  · rcases List.mem_cons.mp h with h | h
    · exact .inl h
    · exact .inr (List.mem_of_mem_drop h)
theorem insO_perm (x : Od) (os : List Od) : (insO x os).Perm (x :: os) := by
  unfold insO
  refine List.perm_middle.trans (.cons _ ?_)
  rw [List.take_append_drop]
theorem served_ok {x : Od} {r : List Od} {am : Int} (h : ∀ y ∈ x :: r, OkO y) (h1 : 1 ≤ am) (h2 : am ≤ x.sh) : ∀ y ∈ servedO (x :: r) am, OkO y := by
  intro y hy
  rw [servedO_cons] at hy
  have hx := h x List.mem_cons_self
  split at hy
  · exact h y (List.mem_cons_of_mem _ hy)
  rename_i e
  split at hy
  · rcases mem_insO hy with rfl | hy
    · exact okO_beh hx h1 h2 e
    · exact h y (List.mem_cons_of_mem _ hy)
  · rcases List.mem_cons.mp hy with rfl | hy
    · exact okO_beh hx h1 h2 e
    · exact h y (List.mem_cons_of_mem _ hy)
theorem served_nd {x : Od} {r : List Od} {am : Int} (h : ((x :: r).map fun y => y.n).Nodup) : ((servedO (x :: r) am).map fun y => y.n).Nodup := by
  rw [servedO_cons]
  split
  · rw [List.map_cons, List.nodup_cons] at h; exact h.2
  split
  · refine ((insO_perm (behO x am) r).map (fun y => y.n)).nodup_iff.mpr ?_
    exact h
  · exact h
theorem nodup_map2 (ps : List AO) : (ps.map fun x => x.2.n) = (ps.map (·.2)).map fun y => y.n := by rw [List.map_map]; rfl
noncomputable def SGF : Str := "0123456789abcdefghijklmnopqrstuvwxyz"
noncomputable def RST : Str := "m7kq0za3bx"
theorem let_sz : LET.cps.size = 26 := by decide +kernel
theorem let_ok : LET.length ≤ sizeLine := szOk (by show LET.cps.size ≤ _; rw [let_sz]; decide)
theorem sgf_sz : SGF.cps.size = 36 := by decide +kernel
theorem sgf_ok : SGF.length ≤ sizeLine := szOk (by show SGF.cps.size ≤ _; rw [sgf_sz]; decide)
theorem rst_sz : RST.length = 10 := by decide +kernel
theorem one_sz (c : Nat) : (Str.mk #[c]).length = 1 := rfl
noncomputable def c1Of (k : Int) : Nat := LET.cps.getD (k % 26).toNat 0
noncomputable def c2Of (k : Int) : Nat := SGF.cps.getD (k / 26 % 36).toNat 0
noncomputable def restOf (h : Int) : Str := Txt.slice RST none (some (h % 11))
noncomputable def atOf (h : Int) : Int := h / 11 % (((restOf h).length : Int) + 1)
noncomputable def preOf (h : Int) : Str := Txt.slice (restOf h) none (some (atOf h))
noncomputable def sufOf (h : Int) : Str := Txt.slice (restOf h) (some (atOf h)) none
noncomputable def nmOf (k h : Int) : Str := (preOf h ++ (Str.mk #[c1Of k] ++ Str.mk #[c2Of k])) ++ sufOf h
noncomputable def nmChk (h a : Nat) : Bool :=
  let r := Txt.slice RST none (some (h : Int))
  let p := (Txt.slice r none (some (a : Int))).cps.toList
  let s := (Txt.slice r (some (a : Int)) none).cps.toList
  decide (r.length = h) && (decide (p.length + s.length ≤ 10) && ((match p with | [] => true | c :: _ => decide (c ∈ LET.cps.toList)) && (p.all (fun c => decide (c ∈ LFS.cps.toList)) && s.all (fun c => decide (c ∈ LFS.cps.toList)))))
theorem nm_chk : ((List.range 11).all fun h => (List.range (h + 1)).all fun a => nmChk h a) = true := by decide +kernel
theorem nm_parts (h : Int) : (preOf h).cps.toList.length + (sufOf h).cps.toList.length ≤ 10 ∧ ((preOf h).cps.toList = [] ∨ ∃ c r, (preOf h).cps.toList = c :: r ∧ c ∈ LET.cps.toList) ∧ (∀ c ∈ (preOf h).cps.toList, c ∈ LFS.cps.toList) ∧ (∀ c ∈ (sufOf h).cps.toList, c ∈ LFS.cps.toList) := by
  have h0 : 0 ≤ h % 11 := by lia
  have h1 : h % 11 < 11 := by lia
  obtain ⟨m, em⟩ := Int.eq_ofNat_of_zero_le h0
  have hm : m < 11 := by lia
  have k1 := List.all_eq_true.mp nm_chk m (List.mem_range.mpr hm)
  have er : restOf h = Txt.slice RST none (some (m : Int)) := by unfold restOf; rw [em]
  have k0 := List.all_eq_true.mp k1 0 (List.mem_range.mpr (by (exact Nat.succ_pos _)))
  have lr : (restOf h).length = m := by
    rw [er]
    unfold nmChk at k0
    simp only [Bool.and_eq_true, decide_eq_true_eq] at k0
    exact k0.1
  have a0 : 0 ≤ atOf h := by unfold atOf; exact Int.emod_nonneg _ (by lia)
  have a1 : atOf h < m + 1 := by unfold atOf; rw [lr]; exact Int.emod_lt_of_pos _ (by lia)
  obtain ⟨a, ea⟩ := Int.eq_ofNat_of_zero_le a0
  have k2 := List.all_eq_true.mp k1 a (List.mem_range.mpr (by lia))
  have ep : preOf h = Txt.slice (Txt.slice RST none (some (m : Int))) none (some (a : Int)) := by unfold preOf; rw [ea, er]
  have es : sufOf h = Txt.slice (Txt.slice RST none (some (m : Int))) (some (a : Int)) none := by unfold sufOf; rw [ea, er]
  rw [ep, es]
  unfold nmChk at k2
  simp only [Bool.and_eq_true, decide_eq_true_eq, List.all_eq_true] at k2
  obtain ⟨_, z1, z2, z3, z4⟩ := k2
  refine ⟨z1, ?_, z3, z4⟩
  cases e : (Txt.slice (Txt.slice RST none (some (m : Int))) none (some (a : Int))).cps.toList with
  | nil => exact .inl rfl
  | cons c r =>
    rw [e] at z2
    exact .inr ⟨c, r, rfl, of_decide_eq_true z2⟩
theorem let_mem : ((List.range 26).all fun i => decide (LET.cps.getD i 0 ∈ LET.cps.toList) && decide (LET.cps.getD i 0 ∈ LFS.cps.toList)) = true := by decide +kernel
theorem sgf_mem : ((List.range 36).all fun i => decide (SGF.cps.getD i 0 ∈ LFS.cps.toList)) = true := by decide +kernel
theorem nm_list (k h : Int) : (nmOf k h).cps.toList = (preOf h).cps.toList ++ ([c1Of k, c2Of k] ++ (sufOf h).cps.toList) := by
  unfold nmOf
  rw [PyProof.Rows.cps_toList_append, PyProof.Rows.cps_toList_append, PyProof.Rows.cps_toList_append, List.append_assoc]
  rfl
theorem nm_ok (k h : Int) : nameB (nmOf k h) = true := by
  rw [name_iff, nm_list]
  obtain ⟨p1, p2, p3, p4⟩ := nm_parts h
  have m1 := List.all_eq_true.mp let_mem (k % 26).toNat (List.mem_range.mpr (by lia))
  have m2 := List.all_eq_true.mp sgf_mem (k / 26 % 36).toNat (List.mem_range.mpr (by lia))
  simp only [Bool.and_eq_true, decide_eq_true_eq] at m1 m2
  refine ⟨?_, ?_, ?_, ?_⟩
  · simp only [List.length_append, List.length_cons]; lia
  · simp only [List.length_append, List.length_cons, List.length_nil]; lia
  · rcases p2 with e | ⟨c, r, e, hc⟩
    · rw [e]; exact m1.1
    · rw [e]; exact hc
  · intro c hc
    rcases List.mem_append.mp hc with hc | hc
    · exact p3 c hc
    rcases List.mem_append.mp hc with hc | hc
    · rcases List.mem_cons.mp hc with rfl | hc
      · exact m1.2
      · rw [List.mem_singleton.mp hc]; exact m2
    · exact p4 c hc
theorem nm_size (k h : Int) : (nmOf k h).cps.size ≤ 12 := by
  have := (name_iff _).mp (nm_ok k h)
  rw [Array.length_toList] at this
  exact this.2.1
theorem ins_cons (x y : AO) (r : List AO) : ins x (y :: r) = if aheadB x.2.s x.2.pr y.2.pr = true then x :: y :: r else y :: ins x r := by
  unfold ins
  rw [show place x.2.s x.2.pr (y :: r) = if aheadB x.2.s x.2.pr y.2.pr = true then 0 else place x.2.s x.2.pr r + 1 from rfl]
  split <;> simp
noncomputable def Srt (s : Str) (ps : List AO) : Prop := ps.Pairwise fun x y => aheadB s y.2.pr x.2.pr = false
theorem ahead_tr {s : Str} {a b c : Int} (h1 : aheadB s a b = true) (h2 : aheadB s c b = false) : aheadB s a c = true := by
  unfold aheadB at *
  split at h1
  · rw [if_pos (by assumption)] at h2 ⊢
    have := of_decide_eq_true h1
    have := of_decide_eq_false h2
    exact decide_eq_true (by omega)
  · rw [if_neg (by assumption)] at h2 ⊢
    have := of_decide_eq_true h1
    have := of_decide_eq_false h2
    exact decide_eq_true (by omega)
theorem ahead_as {s : Str} {a b : Int} (h1 : aheadB s a b = true) : aheadB s b a = false := by
  unfold aheadB at *
  split at h1
  · rw [if_pos (by assumption)]
    have := of_decide_eq_true h1
    exact decide_eq_false (by lia)
  · rw [if_neg (by assumption)]
    have := of_decide_eq_true h1
    exact decide_eq_false (by lia)
theorem srt_ins {x : AO} : ∀ {ps : List AO}, Srt x.2.s ps → Srt x.2.s (ins x ps)
  | [], _ => by
    show Srt x.2.s [x]
    exact List.pairwise_cons.mpr ⟨fun _ z => (by cases z), List.Pairwise.nil⟩
  | y :: r, h => by
    obtain ⟨h1, h2⟩ := List.pairwise_cons.mp h
    rw [ins_cons]
    split
    · rename_i c
      refine List.pairwise_cons.mpr ⟨fun w hw => ?_, h⟩
      rcases List.mem_cons.mp hw with rfl | hw
      · exact ahead_as c
      · exact ahead_as (ahead_tr c (h1 w hw))
    · rename_i c
      refine List.pairwise_cons.mpr ⟨fun w hw => ?_, srt_ins h2⟩
      rcases mem_ins hw with rfl | hw
      · simpa using c
      · exact h1 w hw
theorem od_cut (o : Od) : ¬ (HT.sIx (odV o).length 0 none = 0 ∧ HT.sIx (odV o).length (odV o).length (some 4) = (odV o).length) := by
  show ¬ (HT.sIx 7 0 none = 0 ∧ HT.sIx 7 7 (some 4) = 7)
  decide
set_option genInjectivity false in
set_option genSizeOf false in
set_option genSizeOfSpec false in
structure LineOk (sd : Str) (ps : List AO) : Prop where
  side : ∀ x ∈ ps, x.2.s = sd
  ok : ∀ x ∈ ps, OkO x.2
  nd : (ps.map fun x => x.2.n).Nodup
  srt : Srt sd ps
theorem lineOk_ins {sd : Str} {x : AO} {ps : List AO} (h : LineOk sd ps) (hs : x.2.s = sd) (hk : OkO x.2) (hn : x.2.n ∉ ps.map fun y => y.2.n) : LineOk sd (ins x ps) where
  side := fun y hy => by
    rcases mem_ins hy with rfl | hy
    · exact hs
    · exact h.side y hy
  ok := fun y hy => by
    rcases mem_ins hy with rfl | hy
    · exact hk
    · exact h.ok y hy
  nd := by
    have hp : (ins x ps).Perm (x :: ps) := by
      unfold ins
      refine List.perm_middle.trans (.cons _ ?_)
      rw [List.take_append_drop]
    refine (hp.map fun y => y.2.n).nodup_iff.mpr ?_
    exact List.nodup_cons.mpr ⟨hn, h.nd⟩
  srt := by
    have := srt_ins (x := x) (ps := ps) (by rw [hs]; exact h.srt)
    rw [hs] at this
    exact this
noncomputable def SrtO (s : Str) (os : List Od) : Prop := os.Pairwise fun x y => aheadB s y.pr x.pr = false
theorem srtO_map {s : Str} {ps : List AO} : SrtO s (ps.map (·.2)) ↔ Srt s ps := by
  unfold SrtO Srt
  exact List.pairwise_map
theorem served_srt {s : Str} {x : AO} {r : List AO} {am : Int} (h : Srt s (x :: r)) (hs : x.2.s = s) : SrtO s (servedO (x.2 :: r.map (·.2)) am) := by
  obtain ⟨h1, h2⟩ := List.pairwise_cons.mp h
  rw [servedO_cons]
  split
  · exact srtO_map.mpr h2
  split
  · have := srt_ins (x := (x.1, behO x.2 am)) (ps := r) (by show Srt x.2.s r; rw [hs]; exact h2)
    have e := ins_map (x.1, behO x.2 am) r
    rw [← e]
    refine srtO_map.mpr ?_
    have e2 : (x.1, behO x.2 am).2.s = s := hs
    rw [e2] at this
    exact this
  · refine List.pairwise_cons.mpr ⟨fun y hy => ?_, srtO_map.mpr h2⟩
    obtain ⟨z, hz, rfl⟩ := List.mem_map.mp hy
    exact h1 z hz
theorem served_side {s : Str} {x : Od} {r : List Od} {am : Int} (h : ∀ y ∈ x :: r, y.s = s) : ∀ y ∈ servedO (x :: r) am, y.s = s := by
  intro y hy
  rw [servedO_cons] at hy
  have hx := h x List.mem_cons_self
  split at hy
  · exact h y (List.mem_cons_of_mem _ hy)
  split at hy
  · rcases mem_insO hy with rfl | hy
    · exact hx
    · exact h y (List.mem_cons_of_mem _ hy)
  · rcases List.mem_cons.mp hy with rfl | hy
    · exact hx
    · exact h y (List.mem_cons_of_mem _ hy)
theorem lineOk_served {sd : Str} {x : AO} {r qs : List AO} {am : Int} (h : LineOk sd (x :: r)) (h1 : 1 ≤ am) (h2 : am ≤ x.2.sh) (e : qs.map (·.2) = servedO (x.2 :: r.map (·.2)) am) : LineOk sd qs where
  side := fun y hy => served_side (s := sd) (x := x.2) (r := r.map (·.2)) (am := am) (fun z hz => by
    rcases List.mem_cons.mp hz with rfl | hz
    · exact h.side x List.mem_cons_self
    · obtain ⟨w, hw, rfl⟩ := List.mem_map.mp hz
      exact h.side w (List.mem_cons_of_mem _ hw)) y.2 (by rw [← e]; exact List.mem_map.mpr ⟨y, hy, rfl⟩)
  ok := fun y hy => served_ok (x := x.2) (r := r.map (·.2)) (am := am) (fun z hz => by
    rcases List.mem_cons.mp hz with rfl | hz
    · exact h.ok x List.mem_cons_self
    · obtain ⟨w, hw, rfl⟩ := List.mem_map.mp hz
      exact h.ok w (List.mem_cons_of_mem _ hw)) h1 h2 y.2 (by rw [← e]; exact List.mem_map.mpr ⟨y, hy, rfl⟩)
  nd := by
    rw [nodup_map2, e]
    refine served_nd ?_
    have := h.nd
    rw [nodup_map2, List.map_cons] at this
    exact this
  srt := srtO_map.mp (by rw [e]; exact served_srt h.srt (h.side x List.mem_cons_self))
theorem eqs_nil {K : PySem.W.Frag} {H : Hp} {p l : Addr} {ps : List AO} {Q : VK} (neg : Bool) (hp : H p = some (.lst (ps.map rf))) (hl : H l = some (.lst [])) (q : Q (.bl (if neg then !decide (ps = []) else decide (ps = []))) H) : rEqD K neg (.ref p) (.ref l) H Q := by
  refine ⟨p, l, _, _, rfl, rfl, .inl (.inl hp), .inl (.inl hl), ?_⟩
  by_cases h : ps = []
  · subst h
    refine .inr ⟨rfl, fun _ => true, fun j hj => absurd hj (Nat.not_lt_zero _), ?_⟩
    cases neg <;> simpa using q
  · refine .inl ⟨by rw [List.length_map]; exact fun z => h (List.length_eq_zero_iff.mp z), ?_⟩
    rw [decide_eq_false h] at q
    cases neg <;> simpa using q
noncomputable def nIdx (nm : Str) : List AO → Nat
  | [] => 0
  | x :: r => if x.2.n = nm then 0 else nIdx nm r + 1
theorem nIdx_le (nm : Str) : ∀ ps : List AO, nIdx nm ps ≤ ps.length
  | [] => Nat.le_refl _
  | x :: r => by
    unfold nIdx
    have := nIdx_le nm r
    rw [List.length_cons]
    split <;> (first | exact Nat.lt_succ_of_le (by assumption) | exact Nat.zero_le _ | omega)
theorem nIdx_step (nm : Str) : ∀ (ps : List AO) (k : Nat) (x : AO), ps[k]? = some x → k ≤ nIdx nm ps → (¬ x.2.n = nm → k + 1 ≤ nIdx nm ps) ∧ (x.2.n = nm → k = nIdx nm ps)
  | [], _, _, h, _ => by cases h
  | y :: r, 0, x, h, _ => by
    have e : y = x := Option.some.inj h
    subst e
    unfold nIdx
    constructor
    · intro h; rw [if_neg h]; (exact Nat.succ_pos _)
    · intro h; rw [if_pos h]
  | y :: r, k + 1, x, h, hk => by
    have h' : r[k]? = some x := h
    unfold nIdx at hk ⊢
    by_cases c : y.2.n = nm
    · rw [if_pos c] at hk; omega
    · rw [if_neg c] at hk ⊢
      obtain ⟨a, b⟩ := nIdx_step nm r k x h' (by (exact Nat.le_of_succ_le_succ (by assumption)))
      exact ⟨fun z => by have := a z; (exact Nat.succ_lt_succ (by assumption)), fun z => by have := b z; lia⟩
theorem nIdx_at {nm : Str} : ∀ {ps : List AO} (h : nIdx nm ps < ps.length), (ps[nIdx nm ps]).2.n = nm
  | [], h => absurd h (Nat.not_lt_zero _)
  | y :: r, h => by
    by_cases c : y.2.n = nm
    · have e : nIdx nm (y :: r) = 0 := by unfold nIdx; rw [if_pos c]
      simp only [e]
      exact c
    · have e : nIdx nm (y :: r) = nIdx nm r + 1 := by
        show (if y.2.n = nm then 0 else nIdx nm r + 1) = _
        rw [if_neg c]
      have h' : nIdx nm r < r.length := by rw [e, List.length_cons] at h; (exact Nat.lt_of_succ_lt_succ (by assumption))
      have := nIdx_at h'
      simp only [e, List.getElem_cons_succ]
      exact this
theorem nIdx_no {nm : Str} : ∀ {ps : List AO}, nIdx nm ps = ps.length → ∀ x ∈ ps, ¬ x.2.n = nm
  | [], _, x, hx => by cases hx
  | y :: r, h, x, hx => by
    by_cases c : y.2.n = nm
    · have e : nIdx nm (y :: r) = 0 := by unfold nIdx; rw [if_pos c]
      rw [e, List.length_cons] at h; (contradiction)
    · have e : nIdx nm (y :: r) = nIdx nm r + 1 := by
        show (if y.2.n = nm then 0 else nIdx nm r + 1) = _
        rw [if_neg c]
      rw [e, List.length_cons] at h
      rcases List.mem_cons.mp hx with rfl | hx
      · exact c
      · exact nIdx_no (ps := r) (by lia) x hx
noncomputable def outL (ps : List AO) (k : Nat) : List AO := ps.take k ++ ps.drop (k + 1)
noncomputable def lessO (x : Od) (l : Int) : Od := ⟨x.n, x.w, x.s, x.pr, l, if l < x.sh then l else x.sh, x.pk⟩
noncomputable def putL (ps : List AO) (k : Nat) (y : AO) : List AO := ps.take k ++ y :: ps.drop (k + 1)
theorem mem_outL {ps : List AO} {k : Nat} {y : AO} (h : y ∈ outL ps k) : y ∈ ps := by
  rcases List.mem_append.mp h with h | h
  · exact List.mem_of_mem_take h
  · exact List.mem_of_mem_drop h
theorem mem_putL {ps : List AO} {k : Nat} {x y : AO} (h : y ∈ putL ps k x) : y = x ∨ y ∈ ps := by
  rcases List.mem_append.mp h with h | h
  · exact .inr (List.mem_of_mem_take h)
  · rcases List.mem_cons.mp h with h | h
    · exact .inl h
    · exact .inr (List.mem_of_mem_drop h)
theorem okO_less {x : Od} {l : Int} (h : OkO x) (h1 : 1 ≤ l) (h2 : l ≤ x.l) : OkO (lessO x l) := by
  obtain ⟨a, b, c, d⟩ := h
  unfold OkO lessO
  refine ⟨?_, ?_, c, fun z => ?_⟩
  · show 1 ≤ (if l < x.sh then l else x.sh); split <;> omega
  · show (if l < x.sh then l else x.sh) ≤ l; split <;> (first | exact Int.le_of_not_gt (by assumption) | exact Int.le_refl _ | omega)
  · have := d z
    show (if l < x.sh then l else x.sh) = l
    split <;> lia
theorem perm_map_ex {α β : Type} (f : α → β) : ∀ {l : List α} {m : List β}, m.Perm (l.map f) → ∃ l' : List α, l'.Perm l ∧ l'.map f = m
  | [], m, h => ⟨[], List.Perm.nil, by rw [List.map_nil] at h; rw [h.eq_nil]; rfl⟩
  | a :: l, m, h => by
    have ha : f a ∈ m := h.mem_iff.mpr (by rw [List.map_cons]; exact List.mem_cons_self)
    obtain ⟨s, t, rfl⟩ := List.append_of_mem ha
    have h2 : (s ++ t).Perm (l.map f) := (List.perm_middle.symm.trans h).cons_inv
    obtain ⟨l', hp, he⟩ := perm_map_ex f h2
    obtain ⟨l1, l2, rfl, e1, e2⟩ := List.map_eq_append_iff.mp he
    exact ⟨l1 ++ a :: l2, List.perm_middle.trans (hp.cons a), by rw [List.map_append, List.map_cons, e1, e2]⟩
theorem pw_unique {α : Type} {R : α → α → Prop} (asym : ∀ a b, R a b → ¬ R b a) : ∀ {l m : List α}, l.Perm m → l.Pairwise R → m.Pairwise R → l = m
  | [], m, h, _, _ => h.nil_eq
  | a :: l, [], h, _, _ => absurd h.length_eq (by simp)
  | a :: l, b :: m, h, p, q => by
    obtain ⟨p1, p2⟩ := List.pairwise_cons.mp p
    obtain ⟨q1, q2⟩ := List.pairwise_cons.mp q
    have e : a = b := by
      rcases List.mem_cons.mp (h.mem_iff.mp List.mem_cons_self) with e | ha
      · exact e
      · rcases List.mem_cons.mp (h.mem_iff.mpr (List.mem_cons_self : b ∈ b :: m)) with e | hb
        · exact e.symm
        · exact absurd (q1 a ha) (asym _ _ (p1 b hb))
    subst e
    rw [pw_unique asym h.cons_inv p2 q2]
noncomputable def rkE (sd : Str) (p : Int) : Int := if sd = "buy" then -p else p
theorem ahead_rk (sd : Str) (p q : Int) : aheadB sd p q = decide (rkE sd p < rkE sd q) := by
  unfold aheadB rkE
  split
  · exact decide_eq_decide.mpr (by lia)
  · rfl
noncomputable abbrev OS := Od × Int
noncomputable def Lt2 (sd : Str) (x y : OS) : Prop := rkE sd x.1.pr < rkE sd y.1.pr ∨ (rkE sd x.1.pr = rkE sd y.1.pr ∧ x.2 < y.2)
theorem lt2_asy (sd : Str) (a b : OS) (h : Lt2 sd a b) : ¬ Lt2 sd b a := by
  unfold Lt2 at *
  lia
noncomputable def insE (x : OS) (es : List OS) : List OS := es.take (placeO x.1.s x.1.pr (es.map (·.1))) ++ x :: es.drop (placeO x.1.s x.1.pr (es.map (·.1)))
theorem insE_fst (x : OS) (es : List OS) : (insE x es).map (·.1) = insO x.1 (es.map (·.1)) := by
  unfold insE insO
  rw [List.map_append, List.map_cons, List.map_take, List.map_drop]
theorem insE_perm (x : OS) (es : List OS) : (insE x es).Perm (x :: es) := by
  unfold insE
  refine List.perm_middle.trans (.cons _ ?_)
  rw [List.take_append_drop]
theorem placeO_cons (s : Str) (p : Int) (y : Od) (r : List Od) : placeO s p (y :: r) = if aheadB s p y.pr = true then 0 else placeO s p r + 1 := rfl
theorem insE_srt {sd : Str} {x : OS} (hs : x.1.s = sd) : ∀ {es : List OS}, es.Pairwise (Lt2 sd) → (∀ y ∈ es, y.2 < x.2) → (insE x es).Pairwise (Lt2 sd)
  | [], _, _ => List.pairwise_singleton _ _
  | y :: r, h, old => by
    obtain ⟨h1, h2⟩ := List.pairwise_cons.mp h
    have ih := insE_srt hs h2 fun z hz => old z (List.mem_cons_of_mem _ hz)
    have oy := old y List.mem_cons_self
    unfold insE at *
    rw [List.map_cons, placeO_cons, hs] at *
    rw [ahead_rk]
    by_cases c : rkE sd x.1.pr < rkE sd y.1.pr
    · rw [if_pos (decide_eq_true c)]
      rw [List.take_zero, List.drop_zero, List.nil_append]
      refine List.pairwise_cons.mpr ⟨fun z hz => ?_, h⟩
      rcases List.mem_cons.mp hz with rfl | hz
      · exact .inl c
      · have := h1 z hz
        unfold Lt2 at *
        lia
    · rw [if_neg (by rw [decide_eq_false c]; exact Bool.false_ne_true), List.take_succ_cons, List.drop_succ_cons, List.cons_append]
      refine List.pairwise_cons.mpr ⟨fun z hz => ?_, ih⟩
      have hz' : z = x ∨ z ∈ r := by
        rcases List.mem_append.mp hz with hz | hz
        · exact .inr (List.mem_of_mem_take hz)
        · rcases List.mem_cons.mp hz with hz | hz
          · exact .inl hz
          · exact .inr (List.mem_of_mem_drop hz)
      rcases hz' with rfl | hz
      · unfold Lt2; lia
      · exact h1 z hz
set_option genInjectivity false in
set_option genSizeOf false in
set_option genSizeOfSpec false in
structure BE where
  nm : Str
  t : Addr
  a : Addr
  od : Od
  si : Int
noncomputable def beP (e : BE) : OS := (e.od, e.si)
noncomputable def kvB (bk : List BE) : List (Key × V) := bk.map fun e => ((Sum.inr e.nm : Key), V.ref e.t)
theorem kvB_keys (bk : List BE) : bk.map (fun e => ((Sum.inr e.nm : Key), V.ref e.t)) = (bk.map fun e => (e.nm, V.ref e.t)).map fun p => ((Sum.inr p.1 : Key), p.2) := by rw [List.map_map]; rfl
theorem kvB_val {nm : Str} {bk : List BE} {e : BE} (nd : (bk.map (·.nm)).Nodup) (he : e ∈ bk) (en : e.nm = nm) : valV (kvB bk) (Sum.inr nm) = some (V.ref e.t) := by
  induction bk with
  | nil => cases he
  | cons b bk ih =>
    have nn := List.nodup_cons.mp nd
    show valV (((Sum.inr b.nm : Key), V.ref b.t) :: kvB bk) (Sum.inr nm) = _
    rcases List.mem_cons.mp he with rfl | he
    · exact valV_pos (by rw [en])
    · rw [valV_neg (fun z => nn.1 (List.mem_map.mpr ⟨e, he, by rw [en]; exact (Sum.inr.inj z).symm⟩))]
      exact ih nn.2 he
theorem kvB_no {nm : Str} : ∀ {bk : List BE}, nm ∉ bk.map (·.nm) → valV (kvB bk) (Sum.inr nm) = none
  | [], _ => rfl
  | b :: bk, h => by
    show valV (((Sum.inr b.nm : Key), V.ref b.t) :: kvB bk) (Sum.inr nm) = _
    rw [valV_neg (fun z => h (by rw [List.map_cons]; exact List.mem_cons.mpr (.inl (Sum.inr.inj z).symm)))]
    exact kvB_no fun z => h (by rw [List.map_cons]; exact List.mem_cons_of_mem _ z)
noncomputable def outB (bk : List BE) (nm : Str) : List BE := bk.filter fun e => decide (e.nm ≠ nm)
theorem kvB_drop (bk : List BE) (nm : Str) : dropK (kvB bk) (Sum.inr nm) = kvB (outB bk nm) := by
  unfold dropK kvB outB
  rw [List.filter_map]
  congr 1
  refine List.filter_congr fun e _ => ?_
  show decide ((Sum.inr e.nm : Key) ≠ Sum.inr nm) = decide (e.nm ≠ nm)
  exact decide_eq_decide.mpr ⟨fun h z => h (by rw [z]), fun h z => h (Sum.inr.inj z)⟩
theorem kvB_new {bk : List BE} {e : BE} (h : e.nm ∉ bk.map (·.nm)) : putK (kvB bk) (Sum.inr e.nm) (V.ref e.t) = kvB (bk ++ [e]) := by
  rw [putK_new _ (kvB_no h)]
  unfold kvB
  rw [List.map_append]
  rfl
theorem outB_perm {nm : Str} : ∀ {bk : List BE} {e : BE}, (bk.map (·.nm)).Nodup → e ∈ bk → e.nm = nm → bk.Perm (e :: outB bk nm)
  | b :: bk, e, nd, he, en => by
    obtain ⟨n1, n2⟩ := List.nodup_cons.mp nd
    unfold outB
    rcases List.mem_cons.mp he with rfl | he
    · rw [List.filter_cons, if_neg (by simp [en])]
      refine List.Perm.cons _ ?_
      have ef : bk.filter (fun e => decide (e.nm ≠ nm)) = bk := List.filter_eq_self.mpr fun y hy => decide_eq_true fun z => n1 (List.mem_map.mpr ⟨y, hy, z.trans en.symm⟩)
      rw [ef]
    · have ne : b.nm ≠ nm := fun z => n1 (List.mem_map.mpr ⟨e, he, en.trans z.symm⟩)
      rw [List.filter_cons, if_pos (decide_eq_true ne)]
      exact ((outB_perm n2 he en).cons b).trans (List.Perm.swap _ _ _)
set_option genInjectivity false in
set_option genSizeOf false in
set_option genSizeOfSpec false in
structure LB (sd : Str) (now : Int) (ps : List AO) (es : List OS) (bk : List BE) : Prop where
  line : LineOk sd ps
  fst : ps.map (·.2) = es.map (·.1)
  srt : es.Pairwise (Lt2 sd)
  perm : (bk.map beP).Perm es
  key : ∀ e ∈ bk, e.od.n = e.nm
  old : ∀ p ∈ es, p.2 < now
noncomputable def BkH (H : Hp) (bk : List BE) : Prop := ∀ e ∈ bk, H e.t = some (.tup [.ref e.a, .int e.si]) ∧ H e.a = some (.tup (odV e.od))
theorem BkH.same {H H' : Hp} {bk : List BE} (h : BkH H bk) (s : Same H H') : BkH H' bk := fun e he => ⟨s _ _ (h e he).1, s _ _ (h e he).2⟩
section
variable {sd : Str} {now : Int} {ps : List AO} {es : List OS} {bk : List BE}
theorem LB.names (h : LB sd now ps es bk) : (bk.map (·.nm)).Perm (ps.map fun x => x.2.n) := by
  have e1 : bk.map (·.nm) = (bk.map beP).map fun p => p.1.n := by
    rw [List.map_map]
    exact List.map_congr_left fun e he => (h.key e he).symm
  have e2 : ps.map (fun x => x.2.n) = es.map fun p => p.1.n := by
    have := congrArg (List.map fun o : Od => o.n) h.fst
    rw [List.map_map, List.map_map] at this
    exact this
  rw [e1, e2]
  exact h.perm.map _
theorem LB.nd (h : LB sd now ps es bk) : (bk.map (·.nm)).Nodup := h.names.nodup_iff.mpr h.line.nd
theorem LB.len (h : LB sd now ps es bk) : bk.length = ps.length := by
  have := h.names.length_eq
  rwa [List.length_map, List.length_map] at this
theorem LB.later (h : LB sd now ps es bk) {m : Int} (hm : now ≤ m) : LB sd m ps es bk := ⟨h.line, h.fst, h.srt, h.perm, h.key, fun p hp => Int.lt_of_lt_of_le (h.old p hp) hm⟩
theorem LB.join {t t2 : Addr} {o : Od} {qs : List AO} (h : LB sd now ps es bk) (hs : o.s = sd) (hk : OkO o) (hn : o.n ∉ bk.map (·.nm)) (eq : qs = ins (t, o) ps) : LB sd (now + 1) qs (insE (o, now) es) (bk ++ [⟨o.n, t2, t, o, now⟩]) where
  line := by
    rw [eq]
    exact lineOk_ins (x := (t, o)) h.line hs hk fun z => hn (h.names.mem_iff.mpr z)
  fst := by rw [eq, ins_map, insE_fst, h.fst]
  srt := insE_srt hs h.srt h.old
  perm := by
    rw [List.map_append]
    exact (List.perm_append_comm.trans ((h.perm.cons _))).trans (insE_perm _ _).symm
  key := fun e he => by
    rcases List.mem_append.mp he with he | he
    · exact h.key e he
    · rw [List.mem_singleton.mp he]
  old := fun p hp => by
    rcases List.mem_cons.mp ((insE_perm _ _).mem_iff.mp hp) with rfl | hp
    · show now < now + 1; (exact Int.le_refl _)
    · have := h.old p hp; lia
theorem LB.at (h : LB sd now ps es bk) {x : Od} (hx : x ∈ ps.map (·.2)) : ∃ e ∈ bk, e.nm = x.n ∧ e.od = x ∧ (x, e.si) ∈ es := by
  rw [h.fst] at hx
  obtain ⟨p, hp, rfl⟩ := List.mem_map.mp hx
  obtain ⟨e, he, rfl⟩ := List.mem_map.mp (h.perm.mem_iff.mpr hp)
  exact ⟨e, he, (h.key e he).symm, rfl, hp⟩
theorem LB.uniq (h : LB sd now ps es bk) {e e' : BE} (he : e ∈ bk) (he' : e' ∈ bk) (en : e.nm = e'.nm) : e = e' := by
  obtain ⟨i, hi, rfl⟩ := List.mem_iff_getElem.mp he
  obtain ⟨j, hj, rfl⟩ := List.mem_iff_getElem.mp he'
  have nd := List.pairwise_iff_getElem.mp h.nd
  rcases Nat.lt_trichotomy i j with c | c | c
  · exact absurd (by rw [List.getElem_map, List.getElem_map]; exact en) (nd i j (by rw [List.length_map]; exact hi) (by rw [List.length_map]; exact hj) c)
  · subst c; rfl
  · exact absurd (by rw [List.getElem_map, List.getElem_map]; exact en.symm) (nd j i (by rw [List.length_map]; exact hj) (by rw [List.length_map]; exact hi) c)
end
set_option genInjectivity false in
set_option genSizeOf false in
set_option genSizeOfSpec false in
structure Gd (s : Str) (os : List Od) : Prop where
  sd : ∀ o ∈ os, o.s = s
  nd : (os.map fun o => o.n).Nodup
  pr : ∀ (i : Nat) (x y : Od), os[i]? = some x → os[i + 1]? = some y → aheadB s y.pr x.pr = false
noncomputable def totO (ps : List AO) : Int := (ps.map fun x => x.2.l).sum
theorem perm_len {xs ys : List Str} (nd : xs.Nodup) (h : ∀ z, z ∈ xs ↔ z ∈ ys) : xs.length = ys.length ↔ ys.Nodup := by
  have le : ∀ {a b : List Str}, a.Nodup → (∀ x ∈ a, x ∈ b) → a.length ≤ b.length := by
    intro a
    induction a with
    | nil => intro b _ _; exact Nat.zero_le _
    | cons x r ih =>
      intro b n hb
      obtain ⟨n1, n2⟩ := List.nodup_cons.mp n
      have m := hb x List.mem_cons_self
      have := ih (b := b.erase x) n2 fun y hy => (List.mem_erase_of_ne (show y ≠ x from fun e => n1 (by rw [← e]; exact hy))).mpr (hb y (List.mem_cons_of_mem _ hy))
      rw [List.length_erase_of_mem m] at this
      have := List.length_pos_of_mem m
      rw [List.length_cons]
      lia
  constructor
  · intro e
    by_cases c : ys.Nodup
    · exact c
    · exfalso
      obtain ⟨i, j, hij, hj, eq⟩ : ∃ i j, ∃ (_ : i < j) (hj : j < ys.length), ys[i]'(by (exact Nat.lt_trans (by assumption) (by assumption))) = ys[j] := by
        rw [List.nodup_iff_pairwise_ne, List.pairwise_iff_getElem] at c
        simp only [Classical.not_forall] at c
        obtain ⟨i, j, hi, hj, hij, q⟩ := c
        exact ⟨i, j, hij, hj, Classical.not_not.mp q⟩
      have sub : ∀ x ∈ xs, x ∈ ys.eraseIdx j := fun x hx => by
        obtain ⟨k, hk, ek⟩ := List.mem_iff_getElem.mp ((h x).mp hx)
        by_cases q : k = j
        · subst q
          rw [← ek, ← eq]
          exact List.mem_eraseIdx_iff_getElem.mpr ⟨i, by (exact Nat.lt_trans (by assumption) (by assumption)), by (exact Nat.ne_of_lt (by assumption)), rfl⟩
        · rw [← ek]
          exact List.mem_eraseIdx_iff_getElem.mpr ⟨k, hk, q, rfl⟩
      have := le nd sub
      rw [List.length_eraseIdx_of_lt hj] at this
      lia
  · intro c
    have a := le nd fun x hx => (h x).mp hx
    have b := le c fun x hx => (h x).mpr hx
    (exact Nat.le_antisymm (by assumption) (by assumption))
theorem gd_of {sd : Str} {ps : List AO} (h : LineOk sd ps) : Gd sd (ps.map (·.2)) where
  sd := fun o ho => by obtain ⟨x, hx, rfl⟩ := List.mem_map.mp ho; exact h.side x hx
  nd := by rw [List.map_map]; exact h.nd
  pr := fun i x y hx hy => by
    have s : (ps.map (·.2)).Pairwise fun x y : Od => aheadB sd y.pr x.pr = false := List.pairwise_map.mpr h.srt
    obtain ⟨h1, e1⟩ := List.getElem?_eq_some_iff.mp hx
    obtain ⟨h2, e2⟩ := List.getElem?_eq_some_iff.mp hy
    have := List.pairwise_iff_getElem.mp s i (i + 1) h1 h2 (by (exact Nat.lt_succ_self _))
    rw [e1, e2] at this
    exact this
noncomputable abbrev AE := Addr × BE
noncomputable def toN3 (sd : Str) (z : AE) : TN3 := (z.1, rkE sd z.2.od.pr, z.2.si, z.2.a)
noncomputable def RowH (sd : Str) (H : Hp) (tz : List AE) : Prop := ∀ z ∈ tz, H z.1 = some (.tup [.int (rkE sd z.2.od.pr), .int z.2.si, .ref z.2.a])
theorem RowH.same {sd : Str} {H H' : Hp} {tz : List AE} (h : RowH sd H tz) (s : Same H H') : RowH sd H' tz := fun z hz => s _ _ (h z hz)
theorem RowH.upd {sd : Str} {H : Hp} {tz : List AE} {l : Addr} {xs : List V} {u : HO} (h : RowH sd H tz) (hl : H l = some (.lst xs)) : RowH sd (upd H l u) tz := fun z hz => upd_tup (h z hz) hl
theorem rows_are {sd : Str} {now : Int} {ps : List AO} {es : List OS} {bk eb : List BE} {tz zs : List AE} (h : LB sd now ps es bk) (p1 : eb.Perm bk) (e1 : tz.map (·.2) = eb) (p2 : zs.Perm tz) (pw : (zs.map (toN3 sd)).Pairwise fun a b => ltN3 a b = true) : zs.map (fun z => z.2.od) = ps.map (·.2) := by
  have q1 : (zs.map fun z => beP z.2).Perm es := by
    have e2 : zs.map (fun z => beP z.2) = (zs.map (·.2)).map beP := by rw [List.map_map]; rfl
    rw [e2]
    refine (List.Perm.map beP ?_).trans h.perm
    exact (p2.map _).trans (by rw [e1]; exact p1)
  have q2 : (zs.map fun z => beP z.2).Pairwise (Lt2 sd) := by
    rw [List.pairwise_map] at pw ⊢
    exact pw.imp fun {a b} z => by
      have z' := of_decide_eq_true z
      exact z'
  have q3 := pw_unique (lt2_asy sd) q1 q2 h.srt
  rw [h.fst, ← q3, List.map_map]
  rfl
theorem rows_nd {sd : Str} {now : Int} {ps : List AO} {es : List OS} {bk eb : List BE} {tz : List AE} (h : LB sd now ps es bk) (p1 : eb.Perm bk) (e1 : tz.map (·.2) = eb) : ((tz.map (toN3 sd)).map fun q => (q.2.1, q.2.2.1)).Nodup := by
  have e2 : (tz.map (toN3 sd)).map (fun q => (q.2.1, q.2.2.1)) = ((tz.map (·.2)).map beP).map fun p => (rkE sd p.1.pr, p.2) := by
    rw [List.map_map, List.map_map, List.map_map]; rfl
  have pp : ((tz.map (·.2)).map beP).Perm es := by rw [e1]; exact (p1.map beP).trans h.perm
  rw [e2]
  refine (pp.map _).nodup_iff.mpr ?_
  unfold List.Nodup
  rw [List.pairwise_map]
  exact h.srt.imp fun {a b} z e => by
    have e3 : rkE sd a.1.pr = rkE sd b.1.pr := (Prod.mk.inj e).1
    have e4 : a.2 = b.2 := (Prod.mk.inj e).2
    unfold Lt2 at z
    lia
noncomputable def SmD (D : Addr) (H H' : Hp) : Prop := ∀ b o, b ≠ D → H b = some o → H' b = some o
theorem SmD.trans {D : Addr} {H H1 H2 : Hp} (a : SmD D H H1) (b : SmD D H1 H2) : SmD D H H2 := fun c o n h => b c o n (a c o n h)
theorem SmD.of {D : Addr} {H H' : Hp} (a : Same H H') : SmD D H H' := fun c o _ h => a c o h
theorem SmD.put {D : Addr} {H : Hp} {u : HO} : SmD D H (upd H D u) := fun b o n e => by rw [upd_ne n]; exact e
theorem neD {H : Hp} {D b : Addr} {kvs : List (Key × V)} {o : HO} (hD : H D = some (.dK kvs)) (h : H b = some o) (n : o ≠ .dK kvs) : b ≠ D := fun z => by rw [z, hD] at h; exact n (Option.some.inj h).symm
theorem tupD {H H' : Hp} {D b : Addr} {kvs : List (Key × V)} {xs : List V} (hD : H D = some (.dK kvs)) (s : SmD D H H') (h : H b = some (.tup xs)) : H' b = some (.tup xs) := s _ _ (neD hD h fun z => nomatch z) h
theorem lstD {H H' : Hp} {D b : Addr} {kvs : List (Key × V)} {xs : List V} (hD : H D = some (.dK kvs)) (s : SmD D H H') (h : H b = some (.lst xs)) : H' b = some (.lst xs) := s _ _ (neD hD h fun z => nomatch z) h
theorem bkD {H H' : Hp} {D : Addr} {kvs : List (Key × V)} {bk : List BE} (hD : H D = some (.dK kvs)) (s : SmD D H H') (h : BkH H bk) : BkH H' bk := fun e he => ⟨tupD hD s (h e he).1, tupD hD s (h e he).2⟩
theorem ordsD {H H' : Hp} {D : Addr} {kvs : List (Key × V)} {ps : List AO} (hD : H D = some (.dK kvs)) (s : SmD D H H') (h : Ords H ps) : Ords H' ps := fun p hp => tupD hD s (h p hp)
theorem seqD {K : PySem.W.Frag} {H H' : Hp} {D a : Addr} {kvs : List (Key × V)} {xs : List V} (hD : H D = some (.dK kvs)) (s : SmD D H H') (h : SqL K H a xs) : SqL K H' a xs := by
  rcases h with (h | ⟨o, h⟩) | h
  · exact .inl (.inl (lstD hD s h))
  · exact .inl (.inr ⟨o, s _ _ (neD hD h fun z => nomatch z) h⟩)
  · exact .inr h
theorem outB_no (bk : List BE) (nm : Str) : nm ∉ (outB bk nm).map (·.nm) := fun z => by
  obtain ⟨e, he, en⟩ := List.mem_map.mp z
  exact of_decide_eq_true (List.mem_filter.mp he).2 en
theorem outB_mem {bk : List BE} {nm : Str} {e : BE} (h : e ∈ outB bk nm) : e ∈ bk := (List.mem_filter.mp h).1
noncomputable def putB (bk : List BE) (e : BE) : List BE := bk.map fun y => if y.nm = e.nm then e else y
theorem kvB_put {bk : List BE} {e : BE} (h : e.nm ∈ bk.map (·.nm)) : putK (kvB bk) (Sum.inr e.nm) (V.ref e.t) = kvB (putB bk e) := by
  unfold putK
  have a : ((kvB bk).any fun kv => decide (kv.1 = (Sum.inr e.nm : Key))) = true := by
    obtain ⟨y, hy, en⟩ := List.mem_map.mp h
    exact List.any_eq_true.mpr ⟨((Sum.inr y.nm : Key), V.ref y.t), List.mem_map.mpr ⟨y, hy, rfl⟩, decide_eq_true (by show (Sum.inr y.nm : Key) = Sum.inr e.nm; rw [show y.nm = e.nm from en])⟩
  rw [if_pos a]
  unfold kvB putB
  rw [List.map_map, List.map_map]
  refine List.map_congr_left fun y _ => ?_
  show (if (Sum.inr y.nm : Key) = Sum.inr e.nm then ((Sum.inr y.nm : Key), V.ref e.t) else (Sum.inr y.nm, V.ref y.t)) = ((Sum.inr (if y.nm = e.nm then e else y).nm : Key), V.ref (if y.nm = e.nm then e else y).t)
  by_cases c : y.nm = e.nm
  · rw [if_pos (by rw [c]), if_pos c, c]
  · rw [if_neg (fun z => c (Sum.inr.inj z)), if_neg c]
theorem putB_mem {bk : List BE} {e y : BE} (h : y ∈ putB bk e) : y = e ∨ y ∈ bk := by
  obtain ⟨z, hz, rfl⟩ := List.mem_map.mp h
  by_cases c : z.nm = e.nm
  · rw [if_pos c]; exact .inl rfl
  · rw [if_neg c]; exact .inr hz
noncomputable def sinB (x : Od) (si am now : Int) : Int := if x.sh = am ∧ am < x.l then now else si
theorem sub_out (ps : List AO) (k : Nat) : (outL ps k).Sublist ps := by
  have h : (ps.take k ++ ps.drop (k + 1)).Sublist (ps.take k ++ ps.drop k) := List.Sublist.append (List.Sublist.refl _) (by rw [← List.tail_drop]; exact List.tail_sublist _)
  rw [List.take_append_drop] at h
  exact h
theorem lineOk_sub {sd : Str} {ps qs : List AO} (h : LineOk sd ps) (s : qs.Sublist ps) : LineOk sd qs where
  side := fun x hx => h.side x (s.subset hx)
  ok := fun x hx => h.ok x (s.subset hx)
  nd := h.nd.sublist (s.map _)
  srt := h.srt.sublist s
theorem split_at {α : Type} {l : List α} {k : Nat} (hk : k < l.length) : l = l.take k ++ l[k] :: l.drop (k + 1) := by
  rw [← List.drop_eq_getElem_cons hk, List.take_append_drop]
theorem put_map {β : Type} {ps : List AO} {k : Nat} {y : AO} (f : AO → β) (hk : k < ps.length) (e : f y = f ps[k]) : (putL ps k y).map f = ps.map f := by
  unfold putL
  have := congrArg (List.map f) (split_at hk)
  rw [List.map_append, List.map_cons] at this ⊢
  rw [e, this]
theorem lineOk_put {sd : Str} {ps : List AO} {k : Nat} {t : Addr} {num : Int} (h : LineOk sd ps) (hk : k < ps.length) (n1 : 1 ≤ num) (n2 : num ≤ ps[k].2.l) : LineOk sd (putL ps k (t, lessO ps[k].2 num)) where
  side := fun x hx => by
    rcases mem_putL hx with rfl | hx
    · exact h.side ps[k] (List.getElem_mem hk)
    · exact h.side x hx
  ok := fun x hx => by
    rcases mem_putL hx with rfl | hx
    · exact okO_less (h.ok _ (List.getElem_mem hk)) n1 n2
    · exact h.ok x hx
  nd := by rw [put_map (y := (t, lessO ps[k].2 num)) (fun x : AO => x.2.n) hk rfl]; exact h.nd
  srt := by
    have e := put_map (y := (t, lessO ps[k].2 num)) (fun x : AO => x.2.pr) hk rfl
    have s : (ps.map fun x : AO => x.2.pr).Pairwise fun x y : Int => aheadB sd y x = false := List.pairwise_map.mpr h.srt
    rw [← e] at s
    exact List.pairwise_map.mp s
noncomputable def smE (es : List OS) : Int := (es.map fun p => p.1.l).sum
theorem sum_perm {l m : List Int} (h : l.Perm m) : l.sum = m.sum := by
  induction h with
  | nil => rfl
  | cons x _ ih => rw [List.sum_cons, List.sum_cons, ih]
  | swap x y l => rw [List.sum_cons, List.sum_cons, List.sum_cons, List.sum_cons]; lia
  | trans _ _ h1 h2 => rw [h1, h2]
theorem smE_perm {es fs : List OS} (h : es.Perm fs) : smE es = smE fs := sum_perm (h.map _)
theorem smE_cons (p : OS) (es : List OS) : smE (p :: es) = p.1.l + smE es := by unfold smE; rw [List.map_cons, List.sum_cons]
theorem totO_es {ps : List AO} {es : List OS} (h : ps.map (·.2) = es.map (·.1)) : totO ps = smE es := by
  have := congrArg (List.map fun o : Od => o.l) h
  rw [List.map_map, List.map_map] at this
  exact congrArg List.sum this
section
variable {sd : Str} {now : Int} {ps : List AO} {es : List OS} {bk : List BE}
theorem LB.tot (h : LB sd now ps es bk) : totO ps = smE es := totO_es h.fst
theorem LB.elen (h : LB sd now ps es bk) : es.length = ps.length := by
  have := congrArg List.length h.fst
  rw [List.length_map, List.length_map] at this
  exact this.symm
theorem LB.eat (h : LB sd now ps es bk) {k : Nat} (hk : k < ps.length) : (es[k]'(by rw [h.elen]; exact hk)).1 = ps[k].2 := by
  have := congrArg (fun l => l[k]?) h.fst
  simp only [List.getElem?_map, List.getElem?_eq_getElem hk, List.getElem?_eq_getElem (show k < es.length by rw [h.elen]; exact hk), Option.map_some] at this
  exact (Option.some.inj this).symm
theorem LB.ent (h : LB sd now ps es bk) {e : BE} {p : OS} (he : e ∈ bk) (hp : p ∈ es) (en : e.nm = p.1.n) : beP e = p := by
  obtain ⟨e', he', rfl⟩ := List.mem_map.mp (h.perm.mem_iff.mpr hp)
  rw [h.uniq he he' (by rw [en]; exact h.key e' he')]
theorem LB.rest (h : LB sd now ps es bk) {e : BE} {l r : List OS} (he : e ∈ bk) (es' : es = l ++ beP e :: r) : ((outB bk e.nm).map beP).Perm (l ++ r) := by
  have p1 := (outB_perm h.nd he rfl).map beP
  rw [List.map_cons] at p1
  have p2 : (beP e :: (outB bk e.nm).map beP).Perm (l ++ beP e :: r) := p1.symm.trans (by rw [← es']; exact h.perm)
  exact (p2.trans List.perm_middle).cons_inv
theorem LB.serve {x : AO} {r qs : List AO} {am : Int} {e : BE} {bk' : List BE} (h : LB sd now (x :: r) es bk) (he : e ∈ bk) (en : e.nm = x.2.n) (h1 : 1 ≤ am) (h2 : am ≤ x.2.sh) (eq : qs.map (·.2) = servedO (x.2 :: r.map (·.2)) am)
    (c1 : e.od.l = am → bk' = outB bk e.nm) (c2 : e.od.l ≠ am → ∃ t a, bk' = outB bk e.nm ++ [⟨e.nm, t, a, behO e.od am, sinB e.od e.si am now⟩]) : (∃ es', LB sd (now + 1) qs es' bk') ∧ totO qs = totO (x :: r) - am := by
  have lq := lineOk_served h.line h1 h2 eq
  obtain ⟨p, er, rfl⟩ : ∃ p er, es = p :: er := by
    cases es with
    | nil => have := h.elen; simp at this
    | cons p er => exact ⟨p, er, rfl⟩
  have hf := h.fst
  rw [List.map_cons, List.map_cons] at hf
  have f1 : x.2 = p.1 := (List.cons.inj hf).1
  have f2 : r.map (·.2) = er.map (·.1) := (List.cons.inj hf).2
  have ep : beP e = p := h.ent he List.mem_cons_self (by rw [en, f1])
  have eo : e.od = x.2 := by rw [f1, ← ep]; rfl
  have esi : e.si = p.2 := by rw [← ep]; rfl
  have pr := h.rest (l := []) he (by rw [ep]; rfl)
  rw [List.nil_append] at pr
  obtain ⟨s1, s2⟩ := List.pairwise_cons.mp h.srt
  have ko : ∀ y ∈ outB bk e.nm, y.od.n = y.nm := fun y hy => h.key y (outB_mem hy)
  have old : ∀ q ∈ er, q.2 < now := fun q hq => h.old q (List.mem_cons_of_mem _ hq)
  have op := h.old p List.mem_cons_self
  have t0 := h.tot
  rw [smE_cons, ← f1] at t0
  have ss : x.2.s = sd := h.line.side x List.mem_cons_self
  rw [servedO_cons] at eq
  by_cases a : x.2.l = am
  · rw [if_pos a] at eq
    have eb := c1 (by rw [eo]; exact a)
    refine ⟨⟨er, lq, by rw [eq, f2], s2, by rw [eb]; exact pr, by rw [eb]; exact ko, fun q hq => by have := old q hq; (clear he en h1 h2 eq c1 c2 lq h hf f1 f2 ep eo esi pr s1 s2 ko old op t0 ss a eb hq; omega)⟩, ?_⟩
    rw [totO_es (es := er) (by rw [eq, f2]), t0]
    lia
  · rw [if_neg a] at eq
    obtain ⟨t, aa, eb⟩ := c2 (by rw [eo]; exact a)
    have key' : ∀ y ∈ bk', y.od.n = y.nm := fun y hy => by
      rw [eb] at hy
      rcases List.mem_append.mp hy with hy | hy
      · exact ko y hy
      · rw [List.mem_singleton.mp hy]
        show e.od.n = e.nm
        exact h.key e he
    by_cases b : x.2.sh = am ∧ am < x.2.l
    · rw [if_pos b] at eq
      have sb : sinB e.od e.si am now = now := by unfold sinB; rw [eo, if_pos b]
      have fe : qs.map (·.2) = (insE (behO x.2 am, now) er).map (·.1) := by rw [insE_fst, eq, f2]
      refine ⟨⟨insE (behO x.2 am, now) er, lq, fe, insE_srt (x := (behO x.2 am, now)) ss s2 old, ?_, key', fun q hq => ?_⟩, ?_⟩
      · rw [eb, List.map_append]
        refine List.perm_append_comm.trans ?_
        rw [show List.map beP [⟨e.nm, t, aa, behO e.od am, sinB e.od e.si am now⟩] = [(behO x.2 am, now)] by rw [sb, eo]; rfl]
        exact (pr.cons _).trans (insE_perm _ _).symm
      · rcases List.mem_cons.mp ((insE_perm _ _).mem_iff.mp hq) with rfl | hq
        · show now < now + 1; (exact Int.le_refl _)
        · have := old q hq; lia
      · rw [totO_es fe, smE_perm (insE_perm _ _), smE_cons, t0]
        show x.2.l - am + _ = _
        lia
    · rw [if_neg b] at eq
      have sb : sinB e.od e.si am now = p.2 := by unfold sinB; rw [eo, if_neg b, esi]
      have fe : qs.map (·.2) = ((behO x.2 am, p.2) :: er).map (·.1) := by rw [eq, f2]; rfl
      refine ⟨⟨(behO x.2 am, p.2) :: er, lq, fe, List.pairwise_cons.mpr ⟨fun q hq => ?_, s2⟩, ?_, key', fun q hq => ?_⟩, ?_⟩
      · have := s1 q hq
        unfold Lt2 at *
        rw [← f1] at this
        exact this
      · rw [eb, List.map_append]
        refine List.perm_append_comm.trans ?_
        rw [show List.map beP [⟨e.nm, t, aa, behO e.od am, sinB e.od e.si am now⟩] = [(behO x.2 am, p.2)] by rw [sb, eo]; rfl]
        exact pr.cons _
      · rcases List.mem_cons.mp hq with rfl | hq
        · show p.2 < now + 1; lia
        · have := old q hq; omega
      · rw [totO_es fe, smE_cons, t0]
        show x.2.l - am + _ = _
        omega
theorem LB.out {k : Nat} {e : BE} (h : LB sd now ps es bk) (hk : k < ps.length) (he : e ∈ bk) (en : e.nm = ps[k].2.n) : (∃ es', LB sd (now + 1) (outL ps k) es' (outB bk e.nm)) ∧ totO (outL ps k) = totO ps - e.od.l := by
  have hk' : k < es.length := by rw [h.elen]; exact hk
  have ee := h.eat hk
  have ep : beP e = es[k] := h.ent he (List.getElem_mem hk') (by rw [en, ee])
  have sp := split_at hk'
  rw [← ep] at sp
  have pr := h.rest he sp
  have fe : (outL ps k).map (·.2) = (es.take k ++ es.drop (k + 1)).map (·.1) := by
    unfold outL
    rw [List.map_append, List.map_append, List.map_take, List.map_drop, List.map_take, List.map_drop, h.fst]
  have sub : (es.take k ++ es.drop (k + 1)).Sublist es := by
    have z : (es.take k ++ es.drop (k + 1)).Sublist (es.take k ++ es.drop k) := List.Sublist.append (List.Sublist.refl _) (by rw [← List.tail_drop]; exact List.tail_sublist _)
    rwa [List.take_append_drop] at z
  refine ⟨⟨_, lineOk_sub h.line (sub_out ps k), fe, h.srt.sublist sub, pr, fun y hy => h.key y (outB_mem hy), fun q hq => by have := h.old q (sub.subset hq); (clear h hk he en hk' ee ep sp pr fe sub hq; omega)⟩, ?_⟩
  have p2 : smE es = e.od.l + smE (es.take k ++ es.drop (k + 1)) := by
    have := smE_perm (show es.Perm (beP e :: (es.take k ++ es.drop (k + 1))) from by rw (config := {occs := .pos [1]}) [sp]; exact List.perm_middle)
    rw [smE_cons] at this
    exact this
  rw [totO_es fe, h.tot]
  lia
theorem LB.less {k : Nat} {t t2 a : Addr} {num : Int} {e : BE} (h : LB sd now ps es bk) (hk : k < ps.length) (he : e ∈ bk) (en : e.nm = ps[k].2.n) (n1 : 1 ≤ num) (n2 : num ≤ ps[k].2.l) : (∃ es', LB sd (now + 1) (putL ps k (t, lessO ps[k].2 num)) es' (putB bk ⟨e.nm, t2, a, lessO e.od num, e.si⟩)) ∧ totO (putL ps k (t, lessO ps[k].2 num)) = totO ps + (num - e.od.l) := by
  have hk' : k < es.length := by rw [h.elen]; exact hk
  have ee := h.eat hk
  have ep : beP e = es[k] := h.ent he (List.getElem_mem hk') (by rw [en, ee])
  have eo : e.od = ps[k].2 := by rw [← ee, ← ep]; rfl
  have sp := split_at hk'
  rw [← ep] at sp
  have pr := h.rest he sp
  have pb : (putB bk ⟨e.nm, t2, a, lessO e.od num, e.si⟩).Perm (⟨e.nm, t2, a, lessO e.od num, e.si⟩ :: outB bk e.nm) := by
    have p1 := (outB_perm h.nd he rfl).map fun y : BE => if y.nm = e.nm then (⟨e.nm, t2, a, lessO e.od num, e.si⟩ : BE) else y
    rw [List.map_cons, if_pos rfl] at p1
    refine List.Perm.trans (show (putB bk ⟨e.nm, t2, a, lessO e.od num, e.si⟩).Perm _ from p1) ?_
    have em : (outB bk e.nm).map (fun y : BE => if y.nm = e.nm then (⟨e.nm, t2, a, lessO e.od num, e.si⟩ : BE) else y) = outB bk e.nm := by
      have z : (outB bk e.nm).map (fun y : BE => if y.nm = e.nm then (⟨e.nm, t2, a, lessO e.od num, e.si⟩ : BE) else y) = (outB bk e.nm).map id := List.map_congr_left fun y hy => if_neg (of_decide_eq_true (List.mem_filter.mp hy).2)
      rw [z, List.map_id]
    rw [em]
  have fe : (putL ps k (t, lessO ps[k].2 num)).map (·.2) = (es.take k ++ (lessO e.od num, e.si) :: es.drop (k + 1)).map (·.1) := by
    unfold putL
    rw [List.map_append, List.map_cons, List.map_append, List.map_cons, List.map_take, List.map_drop, List.map_take, List.map_drop, h.fst, eo]
  refine ⟨⟨_, lineOk_put h.line hk n1 n2, fe, ?_, ?_, fun y hy => ?_, fun q hq => ?_⟩, ?_⟩
  · have e1 : (es.take k ++ (lessO e.od num, e.si) :: es.drop (k + 1)).map (fun q : OS => (q.1.pr, q.2)) = es.map fun q : OS => (q.1.pr, q.2) := by
      have := congrArg (List.map fun q : OS => (q.1.pr, q.2)) sp
      rw [List.map_append, List.map_cons] at this ⊢
      rw [this]
      rfl
    have s : (es.map fun q : OS => (q.1.pr, q.2)).Pairwise fun x y : Int × Int => rkE sd x.1 < rkE sd y.1 ∨ (rkE sd x.1 = rkE sd y.1 ∧ x.2 < y.2) := List.pairwise_map.mpr h.srt
    rw [← e1, List.pairwise_map] at s
    exact s
  · refine (pb.map beP).trans ?_
    rw [List.map_cons]
    exact (pr.cons _).trans List.perm_middle.symm
  · rcases putB_mem hy with rfl | hy
    · show e.od.n = e.nm; exact h.key e he
    · exact h.key y hy
  · rcases List.mem_append.mp hq with hq | hq
    · have := h.old q (List.mem_of_mem_take hq); lia
    · rcases List.mem_cons.mp hq with rfl | hq
      · have := h.old (beP e) (by rw [ep]; exact List.getElem_mem hk')
        show e.si < now + 1
        have z : (beP e).2 = e.si := rfl
        lia
      · have := h.old q (List.mem_of_mem_drop hq); omega
  · have p2 : smE es = e.od.l + smE (es.take k ++ es.drop (k + 1)) := by
      have := smE_perm (show es.Perm (beP e :: (es.take k ++ es.drop (k + 1))) from by rw (config := {occs := .pos [1]}) [sp]; exact List.perm_middle)
      rw [smE_cons] at this
      exact this
    have p3 := smE_perm (List.perm_middle (a := (lessO e.od num, e.si)) (l₁ := es.take k) (l₂ := es.drop (k + 1)))
    rw [smE_cons] at p3
    rw [totO_es fe, h.tot, p3, p2]
    show num + _ = _
    lia
theorem LB.joinT {t : Addr} {o : Od} (h : LB sd now ps es bk) : totO (ins (t, o) ps) = totO ps + o.l := by
  have p : (ins (t, o) ps).Perm ((t, o) :: ps) := by
    unfold ins
    refine List.perm_middle.trans (.cons _ ?_)
    rw [List.take_append_drop]
  have := sum_perm (p.map fun x : AO => x.2.l)
  unfold totO
  rw [this, List.map_cons, List.sum_cons]
  show o.l + _ = _
  lia
end
noncomputable def OutIs (ps : List AO) (way : Int) (t : Addr) (o : Od) (nm : Str) (num : Int) (qs : List AO) : Prop :=
  (way < 4 ∧ nm = o.n ∧ o.n ∉ ps.map (fun x => x.2.n) ∧ qs = ins (t, o) ps) ∨ (¬ way < 4 ∧ way < 6 ∧ ∃ x rr, ps = x :: rr ∧ nm = x.2.n ∧ 1 ≤ num ∧ num ≤ x.2.sh ∧ qs.map (·.2) = servedO (x.2 :: rr.map (·.2)) num) ∨ (way = 6 ∧ ∃ _ : nIdx nm ps < ps.length, qs = outL ps (nIdx nm ps)) ∨ (¬ way < 6 ∧ ¬ way = 6 ∧ ∃ (h : nIdx nm ps < ps.length) (t2 : Addr), 1 ≤ num ∧ num ≤ ps[nIdx nm ps].2.l ∧ qs = putL ps (nIdx nm ps) (t2, lessO ps[nIdx nm ps].2 num))
noncomputable def OutH (ps : List AO) (way : Int) (t : Addr) (o : Od) (nm : Str) (num : Int) (tt r : Addr) (H : Hp) : Prop :=
  (way < 4 ∧ nm ∈ ps.map (fun x => x.2.n) ∧ H tt = some (.tup [.ref r, .non]) ∧ H r = some (.lst [.bl true, .bl false])) ∨ (¬ way < 4 ∧ nm ∉ ps.map (fun x => x.2.n) ∧ H tt = some (.tup [.ref r, .non]) ∧ H r = some (.lst [.bl false, .bl true])) ∨
  ∃ l qs, H tt = some (.tup [.ref r, .ref l]) ∧ H r = some (.lst []) ∧ H l = some (.lst (qs.map rf)) ∧ Ords H qs ∧ OutIs ps way t o nm num qs
theorem out_in {ps qs : List AO} {way : Int} {t : Addr} {o : Od} {nm : Str} {num : Int} (h : OutIs ps way t o nm num qs) : (way < 4 → nm ∉ ps.map fun x => x.2.n) ∧ (¬ way < 4 → nm ∈ ps.map fun x => x.2.n) := by
  rcases h with ⟨w, e, n, _⟩ | ⟨w, _, x, rr, rfl, e, _⟩ | ⟨w, hk, _⟩ | ⟨w, _, hk, _⟩
  · exact ⟨fun _ => by rw [e]; exact n, fun z => absurd w z⟩
  · exact ⟨fun z => absurd z w, fun _ => by rw [e]; exact List.mem_map.mpr ⟨x, List.mem_cons_self, rfl⟩⟩
  · exact ⟨fun z => by lia, fun _ => List.mem_map.mpr ⟨_, List.getElem_mem hk, nIdx_at hk⟩⟩
  · exact ⟨fun z => by lia, fun _ => List.mem_map.mpr ⟨_, List.getElem_mem hk, nIdx_at hk⟩⟩
section
variable {P : Program} {w : World} {K : PySem.W.Frag} {mg : Str → Option Value} {base : Heap}
seal PySem.wpAny
theorem sc_is_name : FnScope ["text"] ["text"] (defScope (top 13)) := ⟨rfl, rfl, rfl, by decide +kernel, rfl, by decide +kernel, by decide +kernel⟩
noncomputable def sp_is_name (K : PySem.W.Frag) : Sp := fun vs H Q _ => ∃ (z : Str), vs = [.str z] ∧ z.cps.size ≤ 16777216 ∧ ∀ H', Same H H' → Q (.bl (nameB z)) H'
theorem ok_is_name (d_is_name : Dv K mg "is_name" (top 13) ["text"]) (B : Bl mg) (C : Co mg) (R : Er K mg)  : FnOk P w K mg base CX0 1 d_is_name.f d_is_name.fd ["text"] (sp_is_name K) := by
  refine d_is_name.F.ok sc_is_name (fun vs H Q E h => ?_) (fun cdv A outer s H vs Q E hr h => ?_)
  · refine Classical.byContradiction fun hnzq => ?_; obtain ⟨_, rfl, _⟩ := h; refine hnzq ?_; clear hnzq; rfl
  refine Classical.byContradiction fun hnzq => ?_; obtain ⟨z, rfl, hz, q⟩ := h
  refine hnzq ?_; clear hnzq
  refine ⟨_, (pss_cons (ps_if (PW.pt (pw_or (pt_cmpR op_eq (pv 0) pe_str (nomark _)) (pw_or1 (pt_cmpR op_gt (pe_callB call_len_str rfl B.b_len PySem.boot_len (pa_cons (pv 0) pa_nil)) (pe_glob (v := .int 12) rfl C.m_LONGEST_NAME ⟨_, rfl⟩) (nomark _))))) (pss_one (ps_ret pe_bl)) pss_nil) (pss_one (ps_ret (pe_and (pe_cmpR op_in_str (pe_ix ix_str (pv 0) pe_int (fun _ _ => rfl)) (pe_glob (v := .str "abcdefghijklmnopqrstuvwxyz") rfl C.m_LETTERS ⟨_, rfl⟩) rfl) (pe_one (pe_callB (call_all rfl) rfl B.b_all PyProof.Rows.boot_all (pa_cons (pe_lc (N := ["text"]) (sc := defScope (top 13)) ⟨by decide +kernel, rfl, rfl, by decide +kernel, by decide +kernel, by decide +kernel, by decide +kernel⟩ rfl rfl rfl (pi_str (pv 0)) (fun _ _ _ _ _ => pif_nil) (fun _ _ _ _ _ => (pe_cmpR op_in_str (pv 0) (pe_glob (v := .str "abcdefghijklmnopqrstuvwxyz0123456789") rfl C.m_LETTERS_AND_FIGURES ⟨_, rfl⟩) rfl))) pa_nil))))))), ?_⟩
  have hz' : z.length ≤ sizeLine := szOk hz
  refine ⟨_, rfl, rfl, _, rfl, ?_⟩
  refine ite2 (fun c => ?_) (fun c => ?_)
  · have c' : z = "" := by simpa using c
    have q' := q H (Same.refl H)
    rw [show nameB z = false by unfold nameB; rw [decide_eq_true c']; rfl] at q'
    exact iteT q'
  · have c' : ¬ z = "" := by simpa using c
    refine ⟨_, rfl, z, rfl, hz', _, _, rfl, rfl, _, rfl, ?_⟩
    refine ite2 (fun c2 => ?_) (fun c2 => ?_)
    · have c3 : ¬ z.cps.size ≤ 12 := by
        have : (12 : Int) < (z.length : Int) := by simpa using c2
        have e : z.length = z.cps.size := rfl
        lia
      have q' := q H (Same.refl H)
      rw [show nameB z = false by unfold nameB; rw [decide_eq_false c3, Bool.false_and, Bool.and_false]] at q'
      exact q'
    · have c3 : z.cps.size ≤ 12 := by
        have : ¬ (12 : Int) < (z.length : Int) := by simpa using c2
        have e : z.length = z.cps.size := rfl
        lia
      refine ⟨_, rfl, z, _, _, rfl, rfl, hz', at_sgn (i := 0) (str_ne c'), _, _, rfl, rfl, _, rfl, ?_⟩
      rw [StrLaws.found_one]
      refine ite2 (fun c4 => ?_) (fun c4 => ?_)
      · have c5 : z.cps.getD 0 0 ∈ LET.cps.toList := of_decide_eq_true c4
        refine ⟨_, rfl, z, rfl, ?_⟩
        refine comp_val (k := 1) (fun v => match v with | .str y => .bl (decide (y.cps.getD 0 0 ∈ LFS.cps.toList)) | v => v) (szOk (by omega)) (fun i H' hi sm R hR => ?_) (fun H' sm l hl => ?_)
        · refine ⟨rfl, _, rfl, _, _, rfl, rfl, ?_⟩
          rw [StrLaws.found_one]
          exact hR _ (Same.refl _)
        · refine ⟨l, (List.range z.cps.size).map fun i => decide (z.cps.getD i 0 ∈ LFS.cps.toList), rfl, .inl (.inl (by rw [upd_same, List.map_map]; rfl)), ?_⟩
          have q' := q _ (same_upd' (u := .lst ((List.range z.cps.size).map fun i => (match sgn z i with | .str y => .bl (decide (y.cps.getD 0 0 ∈ LFS.cps.toList)) | v => v))) sm hl)
          rw [show nameB z = ((List.range z.cps.size).map fun i => decide (z.cps.getD i 0 ∈ LFS.cps.toList)).all id by unfold nameB; rw [decide_eq_false c', decide_eq_true c3, decide_eq_true c5, List.all_map]; rfl] at q'
          exact q'
      · have q' := q H (Same.refl H)
        have c5 : ¬ z.cps.getD 0 0 ∈ LET.cps.toList := fun z => c4 (decide_eq_true z)
        rw [show nameB z = false by unfold nameB; rw [decide_eq_false c5, Bool.false_and, Bool.and_false, Bool.and_false]] at q'
        exact q'
theorem sc_checked_name : FnScope ["text"] ["text"] (defScope (top 14)) := ⟨rfl, rfl, rfl, by decide +kernel, rfl, by decide +kernel, by decide +kernel⟩
noncomputable def sp_checked_name (C : Addr) : Sp := fun vs H Q E => ∃ (z : Str), vs = [.str z] ∧ z.cps.size ≤ 16777216 ∧ (nameB z = true → ∀ H', Same H H' → Q (.str z) H') ∧ (nameB z = false → ∀ H', Same H H' → E (.ref C) none H')
theorem ok_checked_name (d_checked_name : Dv K mg "checked_name" (top 14) ["text"]) (B : Bl mg) (C : Co mg) (R : Er K mg) (d_is_name : Dv K mg "is_name" (top 13) ["text"]) (G_is_name : FnOk P w K mg base CX0 1 d_is_name.f d_is_name.fd ["text"] (sp_is_name K)) : FnOk P w K mg base (CXb P w) 2 d_checked_name.f d_checked_name.fd ["text"] (sp_checked_name R.c_BadName) := by
  refine d_checked_name.F.okx sc_checked_name (fun vs H Q E h => ?_) (fun cdv A outer s H vs Q E hr h => ?_)
  · refine Classical.byContradiction fun hnzq => ?_; obtain ⟨_, rfl, _⟩ := h; refine hnzq ?_; clear hnzq; rfl
  refine Classical.byContradiction fun hnzq => ?_; obtain ⟨z, rfl, hz, q, qe⟩ := h
  refine hnzq ?_; clear hnzq
  refine ⟨_, (pss_cons (ps_if (pt_not (pt_val (pe_call G_is_name (hr.mono (by decide)) rfl d_is_name.m d_is_name.F.kp d_is_name.b .nil pass0 (pa_cons (pv 0) pa_nil)) (fun _ => rfl))) (pss_one (ps_raise raises_fn rfl rfl R.m_BadName R.x_BadName (pa_cons pe_str pa_nil))) pss_nil) (pss_one (ps_ret (pv 0)))), ?_⟩
  refine ⟨_, rfl, z, rfl, hz, fun H1 s1 => ⟨_, rfl, ?_⟩⟩
  cases e : nameB z with
  | false => exact iteT ⟨by (first | exact szOk (Nat.le_of_ble_eq_true rfl) | exact szLt (Nat.le_of_ble_eq_true rfl) | omega), qe e H1 s1⟩
  | true => exact iteF ⟨_, rfl, q e H1 s1⟩
theorem sc_checked_number : FnScope ["number", "low", "high"] ["number", "low", "high"] (defScope (top 15)) := ⟨rfl, rfl, rfl, by decide +kernel, rfl, by decide +kernel, by decide +kernel⟩
noncomputable def sp_checked_number (C : Addr) : Sp := fun vs H Q E => ∃ (n lo hi : Int), vs = [.int n, .int lo, .int hi] ∧ (if lo ≤ n ∧ n ≤ hi then Q (.int n) H else E (.ref C) none H)
theorem ok_checked_number (d_checked_number : Dv K mg "checked_number" (top 15) ["number", "low", "high"]) (B : Bl mg) (C : Co mg) (R : Er K mg)  : FnOk P w K mg base (CXb P w) 1 d_checked_number.f d_checked_number.fd ["number", "low", "high"] (sp_checked_number R.c_BadNumber) := by
  refine d_checked_number.F.okx sc_checked_number (fun vs H Q E h => ?_) (fun cdv A outer s H vs Q E hr h => ?_)
  · refine Classical.byContradiction fun hnzq => ?_; obtain ⟨_, _, _, rfl, _⟩ := h; refine hnzq ?_; clear hnzq; rfl
  refine Classical.byContradiction fun hnzq => ?_; obtain ⟨n, lo, hi, rfl, q⟩ := h
  refine hnzq ?_; clear hnzq
  refine ⟨_, (pss_cons (ps_if (PW.pt (pw_or (pt_cmpR op_lt (pv 0) (pv 1) (nomark _)) (pw_or1 (pt_cmpR op_gt (pv 0) (pv 2) (nomark _))))) (pss_one (ps_raise raises_fn rfl rfl R.m_BadNumber R.x_BadNumber (pa_cons pe_str pa_nil))) pss_nil) (pss_one (ps_ret (pv 0)))), ?_⟩
  refine ⟨_, rfl, _, rfl, _, _, rfl, rfl, _, rfl, ?_⟩
  refine ite2 (fun c => ?_) (fun c => ?_)
  · have c' : n < lo := by simpa using c
    rw [if_neg (by omega)] at q
    exact iteT ⟨by (first | exact szOk (Nat.le_of_ble_eq_true rfl) | exact szLt (Nat.le_of_ble_eq_true rfl) | omega), q⟩
  · have c' : ¬ n < lo := by simpa using c
    refine ⟨_, rfl, _, rfl, _, _, rfl, rfl, _, rfl, ?_⟩
    refine ite2 (fun c2 => ?_) (fun c2 => ?_)
    · have c3 : hi < n := by simpa using c2
      rw [if_neg (by omega)] at q
      exact ⟨by (first | exact szOk (Nat.le_of_ble_eq_true rfl) | exact szLt (Nat.le_of_ble_eq_true rfl) | omega), q⟩
    · have c3 : ¬ hi < n := by simpa using c2
      rw [if_pos (by lia)] at q
      exact ⟨_, rfl, q⟩
theorem sc_checked_price : FnScope ["price"] ["price"] (defScope (top 16)) := ⟨rfl, rfl, rfl, by decide +kernel, rfl, by decide +kernel, by decide +kernel⟩
noncomputable def sp_checked_price (C : Addr) : Sp := fun vs H Q E => ∃ (n : Int), vs = [.int n] ∧ (if 1 ≤ n ∧ n ≤ 1000000000 then Q (.int n) H else E (.ref C) none H)
theorem ok_checked_price (d_checked_price : Dv K mg "checked_price" (top 16) ["price"]) (B : Bl mg) (C : Co mg) (R : Er K mg) (d_checked_number : Dv K mg "checked_number" (top 15) ["number", "low", "high"]) (G_checked_number : FnOk P w K mg base (CXb P w) 1 d_checked_number.f d_checked_number.fd ["number", "low", "high"] (sp_checked_number R.c_BadNumber)) : FnOk P w K mg base (CXb P w) 2 d_checked_price.f d_checked_price.fd ["price"] (sp_checked_price R.c_BadNumber) := by
  refine d_checked_price.F.okx sc_checked_price (fun vs H Q E h => ?_) (fun cdv A outer s H vs Q E hr h => ?_)
  · refine Classical.byContradiction fun hnzq => ?_; obtain ⟨_, rfl, _⟩ := h; refine hnzq ?_; clear hnzq; rfl
  refine Classical.byContradiction fun hnzq => ?_; obtain ⟨n, rfl, q⟩ := h
  refine hnzq ?_; clear hnzq
  refine ⟨_, (pss_one (ps_ret (pe_call G_checked_number (hr.mono (by decide)) rfl d_checked_number.m d_checked_number.F.kp d_checked_number.b .nil passes_fn (pa_cons (pv 0) (pa_cons pe_int (pa_cons (pe_glob (v := .int 1000000000) rfl C.m_GREATEST_PRICE ⟨_, rfl⟩) pa_nil)))))), ?_⟩
  exact ⟨_, rfl, _, _, _, rfl, q⟩
theorem sc_checked_amount : FnScope ["amount"] ["amount"] (defScope (top 17)) := ⟨rfl, rfl, rfl, by decide +kernel, rfl, by decide +kernel, by decide +kernel⟩
noncomputable def sp_checked_amount (C : Addr) : Sp := fun vs H Q E => ∃ (n : Int), vs = [.int n] ∧ (if 1 ≤ n ∧ n ≤ 1000000000 then Q (.int n) H else E (.ref C) none H)
theorem ok_checked_amount (d_checked_amount : Dv K mg "checked_amount" (top 17) ["amount"]) (B : Bl mg) (C : Co mg) (R : Er K mg) (d_checked_number : Dv K mg "checked_number" (top 15) ["number", "low", "high"]) (G_checked_number : FnOk P w K mg base (CXb P w) 1 d_checked_number.f d_checked_number.fd ["number", "low", "high"] (sp_checked_number R.c_BadNumber)) : FnOk P w K mg base (CXb P w) 2 d_checked_amount.f d_checked_amount.fd ["amount"] (sp_checked_amount R.c_BadNumber) := by
  refine d_checked_amount.F.okx sc_checked_amount (fun vs H Q E h => ?_) (fun cdv A outer s H vs Q E hr h => ?_)
  · refine Classical.byContradiction fun hnzq => ?_; obtain ⟨_, rfl, _⟩ := h; refine hnzq ?_; clear hnzq; rfl
  refine Classical.byContradiction fun hnzq => ?_; obtain ⟨n, rfl, q⟩ := h
  refine hnzq ?_; clear hnzq
  refine ⟨_, (pss_one (ps_ret (pe_call G_checked_number (hr.mono (by decide)) rfl d_checked_number.m d_checked_number.F.kp d_checked_number.b .nil passes_fn (pa_cons (pv 0) (pa_cons pe_int (pa_cons (pe_glob (v := .int 1000000000) rfl C.m_GREATEST_AMOUNT ⟨_, rfl⟩) pa_nil)))))), ?_⟩
  exact ⟨_, rfl, _, _, _, rfl, q⟩
theorem sc_checked_side : FnScope ["side"] ["side"] (defScope (top 18)) := ⟨rfl, rfl, rfl, by decide +kernel, rfl, by decide +kernel, by decide +kernel⟩
noncomputable def sp_checked_side (C : Addr) : Sp := fun vs H Q E => ∃ (z : Str), vs = [.str z] ∧ (sideB z = true → ∀ H', Same H H' → Q (.str z) H') ∧ (sideB z = false → ∀ H', Same H H' → E (.ref C) none H')
theorem ok_checked_side (d_checked_side : Dv K mg "checked_side" (top 18) ["side"]) (B : Bl mg) (C : Co mg) (R : Er K mg)  : FnOk P w K mg base (CXb P w) 1 d_checked_side.f d_checked_side.fd ["side"] (sp_checked_side R.c_BadSide) := by
  refine d_checked_side.F.okx sc_checked_side (fun vs H Q E h => ?_) (fun cdv A outer s H vs Q E hr h => ?_)
  · refine Classical.byContradiction fun hnzq => ?_; obtain ⟨_, rfl, _⟩ := h; refine hnzq ?_; clear hnzq; rfl
  refine Classical.byContradiction fun hnzq => ?_; obtain ⟨z, rfl, q, qe⟩ := h
  refine hnzq ?_; clear hnzq
  refine ⟨_, (pss_cons (ps_if (pt_cmpR op_notIn_seq (pv 0) (pe_tup (pa_cons pe_str (pa_cons pe_str pa_nil))) rfl) (pss_one (ps_raise raises_fn rfl rfl R.m_BadSide R.x_BadSide (pa_cons pe_str pa_nil))) pss_nil) (pss_one (ps_ret (pv 0)))), ?_⟩
  refine ⟨_, rfl, by (first | exact szOk (Nat.le_of_ble_eq_true rfl) | exact szLt (Nat.le_of_ble_eq_true rfl) | omega), fun t ht => ⟨t, _, rfl, .inr (.inl (.inl upd_same)), rfl, rfl, _, rfl, ?_⟩⟩
  rw [side_in]
  cases e : sideB z with
  | false => exact iteT ⟨by (first | exact szOk (Nat.le_of_ble_eq_true rfl) | exact szLt (Nat.le_of_ble_eq_true rfl) | omega), qe e _ (same_upd ht)⟩
  | true => exact iteF ⟨_, rfl, q e _ (same_upd ht)⟩
theorem sc_checked_peak : FnScope ["peak", "amount"] ["peak", "amount"] (defScope (top 33)) := ⟨rfl, rfl, rfl, by decide +kernel, rfl, by decide +kernel, by decide +kernel⟩
noncomputable def sp_checked_peak (C : Addr) : Sp := fun vs H Q E => ∃ (pk am : Int), vs = [.int pk, .int am] ∧ (if pkOk pk am = true then Q (.int pk) H else E (.ref C) none H)
theorem ok_checked_peak (d_checked_peak : Dv K mg "checked_peak" (top 33) ["peak", "amount"]) (B : Bl mg) (C : Co mg) (R : Er K mg) (d_checked_number : Dv K mg "checked_number" (top 15) ["number", "low", "high"]) (G_checked_number : FnOk P w K mg base (CXb P w) 1 d_checked_number.f d_checked_number.fd ["number", "low", "high"] (sp_checked_number R.c_BadNumber)) : FnOk P w K mg base (CXb P w) 2 d_checked_peak.f d_checked_peak.fd ["peak", "amount"] (sp_checked_peak R.c_BadNumber) := by
  refine d_checked_peak.F.okx sc_checked_peak (fun vs H Q E h => ?_) (fun cdv A outer s H vs Q E hr h => ?_)
  · refine Classical.byContradiction fun hnzq => ?_; obtain ⟨_, _, rfl, _⟩ := h; refine hnzq ?_; clear hnzq; rfl
  refine Classical.byContradiction fun hnzq => ?_; obtain ⟨pk, am, rfl, q⟩ := h
  refine hnzq ?_; clear hnzq
  refine ⟨_, (pss_cons (ps_if (pt_cmpR op_eq (pv 0) pe_int (nomark _)) (pss_one (ps_ret (pv 0))) pss_nil) (pss_cons (ps_expr (pe_call G_checked_number (hr.mono (by decide)) rfl d_checked_number.m d_checked_number.F.kp d_checked_number.b .nil passes_fn (pa_cons (pv 0) (pa_cons pe_int (pa_cons (pv 1) pa_nil))))) (pss_cons (ps_if (pt_cmpR op_lt (pe_op op_mul (pe_glob (v := .int 16) rfl C.m_MOST_PEAKS ⟨_, rfl⟩) (pv 0)) (pv 1) (nomark _)) (pss_one (ps_raise raises_fn rfl rfl R.m_BadNumber R.x_BadNumber (pa_cons pe_str pa_nil))) pss_nil) (pss_one (ps_ret (pv 0)))))), ?_⟩
  refine ⟨_, rfl, rfl, _, rfl, ?_⟩
  refine ite2 (fun c => ?_) (fun c => ?_)
  · have c' : pk = 0 := by simpa using c
    rw [if_pos (by unfold pkOk; rw [decide_eq_true c']; rfl)] at q
    exact ⟨_, rfl, q⟩
  · have c' : ¬ pk = 0 := by simpa using c
    refine ⟨_, rfl, _, rfl, _, _, _, rfl, ?_⟩
    by_cases h : 1 ≤ pk ∧ pk ≤ am
    · rw [if_pos h]
      refine ⟨_, rfl, _, _, rfl, rfl, .inl ⟨by decide, by decide⟩, _, rfl, _, _, rfl, rfl, _, rfl, ?_⟩
      refine ite2 (fun c2 => ?_) (fun c2 => ?_)
      · have c3 : 16 * pk < am := of_decide_eq_true c2
        rw [if_neg (by unfold pkOk; rw [decide_eq_false c', decide_eq_false (show ¬ am ≤ 16 * pk by (exact Int.not_le.mpr (by assumption)))]; simp)] at q
        exact ⟨by (first | exact szOk (Nat.le_of_ble_eq_true rfl) | exact szLt (Nat.le_of_ble_eq_true rfl) | omega), q⟩
      · have c3 : ¬ 16 * pk < am := fun z => c2 (decide_eq_true z)
        rw [if_pos (by unfold pkOk; rw [decide_eq_true h, decide_eq_true (show am ≤ 16 * pk by (exact Int.le_of_not_gt (by assumption)))]; simp)] at q
        exact ⟨_, rfl, q⟩
    · rw [if_neg h]
      rw [if_neg (by unfold pkOk; rw [decide_eq_false c', decide_eq_false h]; simp)] at q
      exact q
theorem sc_shown_anew : FnScope ["left", "peak"] ["left", "peak"] (defScope (top 34)) := ⟨rfl, rfl, rfl, by decide +kernel, rfl, by decide +kernel, by decide +kernel⟩
noncomputable def sp_shown_anew (K : PySem.W.Frag) : Sp := fun vs H Q _ => ∃ (l pk : Int), vs = [.int l, .int pk] ∧ Q (.int (shw l pk)) H
theorem ok_shown_anew (d_shown_anew : Dv K mg "shown_anew" (top 34) ["left", "peak"]) (B : Bl mg) (C : Co mg) (R : Er K mg)  : FnOk P w K mg base CX0 1 d_shown_anew.f d_shown_anew.fd ["left", "peak"] (sp_shown_anew K) := by
  refine d_shown_anew.F.ok sc_shown_anew (fun vs H Q E h => ?_) (fun cdv A outer s H vs Q E hr h => ?_)
  · refine Classical.byContradiction fun hnzq => ?_; obtain ⟨_, _, rfl, _⟩ := h; refine hnzq ?_; clear hnzq; rfl
  refine Classical.byContradiction fun hnzq => ?_; obtain ⟨l, pk, rfl, q⟩ := h
  refine hnzq ?_; clear hnzq
  refine ⟨_, (pss_cons (ps_if (pt_cmpR op_eq (pv 1) pe_int (nomark _)) (pss_one (ps_ret (pv 0))) pss_nil) (pss_one (ps_ret (pe_callB (call_min2 rfl) rfl B.b_min PyProof.Rows.boot_min (pa_cons (pv 1) (pa_cons (pv 0) pa_nil)))))), ?_⟩
  unfold shw at q
  refine ⟨_, rfl, rfl, _, rfl, ?_⟩
  refine ite2 (fun c => ?_) (fun c => ?_)
  · rw [if_pos (show pk = 0 by simpa using c)] at q
    exact ⟨_, rfl, q⟩
  · rw [if_neg (show ¬ pk = 0 by simpa using c)] at q
    exact ⟨_, rfl, _, rfl, _, _, rfl, q⟩
theorem sc_made : FnScope ["name", "who", "side", "price", "amount", "peak"] ["name", "who", "side", "price", "amount", "peak"] (defScope (top 27)) := ⟨rfl, rfl, rfl, by decide +kernel, rfl, by decide +kernel, by decide +kernel⟩
noncomputable def sp_made (CN CS CB : Addr) : Sp := fun vs H Q E => ∃ (nm wh sd : Str) (pr am pk : Int), vs = [.str nm, .str wh, .str sd, .int pr, .int am, .int pk] ∧ nm.cps.size ≤ 16777216 ∧ wh.cps.size ≤ 16777216 ∧ ((nameB nm && nameB wh) = false → ∀ H', Same H H' → E (.ref CN) none H') ∧ ((nameB nm && nameB wh) = true → sideB sd = false → ∀ H', Same H H' → E (.ref CS) none H') ∧ ((nameB nm && nameB wh) = true → sideB sd = true → numB pr am pk = false → ∀ H', Same H H' → E (.ref CB) none H') ∧ ((nameB nm && nameB wh) = true → sideB sd = true → numB pr am pk = true → ∀ H' t, Same H H' → H' t = some (.tup (ordV nm wh sd pr am (shw am pk) pk)) → Q (.ref t) H')
theorem ok_made (d_made : DvD K mg "made" (top 27) ["name", "who", "side", "price", "amount", "peak"] [.int 0]) (B : Bl mg) (C : Co mg) (R : Er K mg) (d_checked_name : Dv K mg "checked_name" (top 14) ["text"]) (G_checked_name : FnOk P w K mg base (CXb P w) 2 d_checked_name.f d_checked_name.fd ["text"] (sp_checked_name R.c_BadName)) (d_checked_side : Dv K mg "checked_side" (top 18) ["side"]) (G_checked_side : FnOk P w K mg base (CXb P w) 1 d_checked_side.f d_checked_side.fd ["side"] (sp_checked_side R.c_BadSide)) (d_checked_price : Dv K mg "checked_price" (top 16) ["price"]) (G_checked_price : FnOk P w K mg base (CXb P w) 2 d_checked_price.f d_checked_price.fd ["price"] (sp_checked_price R.c_BadNumber)) (d_checked_amount : Dv K mg "checked_amount" (top 17) ["amount"]) (G_checked_amount : FnOk P w K mg base (CXb P w) 2 d_checked_amount.f d_checked_amount.fd ["amount"] (sp_checked_amount R.c_BadNumber)) (d_checked_peak : Dv K mg "checked_peak" (top 33) ["peak", "amount"]) (G_checked_peak : FnOk P w K mg base (CXb P w) 2 d_checked_peak.f d_checked_peak.fd ["peak", "amount"] (sp_checked_peak R.c_BadNumber)) (d_shown_anew : Dv K mg "shown_anew" (top 34) ["left", "peak"]) (G_shown_anew : FnOk P w K mg base CX0 1 d_shown_anew.f d_shown_anew.fd ["left", "peak"] (sp_shown_anew K)) : FnOk P w K mg base (CXb P w) 3 d_made.f d_made.fd ["name", "who", "side", "price", "amount", "peak"] (sp_made R.c_BadName R.c_BadSide R.c_BadNumber) := by
  refine d_made.F.okx sc_made (fun vs H Q E h => ?_) (fun cdv A outer s H vs Q E hr h => ?_)
  · refine Classical.byContradiction fun hnzq => ?_; obtain ⟨_, _, _, _, _, _, rfl, _⟩ := h; refine hnzq ?_; clear hnzq; rfl
  refine Classical.byContradiction fun hnzq => ?_; obtain ⟨nm, wh, sd, pr, am, pk, rfl, h1, h2, qn, qs, qb, q⟩ := h
  refine hnzq ?_; clear hnzq
  refine ⟨_, (pss_cons (ps_expr (pe_call G_checked_name (hr.mono (by decide)) rfl d_checked_name.m d_checked_name.F.kp d_checked_name.b .nil passes_fn (pa_cons (pv 0) pa_nil))) (pss_cons (ps_expr (pe_call G_checked_name (hr.mono (by decide)) rfl d_checked_name.m d_checked_name.F.kp d_checked_name.b .nil passes_fn (pa_cons (pv 1) pa_nil))) (pss_cons (ps_expr (pe_call G_checked_side (hr.mono (by decide)) rfl d_checked_side.m d_checked_side.F.kp d_checked_side.b .nil passes_fn (pa_cons (pv 2) pa_nil))) (pss_cons (ps_expr (pe_call G_checked_price (hr.mono (by decide)) rfl d_checked_price.m d_checked_price.F.kp d_checked_price.b .nil passes_fn (pa_cons (pv 3) pa_nil))) (pss_cons (ps_expr (pe_call G_checked_amount (hr.mono (by decide)) rfl d_checked_amount.m d_checked_amount.F.kp d_checked_amount.b .nil passes_fn (pa_cons (pv 4) pa_nil))) (pss_cons (ps_expr (pe_call G_checked_peak (hr.mono (by decide)) rfl d_checked_peak.m d_checked_peak.F.kp d_checked_peak.b .nil passes_fn (pa_cons (pv 5) (pa_cons (pv 4) pa_nil)))) (pss_one (ps_ret (pe_tup (pa_cons (pv 0) (pa_cons (pv 1) (pa_cons (pv 2) (pa_cons (pv 3) (pa_cons (pv 4) (pa_cons (pe_call G_shown_anew (hr.mono (by decide)) rfl d_shown_anew.m d_shown_anew.F.kp d_shown_anew.b .nil pass0 (pa_cons (pv 4) (pa_cons (pv 5) pa_nil))) (pa_cons (pv 5) pa_nil)))))))))))))))), ?_⟩
  refine ⟨_, rfl, nm, rfl, h1, fun e1 H1 s1 => ?_, fun e1 H1 s1 => qn (by rw [e1]; rfl) H1 s1⟩
  refine ⟨_, rfl, wh, rfl, h2, fun e2 H2 s2 => ?_, fun e2 H2 s2 => qn (by rw [e1, e2]; rfl) H2 (s1.trans s2)⟩
  have en : (nameB nm && nameB wh) = true := by rw [e1, e2]; rfl
  refine ⟨_, rfl, sd, rfl, fun e3 H3 s3 => ?_, fun e3 H3 s3 => qs en e3 H3 ((s1.trans s2).trans s3)⟩
  have sA := (s1.trans s2).trans s3
  refine ⟨_, rfl, pr, rfl, ?_⟩
  by_cases c4 : 1 ≤ pr ∧ pr ≤ 1000000000
  · rw [if_pos c4]
    refine ⟨_, rfl, am, rfl, ?_⟩
    by_cases c5 : 1 ≤ am ∧ am ≤ 1000000000
    · rw [if_pos c5]
      refine ⟨_, rfl, _, rfl, pk, am, rfl, ?_⟩
      cases e6 : pkOk pk am with
      | false =>
        rw [if_neg Bool.false_ne_true]
        exact qb en e3 (by unfold numB; rw [e6]; simp) H3 sA
      | true =>
        rw [if_pos rfl]
        refine ⟨_, rfl, _, rfl, _, rfl, _, rfl, _, rfl, _, rfl, _, rfl, _, _, rfl, _, rfl, by (first | exact szOk (Nat.le_of_ble_eq_true rfl) | exact szLt (Nat.le_of_ble_eq_true rfl) | omega), fun t ht => ?_⟩
        exact q en e3 (by unfold numB; rw [e6, decide_eq_true c4, decide_eq_true c5]; rfl) _ t (same_upd' sA ht) upd_same
    · rw [if_neg c5]
      exact qb en e3 (by unfold numB; rw [decide_eq_false c5]; simp) H3 sA
  · rw [if_neg c4]
    exact qb en e3 (by unfold numB; rw [decide_eq_false c4]; simp) H3 sA
theorem sc_with_parts : FnScope ["order", "left", "shown"] ["order", "left", "shown"] (defScope (top 35)) := ⟨rfl, rfl, rfl, by decide +kernel, rfl, by decide +kernel, by decide +kernel⟩
noncomputable def sp_with_parts (K : PySem.W.Frag) : Sp := fun vs H Q _ => ∃ (o : Addr) (n w s : Str) (pr l sh pk l' sh' : Int), vs = [.ref o, .int l', .int sh'] ∧ H o = some (.tup (ordV n w s pr l sh pk)) ∧ ∀ H' t, Same H H' → H' t = some (.tup (ordV n w s pr l' sh' pk)) → Q (.ref t) H'
theorem ok_with_parts (d_with_parts : Dv K mg "with_parts" (top 35) ["order", "left", "shown"]) (B : Bl mg) (C : Co mg) (R : Er K mg)  : FnOk P w K mg base CX0 1 d_with_parts.f d_with_parts.fd ["order", "left", "shown"] (sp_with_parts K) := by
  refine d_with_parts.F.ok sc_with_parts (fun vs H Q E h => ?_) (fun cdv A outer s H vs Q E hr h => ?_)
  · refine Classical.byContradiction fun hnzq => ?_; obtain ⟨_, _, _, _, _, _, _, _, _, _, rfl, _⟩ := h; refine hnzq ?_; clear hnzq; rfl
  refine Classical.byContradiction fun hnzq => ?_; obtain ⟨o, n, w0, s0, pr, l, sh, pk, l', sh', rfl, ho, q⟩ := h
  refine hnzq ?_; clear hnzq
  refine ⟨_, (pss_one (ps_ret (pe_op op_catT (pe_slice sl_tup (pv 0) po_none (po_some (pe_glob (v := .int 4) rfl C.m_LEFT ⟨_, rfl⟩))) (pe_tup (pa_cons (pv 1) (pa_cons (pv 2) (pa_cons (pe_ix ix_tup (pv 0) (pe_glob (v := .int 6) rfl C.m_PEAK ⟨_, rfl⟩) (fun _ _ => rfl)) pa_nil))))))), ?_⟩
  refine ⟨_, rfl, _, rfl, o, _, rfl, .inl (.inl ho), ord_cut _ _ _ _ _ _ _, fun p hp => ?_⟩
  refine ⟨_, rfl, _, rfl, _, rfl, o, _, _, _, rfl, rfl, .inl (.inl (at_upd ho hp)), rfl, by (first | exact szOk (Nat.le_of_ble_eq_true rfl) | exact szLt (Nat.le_of_ble_eq_true rfl) | omega), fun t2 ht2 => ?_⟩
  refine ⟨p, t2, _, _, rfl, rfl, .inl (.inl (at_upd upd_same ht2)), .inl (.inl upd_same), (by intro z; cases z), by (first | exact szOk (Nat.le_of_ble_eq_true rfl) | exact szLt (Nat.le_of_ble_eq_true rfl) | omega), (by intro z; cases z), fun _ t ht => ?_⟩
  exact q _ t (same_upd' (same_upd' (same_upd hp) ht2) ht) upd_same
theorem sc_fresh : FnScope ["order", "left"] ["order", "left"] (defScope (top 28)) := ⟨rfl, rfl, rfl, by decide +kernel, rfl, by decide +kernel, by decide +kernel⟩
noncomputable def sp_fresh (K : PySem.W.Frag) : Sp := fun vs H Q _ => ∃ (o : Addr) (n w s : Str) (pr l sh pk l' : Int), vs = [.ref o, .int l'] ∧ H o = some (.tup (ordV n w s pr l sh pk)) ∧ ∀ H' t, Same H H' → H' t = some (.tup (ordV n w s pr l' (shw l' pk) pk)) → Q (.ref t) H'
theorem ok_fresh (d_fresh : Dv K mg "fresh" (top 28) ["order", "left"]) (B : Bl mg) (C : Co mg) (R : Er K mg) (d_with_parts : Dv K mg "with_parts" (top 35) ["order", "left", "shown"]) (G_with_parts : FnOk P w K mg base CX0 1 d_with_parts.f d_with_parts.fd ["order", "left", "shown"] (sp_with_parts K)) (d_shown_anew : Dv K mg "shown_anew" (top 34) ["left", "peak"]) (G_shown_anew : FnOk P w K mg base CX0 1 d_shown_anew.f d_shown_anew.fd ["left", "peak"] (sp_shown_anew K)) : FnOk P w K mg base CX0 2 d_fresh.f d_fresh.fd ["order", "left"] (sp_fresh K) := by
  refine d_fresh.F.ok sc_fresh (fun vs H Q E h => ?_) (fun cdv A outer s H vs Q E hr h => ?_)
  · refine Classical.byContradiction fun hnzq => ?_; obtain ⟨_, _, _, _, _, _, _, _, _, rfl, _⟩ := h; refine hnzq ?_; clear hnzq; rfl
  refine Classical.byContradiction fun hnzq => ?_; obtain ⟨o, n, w0, s0, pr, l, sh, pk, l', rfl, ho, q⟩ := h
  refine hnzq ?_; clear hnzq
  refine ⟨_, (pss_one (ps_ret (pe_call G_with_parts (hr.mono (by decide)) rfl d_with_parts.m d_with_parts.F.kp d_with_parts.b .nil pass0 (pa_cons (pv 0) (pa_cons (pv 1) (pa_cons (pe_call G_shown_anew (hr.mono (by decide)) rfl d_shown_anew.m d_shown_anew.F.kp d_shown_anew.b .nil pass0 (pa_cons (pv 1) (pa_cons (pe_ix ix_tup (pv 0) (pe_glob (v := .int 6) rfl C.m_PEAK ⟨_, rfl⟩) (fun _ _ => rfl)) pa_nil))) pa_nil)))))), ?_⟩
  exact ⟨_, rfl, _, rfl, _, rfl, _, rfl, o, _, _, _, rfl, rfl, .inl (.inl ho), rfl, _, _, rfl, o, n, w0, s0, pr, l, sh, pk, l', _, rfl, ho, q⟩
theorem sc_renews : FnScope ["order", "amount"] ["order", "amount"] (defScope (top 30)) := ⟨rfl, rfl, rfl, by decide +kernel, rfl, by decide +kernel, by decide +kernel⟩
noncomputable def sp_renews (K : PySem.W.Frag) : Sp := fun vs H Q _ => ∃ (o : Addr) (n w s : Str) (pr l sh pk am : Int), vs = [.ref o, .int am] ∧ H o = some (.tup (ordV n w s pr l sh pk)) ∧ Q (.bl (decide (sh = am) && decide (am < l))) H
theorem ok_renews (d_renews : Dv K mg "renews" (top 30) ["order", "amount"]) (B : Bl mg) (C : Co mg) (R : Er K mg)  : FnOk P w K mg base CX0 1 d_renews.f d_renews.fd ["order", "amount"] (sp_renews K) := by
  refine d_renews.F.ok sc_renews (fun vs H Q E h => ?_) (fun cdv A outer s H vs Q E hr h => ?_)
  · refine Classical.byContradiction fun hnzq => ?_; obtain ⟨_, _, _, _, _, _, _, _, _, rfl, _⟩ := h; refine hnzq ?_; clear hnzq; rfl
  refine Classical.byContradiction fun hnzq => ?_; obtain ⟨o, n, w0, s0, pr, l, sh, pk, am, rfl, ho, q⟩ := h
  refine hnzq ?_; clear hnzq
  refine ⟨_, (pss_one (ps_ret (pe_and (pe_cmpR op_eq (pe_ix ix_tup (pv 0) (pe_glob (v := .int 5) rfl C.m_SHOWN ⟨_, rfl⟩) (fun _ _ => rfl)) (pv 1) (nomark _)) (pe_one (pe_cmpR op_gt (pe_ix ix_tup (pv 0) (pe_glob (v := .int 4) rfl C.m_LEFT ⟨_, rfl⟩) (fun _ _ => rfl)) (pv 1) (nomark _)))))), ?_⟩
  refine ⟨_, rfl, o, _, _, _, rfl, rfl, .inl (.inl ho), rfl, _, rfl, rfl, _, rfl, ?_⟩
  refine ite2 (fun c => ?_) (fun c => ?_)
  · rw [show decide (sh = am) = true from decide_eq_true (by simpa using c), Bool.true_and] at q
    exact ⟨_, rfl, o, _, _, _, rfl, rfl, .inl (.inl ho), rfl, _, rfl, _, _, rfl, rfl, q⟩
  · rw [show decide (sh = am) = false from decide_eq_false (by simpa using c), Bool.false_and] at q
    exact q
theorem sc_filled : FnScope ["order", "amount", "left"] ["order", "amount"] (defScope (top 29)) := ⟨rfl, rfl, rfl, by decide +kernel, rfl, by decide +kernel, by decide +kernel⟩
noncomputable def sp_filled (C : Addr) : Sp := fun vs H Q E => ∃ (o : Addr) (n w s : Str) (pr l sh pk am : Int), vs = [.ref o, .int am] ∧ H o = some (.tup (ordV n w s pr l sh pk)) ∧ (¬ (1 ≤ am ∧ am ≤ sh) → E (.ref C) none H) ∧ (1 ≤ am → am ≤ sh → l = am → Q .non H) ∧ (1 ≤ am → am ≤ sh → l ≠ am → ∀ H' t, Same H H' → H' t = some (.tup (ordV n w s pr (l - am) (if sh = am ∧ am < l then shw (l - am) pk else sh - am) pk)) → Q (.ref t) H')
theorem ok_filled (d_filled : Dv K mg "filled" (top 29) ["order", "amount"]) (B : Bl mg) (C : Co mg) (R : Er K mg) (d_checked_number : Dv K mg "checked_number" (top 15) ["number", "low", "high"]) (G_checked_number : FnOk P w K mg base (CXb P w) 1 d_checked_number.f d_checked_number.fd ["number", "low", "high"] (sp_checked_number R.c_BadNumber)) (d_renews : Dv K mg "renews" (top 30) ["order", "amount"]) (G_renews : FnOk P w K mg base CX0 1 d_renews.f d_renews.fd ["order", "amount"] (sp_renews K)) (d_fresh : Dv K mg "fresh" (top 28) ["order", "left"]) (G_fresh : FnOk P w K mg base CX0 2 d_fresh.f d_fresh.fd ["order", "left"] (sp_fresh K)) (d_with_parts : Dv K mg "with_parts" (top 35) ["order", "left", "shown"]) (G_with_parts : FnOk P w K mg base CX0 1 d_with_parts.f d_with_parts.fd ["order", "left", "shown"] (sp_with_parts K)) : FnOk P w K mg base (CXb P w) 3 d_filled.f d_filled.fd ["order", "amount"] (sp_filled R.c_BadNumber) := by
  refine d_filled.F.okx sc_filled (fun vs H Q E h => ?_) (fun cdv A outer s H vs Q E hr h => ?_)
  · refine Classical.byContradiction fun hnzq => ?_; obtain ⟨_, _, _, _, _, _, _, _, _, rfl, _⟩ := h; refine hnzq ?_; clear hnzq; rfl
  refine Classical.byContradiction fun hnzq => ?_; obtain ⟨o, n, w0, s0, pr, l, sh, pk, am, rfl, ho, qe, q0, q⟩ := h
  refine hnzq ?_; clear hnzq
  refine ⟨_, (pss_cons (ps_expr (pe_call G_checked_number (hr.mono (by decide)) rfl d_checked_number.m d_checked_number.F.kp d_checked_number.b .nil passes_fn (pa_cons (pv 1) (pa_cons pe_int (pa_cons (pe_ix ix_tup (pv 0) (pe_glob (v := .int 5) rfl C.m_SHOWN ⟨_, rfl⟩) (fun _ _ => rfl)) pa_nil))))) (pss_cons (ps_set (i := 2) sc_filled.nd rfl (Or.inl rfl) (pe_op op_sub (pe_ix ix_tup (pv 0) (pe_glob (v := .int 4) rfl C.m_LEFT ⟨_, rfl⟩) (fun _ _ => rfl)) (pv 1))) (pss_cons (ps_if (pt_cmpR op_eq (pv 2) pe_int (nomark _)) (pss_one (ps_ret pe_non)) pss_nil) (pss_cons (ps_if (pt_val (pe_call G_renews (hr.mono (by decide)) rfl d_renews.m d_renews.F.kp d_renews.b .nil pass0 (pa_cons (pv 0) (pa_cons (pv 1) pa_nil))) (fun _ => rfl)) (pss_one (ps_ret (pe_call G_fresh (hr.mono (by decide)) rfl d_fresh.m d_fresh.F.kp d_fresh.b .nil pass0 (pa_cons (pv 0) (pa_cons (pv 2) pa_nil))))) pss_nil) (pss_one (ps_ret (pe_call G_with_parts (hr.mono (by decide)) rfl d_with_parts.m d_with_parts.F.kp d_with_parts.b .nil pass0 (pa_cons (pv 0) (pa_cons (pv 2) (pa_cons (pe_op op_sub (pe_ix ix_tup (pv 0) (pe_glob (v := .int 5) rfl C.m_SHOWN ⟨_, rfl⟩) (fun _ _ => rfl)) (pv 1)) pa_nil)))))))))), ?_⟩
  refine ⟨_, rfl, _, rfl, o, _, _, _, rfl, rfl, .inl (.inl ho), rfl, _, _, _, rfl, ?_⟩
  by_cases h : 1 ≤ am ∧ am ≤ sh
  · rw [if_pos h]
    refine ⟨_, rfl, o, _, _, _, rfl, rfl, .inl (.inl ho), rfl, _, rfl, _, _, rfl, rfl, ?_⟩
    refine ⟨_, rfl, rfl, _, rfl, ?_⟩
    refine ite2 (fun c => ?_) (fun c => ?_)
    · have c' : l - am = 0 := by simpa using c
      exact q0 h.1 h.2 (by lia)
    · have c' : ¬ l - am = 0 := by simpa using c
      have q' := q h.1 h.2 (by lia)
      refine ⟨_, rfl, _, rfl, o, n, w0, s0, pr, l, sh, pk, am, rfl, ho, _, rfl, ?_⟩
      refine ite2 (fun c2 => ?_) (fun c2 => ?_)
      · have c3 : sh = am ∧ am < l := by simpa using c2
        rw [if_pos c3] at q'
        exact ⟨_, rfl, _, rfl, o, n, w0, s0, pr, l, sh, pk, _, rfl, ho, q'⟩
      · have c3 : ¬ (sh = am ∧ am < l) := by simpa using c2
        rw [if_neg c3] at q'
        exact ⟨_, rfl, _, rfl, _, rfl, o, _, _, _, rfl, rfl, .inl (.inl ho), rfl, _, rfl, _, _, rfl, rfl, o, n, w0, s0, pr, l, sh, pk, _, _, rfl, ho, q'⟩
  · rw [if_neg h]
    exact qe h
theorem sc_lessened : FnScope ["order", "left"] ["order", "left"] (defScope (top 31)) := ⟨rfl, rfl, rfl, by decide +kernel, rfl, by decide +kernel, by decide +kernel⟩
noncomputable def sp_lessened (C : Addr) : Sp := fun vs H Q E => ∃ (o : Addr) (n w s : Str) (pr l sh pk l' : Int), vs = [.ref o, .int l'] ∧ H o = some (.tup (ordV n w s pr l sh pk)) ∧ (¬ (1 ≤ l' ∧ l' ≤ l) → E (.ref C) none H) ∧ (1 ≤ l' → l' ≤ l → ∀ H' t, Same H H' → H' t = some (.tup (ordV n w s pr l' (if l' < sh then l' else sh) pk)) → Q (.ref t) H')
theorem ok_lessened (d_lessened : Dv K mg "lessened" (top 31) ["order", "left"]) (B : Bl mg) (C : Co mg) (R : Er K mg) (d_checked_number : Dv K mg "checked_number" (top 15) ["number", "low", "high"]) (G_checked_number : FnOk P w K mg base (CXb P w) 1 d_checked_number.f d_checked_number.fd ["number", "low", "high"] (sp_checked_number R.c_BadNumber)) (d_with_parts : Dv K mg "with_parts" (top 35) ["order", "left", "shown"]) (G_with_parts : FnOk P w K mg base CX0 1 d_with_parts.f d_with_parts.fd ["order", "left", "shown"] (sp_with_parts K)) : FnOk P w K mg base (CXb P w) 2 d_lessened.f d_lessened.fd ["order", "left"] (sp_lessened R.c_BadNumber) := by
  refine d_lessened.F.okx sc_lessened (fun vs H Q E h => ?_) (fun cdv A outer s H vs Q E hr h => ?_)
  · refine Classical.byContradiction fun hnzq => ?_; obtain ⟨_, _, _, _, _, _, _, _, _, rfl, _⟩ := h; refine hnzq ?_; clear hnzq; rfl
  refine Classical.byContradiction fun hnzq => ?_; obtain ⟨o, n, w0, s0, pr, l, sh, pk, l', rfl, ho, qe, q⟩ := h
  refine hnzq ?_; clear hnzq
  refine ⟨_, (pss_cons (ps_expr (pe_call G_checked_number (hr.mono (by decide)) rfl d_checked_number.m d_checked_number.F.kp d_checked_number.b .nil passes_fn (pa_cons (pv 1) (pa_cons pe_int (pa_cons (pe_ix ix_tup (pv 0) (pe_glob (v := .int 4) rfl C.m_LEFT ⟨_, rfl⟩) (fun _ _ => rfl)) pa_nil))))) (pss_one (ps_ret (pe_call G_with_parts (hr.mono (by decide)) rfl d_with_parts.m d_with_parts.F.kp d_with_parts.b .nil pass0 (pa_cons (pv 0) (pa_cons (pv 1) (pa_cons (pe_callB (call_min2 rfl) rfl B.b_min PyProof.Rows.boot_min (pa_cons (pe_ix ix_tup (pv 0) (pe_glob (v := .int 5) rfl C.m_SHOWN ⟨_, rfl⟩) (fun _ _ => rfl)) (pa_cons (pv 1) pa_nil))) pa_nil))))))), ?_⟩
  refine ⟨_, rfl, _, rfl, o, _, _, _, rfl, rfl, .inl (.inl ho), rfl, _, _, _, rfl, ?_⟩
  by_cases h : 1 ≤ l' ∧ l' ≤ l
  · rw [if_pos h]
    exact ⟨_, rfl, _, rfl, _, rfl, o, _, _, _, rfl, rfl, .inl (.inl ho), rfl, _, rfl, _, _, rfl, o, n, w0, s0, pr, l, sh, pk, l', _, rfl, ho, q h.1 h.2⟩
  · rw [if_neg h]
    exact qe h
theorem sc_ahead : FnScope ["side", "price", "other"] ["side", "price", "other"] (defScope (top 32)) := ⟨rfl, rfl, rfl, by decide +kernel, rfl, by decide +kernel, by decide +kernel⟩
noncomputable def sp_ahead (K : PySem.W.Frag) : Sp := fun vs H Q _ => ∃ (s : Str) (p o : Int), vs = [.str s, .int p, .int o] ∧ Q (.bl (aheadB s p o)) H
theorem ok_ahead (d_ahead : Dv K mg "ahead" (top 32) ["side", "price", "other"]) (B : Bl mg) (C : Co mg) (R : Er K mg)  : FnOk P w K mg base CX0 1 d_ahead.f d_ahead.fd ["side", "price", "other"] (sp_ahead K) := by
  refine d_ahead.F.ok sc_ahead (fun vs H Q E h => ?_) (fun cdv A outer s H vs Q E hr h => ?_)
  · refine Classical.byContradiction fun hnzq => ?_; obtain ⟨_, _, _, rfl, _⟩ := h; refine hnzq ?_; clear hnzq; rfl
  refine Classical.byContradiction fun hnzq => ?_; obtain ⟨sd, p, o, rfl, q⟩ := h
  refine hnzq ?_; clear hnzq
  refine ⟨_, (pss_cons (ps_if (pt_cmpR op_eq (pv 0) pe_str (nomark _)) (pss_one (ps_ret (pe_cmpR op_gt (pv 1) (pv 2) (nomark _)))) pss_nil) (pss_one (ps_ret (pe_cmpR op_lt (pv 1) (pv 2) (nomark _))))), ?_⟩
  unfold aheadB at q
  refine ⟨_, rfl, rfl, _, rfl, ?_⟩
  refine ite2 (fun c => ?_) (fun c => ?_)
  · rw [if_pos (by simpa using c)] at q
    exact ⟨_, rfl, _, rfl, _, _, rfl, rfl, q⟩
  · rw [if_neg (by simpa using c)] at q
    exact ⟨_, rfl, _, rfl, _, _, rfl, rfl, q⟩
theorem sc_names_of : FnScope ["orders"] ["orders"] (defScope (top 44)) := ⟨rfl, rfl, rfl, by decide +kernel, rfl, by decide +kernel, by decide +kernel⟩
noncomputable def sp_names_of (K : PySem.W.Frag) : Sp := fun vs H Q _ => ∃ (p : Addr) (ps : List AO), vs = [.ref p] ∧ SqL K H p (ps.map rf) ∧ Ords H ps ∧ ps.length ≤ 1000 ∧ ∀ (H' : Hp) (l : Addr), Same H H' → H' l = some (.lst (ps.map fun x => V.str x.2.n)) → Q (.ref l) H'
theorem ok_names_of (d_names_of : Dv K mg "names_of" (top 44) ["orders"]) (B : Bl mg) (C : Co mg) (R : Er K mg)  : FnOk P w K mg base CX0 1 d_names_of.f d_names_of.fd ["orders"] (sp_names_of K) := by
  refine d_names_of.F.ok sc_names_of (fun vs H Q E h => ?_) (fun cdv A outer s H vs Q E hr h => ?_)
  · refine Classical.byContradiction fun hnzq => ?_; obtain ⟨_, _, rfl, _⟩ := h; refine hnzq ?_; clear hnzq; rfl
  refine Classical.byContradiction fun hnzq => ?_; obtain ⟨p, ps, rfl, hS, hO, hl, q⟩ := h
  refine hnzq ?_; clear hnzq
  refine ⟨_, (pss_one (ps_ret (pe_lc (N := ["orders"]) (sc := defScope (top 44)) ⟨by decide +kernel, rfl, rfl, by decide +kernel, by decide +kernel, by decide +kernel, by decide +kernel⟩ rfl rfl rfl (pi_list (pv 0)) (fun _ _ _ _ _ => pif_nil) (fun _ _ _ _ _ => (pe_ix (ix_tupK (K := K) rfl) (pv 0) (pe_glob (v := .int 0) rfl C.m_NAME ⟨_, rfl⟩) (fun _ _ => rfl)))))), ?_⟩
  refine ⟨_, rfl, p, rfl, ⟨_, hS⟩, ?_⟩
  refine comp_map (fun _ => true) (fun x => V.str x.2.n) hS (szOk (by (exact Nat.le_add_left_of_le (by assumption)))) (fun x H' hx sm R R0 h1 _ => ?_) (fun H' sm l hl' => ?_)
  · have hx' := sm _ _ (hO x hx)
    exact ⟨rfl, iteT (B := R0 H') ⟨_, rfl, x.1, _, _, _, rfl, rfl, .inl (.inl hx'), rfl, h1 rfl _ (Same.refl _)⟩⟩
  · refine q _ l (same_upd' sm hl') ?_
    rw [upd_same, show ps.filter (fun _ => true) = ps by simp]
theorem sc_joining_place : FnScope ["line", "order", "place"] ["line", "order"] (defScope (top 45)) := ⟨rfl, rfl, rfl, by decide +kernel, rfl, by decide +kernel, by decide +kernel⟩
noncomputable def sp_joining_place (K : PySem.W.Frag) : Sp := fun vs H Q _ => ∃ (p : Addr) (ps : List AO) (t : Addr) (o : Od), vs = [.ref p, .ref t] ∧ SqL K H p (ps.map rf) ∧ Ords H ps ∧ H t = some (.tup (odV o)) ∧ ps.length ≤ 1000 ∧ Q (.int (place o.s o.pr ps)) H
theorem ok_joining_place (d_joining_place : Dv K mg "joining_place" (top 45) ["line", "order"]) (B : Bl mg) (C : Co mg) (R : Er K mg) (d_ahead : Dv K mg "ahead" (top 32) ["side", "price", "other"]) (G_ahead : FnOk P w K mg base CX0 1 d_ahead.f d_ahead.fd ["side", "price", "other"] (sp_ahead K)) : FnOk P w K mg base CX0 2 d_joining_place.f d_joining_place.fd ["line", "order"] (sp_joining_place K) := by
  refine d_joining_place.F.ok sc_joining_place (fun vs H Q E h => ?_) (fun cdv A outer s H vs Q E hr h => ?_)
  · refine Classical.byContradiction fun hnzq => ?_; obtain ⟨_, _, _, _, rfl, _⟩ := h; refine hnzq ?_; clear hnzq; rfl
  refine Classical.byContradiction fun hnzq => ?_; obtain ⟨p, ps, t, o, rfl, hS, hO, ht, hl, q⟩ := h
  refine hnzq ?_; clear hnzq
  refine ⟨_, (pss_cons (ps_for PassesOwn.never rfl (pi_range1 rfl B.b_range (pa_cons (pe_callB call_len_seq rfl B.b_len PySem.boot_len (pa_cons (pv 0) pa_nil)) pa_nil)) (pg_name (i := 2) sc_joining_place.nd rfl (Or.inl rfl)) (pss_one (ps_if (pt_val (pe_call G_ahead (hr.mono (by decide)) rfl d_ahead.m d_ahead.F.kp d_ahead.b .nil pass0 (pa_cons (pe_ix ix_tup (pv 1) (pe_glob (v := .int 2) rfl C.m_SIDE ⟨_, rfl⟩) (fun _ _ => rfl)) (pa_cons (pe_ix ix_tup (pv 1) (pe_glob (v := .int 3) rfl C.m_PRICE ⟨_, rfl⟩) (fun _ _ => rfl)) (pa_cons (pe_ix ix_tup (pe_ix ix_list (pv 0) (pv 2) (fun _ _ => rfl)) (pe_glob (v := .int 3) rfl C.m_PRICE ⟨_, rfl⟩) (fun _ _ => rfl)) pa_nil)))) (fun _ => rfl)) (pss_one (ps_ret (pv 2))) pss_nil))) (pss_one (ps_ret (pe_callB call_len_seq rfl B.b_len PySem.boot_len (pa_cons (pv 0) pa_nil))))), ?_⟩
  have hlen : (((ps.map rf).length : Nat) : Int) = ps.length := by rw [List.length_map]
  have hpl := place_le o.s o.pr ps
  refine ⟨_, rfl, p, _, rfl, .inl hS, _, rfl, by (exact Int.ofNat_nonneg _), by omega, ?_⟩
  refine for_range (lo := 0) (fun i σ H' => H = H' ∧ ∃ v2, σ = [some (.ref p), some (.ref t), v2] ∧ i ≤ place o.s o.pr ps) ⟨rfl, none, rfl, Nat.zero_le _⟩ (fun i σ H' hi z => ?_) (fun σ H' z => ?_)
  · refine Classical.byContradiction fun hnzq => ?_; obtain ⟨rfl, v2, rfl, hk⟩ := z
    refine hnzq ?_; clear hnzq
    have c2 : i < ps.length := by lia
    have ax : atI (ps.map rf) (0 + (i : Int)) = some (rf ps[i]) := by rw [Int.zero_add]; exact atI_nat (by rw [List.getElem?_map, List.getElem?_eq_getElem c2]; rfl)
    have hx := hO ps[i] (List.getElem_mem c2)
    refine Classical.byContradiction fun hnzq => ?_; obtain ⟨st1, st2⟩ := place_step o.s o.pr ps i ps[i] (List.getElem?_eq_getElem c2) hk
    refine hnzq ?_; clear hnzq
    refine ⟨_, rfl, t, _, _, _, rfl, rfl, .inl (.inl ht), rfl, _, rfl, t, _, _, _, rfl, rfl, .inl (.inl ht), rfl, _, rfl, _, rfl, p, _, _, _, rfl, rfl, hS, ax, ps[i].1, _, _, _, rfl, rfl, .inl (.inl hx), rfl, _, _, _, rfl, _, rfl, ?_⟩
    refine ite2 (fun c3 => ?_) (fun c3 => ?_)
    · refine ⟨_, rfl, ?_⟩
      rw [Int.zero_add, st2 c3]
      exact q
    · exact ⟨rfl, _, rfl, st1 (by simpa using c3)⟩
  · refine Classical.byContradiction fun hnzq => ?_; obtain ⟨rfl, v2, rfl, hk⟩ := z
    refine hnzq ?_; clear hnzq
    refine ⟨_, rfl, p, _, rfl, .inl hS, ?_⟩
    rw [hlen, show ps.length = place o.s o.pr ps by lia]
    exact q
theorem sc_joined : FnScope ["line", "order", "place"] ["line", "order"] (defScope (top 37)) := ⟨rfl, rfl, rfl, by decide +kernel, rfl, by decide +kernel, by decide +kernel⟩
noncomputable def sp_joined (K : PySem.W.Frag) (C : Addr) : Sp := fun vs H Q E => ∃ (p : Addr) (ps : List AO) (t : Addr) (o : Od), vs = [.ref p, .ref t] ∧ SqL K H p (ps.map rf) ∧ Ords H ps ∧ H t = some (.tup (odV o)) ∧ ps.length ≤ 1000 ∧ (o.n ∈ ps.map (fun x => x.2.n) → ∀ H', Same H H' → E (.ref C) none H') ∧ (o.n ∉ ps.map (fun x => x.2.n) → ∀ (H' : Hp) (l : Addr), Same H H' → H l = none → H' l = some (.lst ((ins (t, o) ps).map rf)) → Q (.ref l) H')
theorem ok_joined (d_joined : Dv K mg "joined" (top 37) ["line", "order"]) (B : Bl mg) (C : Co mg) (R : Er K mg) (d_names_of : Dv K mg "names_of" (top 44) ["orders"]) (G_names_of : FnOk P w K mg base CX0 1 d_names_of.f d_names_of.fd ["orders"] (sp_names_of K)) (d_joining_place : Dv K mg "joining_place" (top 45) ["line", "order"]) (G_joining_place : FnOk P w K mg base CX0 2 d_joining_place.f d_joining_place.fd ["line", "order"] (sp_joining_place K)) : FnOk P w K mg base (CXb P w) 3 d_joined.f d_joined.fd ["line", "order"] (sp_joined K R.c_Twice) := by
  refine d_joined.F.okx sc_joined (fun vs H Q E h => ?_) (fun cdv A outer s H vs Q E hr h => ?_)
  · refine Classical.byContradiction fun hnzq => ?_; obtain ⟨_, _, _, _, rfl, _⟩ := h; refine hnzq ?_; clear hnzq; rfl
  refine Classical.byContradiction fun hnzq => ?_; obtain ⟨p, ps, t, o, rfl, hS, hO, ht, hl, qe, q⟩ := h
  refine hnzq ?_; clear hnzq
  refine ⟨_, (pss_cons (ps_if (pt_cmpR op_in_seq (pe_ix ix_tup (pv 1) (pe_glob (v := .int 0) rfl C.m_NAME ⟨_, rfl⟩) (fun _ _ => rfl)) (pe_call G_names_of (hr.mono (by decide)) rfl d_names_of.m d_names_of.F.kp d_names_of.b .nil pass0 (pa_cons (pv 0) pa_nil)) rfl) (pss_one (ps_raise raises_fn rfl rfl R.m_Twice R.x_Twice (pa_cons pe_str pa_nil))) pss_nil) (pss_cons (ps_set (i := 2) sc_joined.nd rfl (Or.inl rfl) (pe_call G_joining_place (hr.mono (by decide)) rfl d_joining_place.m d_joining_place.F.kp d_joining_place.b .nil pass0 (pa_cons (pv 0) (pa_cons (pv 1) pa_nil)))) (pss_one (ps_ret (pe_op op_cat (pe_op op_cat (pe_slice sl_list (pv 0) po_none (po_some (pv 2))) (pe_lst (pa_cons (pv 1) pa_nil))) (pe_slice sl_list (pv 0) (po_some (pv 2)) po_none)))))), ?_⟩
  refine ⟨_, rfl, t, _, _, _, rfl, rfl, .inl (.inl ht), rfl, _, rfl, p, ps, rfl, hS, hO, hl, fun H1 l1 s1 hl1 => ⟨l1, _, rfl, .inl (.inl (.inl hl1)), rfl, names_flat ps, _, rfl, ?_⟩⟩
  rw [if_neg Bool.false_ne_true, names_in]
  refine ite2 (fun c => ?_) (fun c => ?_)
  · exact ⟨by (first | exact szOk (Nat.le_of_ble_eq_true rfl) | exact szLt (Nat.le_of_ble_eq_true rfl) | omega), qe (of_decide_eq_true c) _ s1⟩
  have q := q (fun z => c (decide_eq_true z))
  have hS1 := s1.seq hS
  have hpl := place_le o.s o.pr ps
  refine ⟨_, rfl, _, rfl, p, ps, t, o, rfl, hS1, hO.same s1, s1 _ _ ht, hl, ?_⟩
  refine ⟨_, rfl, _, rfl, _, rfl, p, _, rfl, hS1, fun q1 hq1 => ⟨_, rfl, by (first | exact szOk (Nat.le_of_ble_eq_true rfl) | exact szLt (Nat.le_of_ble_eq_true rfl) | omega), fun q2 hq2 => ?_⟩⟩
  rw [cut_take ps hpl] at hq2 ⊢
  refine ⟨q1, q2, _, _, rfl, rfl, at_upd upd_same hq2, upd_same, by rw [List.length_map, List.length_take]; exact szOk (by show min _ _ + 1 ≤ _; lia), fun q3 hq3 => ?_⟩
  have s3 := same_upd' (u := .lst ((ps.take (place o.s o.pr ps)).map rf ++ [V.ref t])) (same_upd' (u := .lst [V.ref t]) (same_upd (u := .lst ((ps.take (place o.s o.pr ps)).map rf)) hq1) hq2) hq3
  refine ⟨_, rfl, _, rfl, _, rfl, p, _, rfl, s3.seq hS1, fun q4 hq4 => ?_⟩
  rw [cut_drop ps hpl]
  refine ⟨q3, q4, _, _, rfl, rfl, at_upd upd_same hq4, upd_same, ?_, fun q5 hq5 => q _ q5 (s1.trans (same_upd' (same_upd' s3 hq4) hq5)) ((s1.trans (same_upd' s3 hq4)).free hq5) ?_⟩
  · rw [List.length_append, List.length_map, List.length_map, List.length_take, List.length_drop]
    exact szOk (by show min _ _ + 1 + _ ≤ _; lia)
  · rw [upd_same]
    show _ = some (HO.lst ((ins (t, o) ps).map rf))
    unfold ins
    rw [List.map_append, List.map_cons, List.append_assoc]
    rfl
theorem sc_place_of : FnScope ["line", "name", "place"] ["line", "name"] (defScope (top 38)) := ⟨rfl, rfl, rfl, by decide +kernel, rfl, by decide +kernel, by decide +kernel⟩
noncomputable def sp_place_of (K : PySem.W.Frag) (C : Addr) : Sp := fun vs H Q E => ∃ (p : Addr) (ps : List AO) (nm : Str), vs = [.ref p, .str nm] ∧ SqL K H p (ps.map rf) ∧ Ords H ps ∧ ps.length ≤ 1000 ∧ (nIdx nm ps = ps.length → E (.ref C) none H) ∧ (nIdx nm ps < ps.length → Q (.int (nIdx nm ps)) H)
theorem ok_place_of (d_place_of : Dv K mg "place_of" (top 38) ["line", "name"]) (B : Bl mg) (C : Co mg) (R : Er K mg)  : FnOk P w K mg base (CXb P w) 1 d_place_of.f d_place_of.fd ["line", "name"] (sp_place_of K R.c_NoOrder) := by
  refine d_place_of.F.okx sc_place_of (fun vs H Q E h => ?_) (fun cdv A outer s H vs Q E hr h => ?_)
  · refine Classical.byContradiction fun hnzq => ?_; obtain ⟨_, _, _, rfl, _⟩ := h; refine hnzq ?_; clear hnzq; rfl
  refine Classical.byContradiction fun hnzq => ?_; obtain ⟨p, ps, nm, rfl, hS, hO, hl, qe, q⟩ := h
  refine hnzq ?_; clear hnzq
  refine ⟨_, (pss_cons (PS.calm (ps_for PassesOwn.never rfl (pi_range1 rfl B.b_range (pa_cons (pe_callB call_len_seq rfl B.b_len PySem.boot_len (pa_cons (pv 0) pa_nil)) pa_nil)) (pg_name (i := 2) sc_place_of.nd rfl (Or.inl rfl)) (pss_one (ps_if (pt_cmpR op_eq (pe_ix ix_tup (pe_ix ix_list (pv 0) (pv 2) (fun _ _ => rfl)) (pe_glob (v := .int 0) rfl C.m_NAME ⟨_, rfl⟩) (fun _ _ => rfl)) (pv 1) (nomark _)) (pss_one (ps_ret (pv 2))) pss_nil)))) (pss_one (ps_raise raises_fn rfl rfl R.m_NoOrder R.x_NoOrder (pa_cons pe_str pa_nil)))), ?_⟩
  have hlen : (((ps.map rf).length : Nat) : Int) = ps.length := by rw [List.length_map]
  have hpl := nIdx_le nm ps
  refine ⟨_, rfl, p, _, rfl, .inl hS, _, rfl, by (exact Int.ofNat_nonneg _), by omega, ?_⟩
  refine for_range (lo := 0) (fun i σ H' => H = H' ∧ ∃ v2, σ = [some (.ref p), some (.str nm), v2] ∧ i ≤ nIdx nm ps) ⟨rfl, none, rfl, Nat.zero_le _⟩ (fun i σ H' hi z => ?_) (fun σ H' z => ?_)
  · refine Classical.byContradiction fun hnzq => ?_; obtain ⟨rfl, v2, rfl, hk⟩ := z
    refine hnzq ?_; clear hnzq
    have c2 : i < ps.length := by lia
    have ax : atI (ps.map rf) (0 + (i : Int)) = some (rf ps[i]) := by rw [Int.zero_add]; exact atI_nat (by rw [List.getElem?_map, List.getElem?_eq_getElem c2]; rfl)
    have hx := hO ps[i] (List.getElem_mem c2)
    refine Classical.byContradiction fun hnzq => ?_; obtain ⟨st1, st2⟩ := nIdx_step nm ps i ps[i] (List.getElem?_eq_getElem c2) hk
    refine hnzq ?_; clear hnzq
    refine ⟨_, rfl, _, rfl, p, _, _, _, rfl, rfl, hS, ax, ps[i].1, _, _, _, rfl, rfl, .inl (.inl hx), rfl, _, rfl, rfl, _, rfl, ?_⟩
    refine ite2 (fun c3 => ?_) (fun c3 => ?_)
    · have e := st2 (by simpa using c3)
      refine ⟨_, rfl, ?_⟩
      rw [Int.zero_add, e]
      exact q (by (clear B hr hS hO hl qe q hpl hi hk ax hx st1 st2 c3; omega))
    · exact ⟨rfl, _, rfl, st1 (by simpa using c3)⟩
  · refine Classical.byContradiction fun hnzq => ?_; obtain ⟨rfl, v2, rfl, hk⟩ := z
    refine hnzq ?_; clear hnzq
    exact ⟨by (first | exact szOk (Nat.le_of_ble_eq_true rfl) | exact szLt (Nat.le_of_ble_eq_true rfl) | omega), qe (by lia)⟩
theorem sc_without : FnScope ["line", "name", "place"] ["line", "name"] (defScope (top 39)) := ⟨rfl, rfl, rfl, by decide +kernel, rfl, by decide +kernel, by decide +kernel⟩
noncomputable def sp_without (K : PySem.W.Frag) (C : Addr) : Sp := fun vs H Q E => ∃ (p : Addr) (ps : List AO) (nm : Str), vs = [.ref p, .str nm] ∧ SqL K H p (ps.map rf) ∧ Ords H ps ∧ ps.length ≤ 1000 ∧ (nIdx nm ps = ps.length → E (.ref C) none H) ∧ (nIdx nm ps < ps.length → ∀ (H' : Hp) (l : Addr), Same H H' → H l = none → H' l = some (.lst ((outL ps (nIdx nm ps)).map rf)) → Q (.ref l) H')
theorem ok_without (d_without : Dv K mg "without" (top 39) ["line", "name"]) (B : Bl mg) (C : Co mg) (R : Er K mg) (d_place_of : Dv K mg "place_of" (top 38) ["line", "name"]) (G_place_of : FnOk P w K mg base (CXb P w) 1 d_place_of.f d_place_of.fd ["line", "name"] (sp_place_of K R.c_NoOrder)) : FnOk P w K mg base (CXb P w) 2 d_without.f d_without.fd ["line", "name"] (sp_without K R.c_NoOrder) := by
  refine d_without.F.okx sc_without (fun vs H Q E h => ?_) (fun cdv A outer s H vs Q E hr h => ?_)
  · refine Classical.byContradiction fun hnzq => ?_; obtain ⟨_, _, _, rfl, _⟩ := h; refine hnzq ?_; clear hnzq; rfl
  refine Classical.byContradiction fun hnzq => ?_; obtain ⟨p, ps, nm, rfl, hS, hO, hl, qe, q⟩ := h
  refine hnzq ?_; clear hnzq
  refine ⟨_, (pss_cons (ps_set (i := 2) sc_without.nd rfl (Or.inl rfl) (pe_call G_place_of (hr.mono (by decide)) rfl d_place_of.m d_place_of.F.kp d_place_of.b .nil passes_fn (pa_cons (pv 0) (pa_cons (pv 1) pa_nil)))) (pss_one (ps_ret (pe_op op_cat (pe_slice sl_list (pv 0) po_none (po_some (pv 2))) (pe_slice sl_list (pv 0) (po_some (pe_op op_add (pv 2) pe_int)) po_none))))), ?_⟩
  refine ⟨_, rfl, _, rfl, p, ps, nm, rfl, hS, hO, hl, qe, fun hk => ?_⟩
  refine ⟨_, rfl, _, rfl, _, rfl, p, _, rfl, hS, fun q1 hq1 => ?_⟩
  have s1 := same_upd (u := .lst (cutV (ps.map rf) none (some ((nIdx nm ps : Nat) : Int)))) hq1
  refine ⟨_, rfl, _, rfl, _, _, rfl, rfl, _, rfl, p, _, rfl, s1.seq hS, fun q2 hq2 => ?_⟩
  refine ⟨q1, q2, _, _, rfl, rfl, at_upd upd_same hq2, upd_same, ?_, fun q3 hq3 => ?_⟩
  · have a1 := cutV_length (ps.map rf) none (some ((nIdx nm ps : Nat) : Int))
    have a2 := cutV_length (ps.map rf) (some (((nIdx nm ps : Nat) : Int) + 1)) none
    rw [List.length_map] at a1 a2
    exact szOk (by lia)
  refine q hk _ q3 (same_upd' (same_upd' s1 hq2) hq3) ((same_upd' s1 hq2).free hq3) ?_
  rw [upd_same, cut_take ps (by (exact Nat.le_of_lt (by assumption))), show (((nIdx nm ps : Nat) : Int) + 1) = ((nIdx nm ps + 1 : Nat) : Int) by lia, cut_drop ps (by lia), ← List.map_append]
  rfl
theorem sc_with_less : FnScope ["line", "name", "left", "place"] ["line", "name", "left"] (defScope (top 40)) := ⟨rfl, rfl, rfl, by decide +kernel, rfl, by decide +kernel, by decide +kernel⟩
noncomputable def sp_with_less (K : PySem.W.Frag) (CN CB : Addr) : Sp := fun vs H Q E => ∃ (p : Addr) (ps : List AO) (nm : Str) (lf : Int), vs = [.ref p, .str nm, .int lf] ∧ SqL K H p (ps.map rf) ∧ Ords H ps ∧ ps.length ≤ 1000 ∧ (nIdx nm ps = ps.length → E (.ref CN) none H) ∧
  (∀ h : nIdx nm ps < ps.length, (¬ (1 ≤ lf ∧ lf ≤ ps[nIdx nm ps].2.l) → ∀ H', Same H H' → E (.ref CB) none H') ∧ (1 ≤ lf → lf ≤ ps[nIdx nm ps].2.l → ∀ (H' : Hp) (l t : Addr), Same H H' → H l = none → H' l = some (.lst ((putL ps (nIdx nm ps) (t, lessO ps[nIdx nm ps].2 lf)).map rf)) → H' t = some (.tup (odV (lessO ps[nIdx nm ps].2 lf))) → Q (.ref l) H'))
theorem ok_with_less (d_with_less : Dv K mg "with_less" (top 40) ["line", "name", "left"]) (B : Bl mg) (C : Co mg) (R : Er K mg) (d_place_of : Dv K mg "place_of" (top 38) ["line", "name"]) (G_place_of : FnOk P w K mg base (CXb P w) 1 d_place_of.f d_place_of.fd ["line", "name"] (sp_place_of K R.c_NoOrder)) (d_lessened : Dv K mg "lessened" (top 31) ["order", "left"]) (G_lessened : FnOk P w K mg base (CXb P w) 2 d_lessened.f d_lessened.fd ["order", "left"] (sp_lessened R.c_BadNumber)) : FnOk P w K mg base (CXb P w) 3 d_with_less.f d_with_less.fd ["line", "name", "left"] (sp_with_less K R.c_NoOrder R.c_BadNumber) := by
  refine d_with_less.F.okx sc_with_less (fun vs H Q E h => ?_) (fun cdv A outer s H vs Q E hr h => ?_)
  · refine Classical.byContradiction fun hnzq => ?_; obtain ⟨_, _, _, _, rfl, _⟩ := h; refine hnzq ?_; clear hnzq; rfl
  refine Classical.byContradiction fun hnzq => ?_; obtain ⟨p, ps, nm, lf, rfl, hS, hO, hl, qe, q⟩ := h
  refine hnzq ?_; clear hnzq
  refine ⟨_, (pss_cons (ps_set (i := 3) sc_with_less.nd rfl (Or.inl rfl) (pe_call G_place_of (hr.mono (by decide)) rfl d_place_of.m d_place_of.F.kp d_place_of.b .nil passes_fn (pa_cons (pv 0) (pa_cons (pv 1) pa_nil)))) (pss_one (ps_ret (pe_op op_cat (pe_op op_cat (pe_slice sl_list (pv 0) po_none (po_some (pv 3))) (pe_lst (pa_cons (pe_call G_lessened (hr.mono (by decide)) rfl d_lessened.m d_lessened.F.kp d_lessened.b .nil passes_fn (pa_cons (pe_ix ix_list (pv 0) (pv 3) (fun _ _ => rfl)) (pa_cons (pv 2) pa_nil))) pa_nil))) (pe_slice sl_list (pv 0) (po_some (pe_op op_add (pv 3) pe_int)) po_none))))), ?_⟩
  refine ⟨_, rfl, _, rfl, p, ps, nm, rfl, hS, hO, hl, qe, fun hk => ?_⟩
  refine Classical.byContradiction fun hnzq => ?_; obtain ⟨qb, q⟩ := q hk
  refine hnzq ?_; clear hnzq
  have hx := hO ps[nIdx nm ps] (List.getElem_mem hk)
  have ax : atI (ps.map rf) ((nIdx nm ps : Nat) : Int) = some (rf ps[nIdx nm ps]) := atI_nat (by rw [List.getElem?_map, List.getElem?_eq_getElem hk]; rfl)
  refine ⟨_, rfl, _, rfl, _, rfl, p, _, rfl, hS, fun q1 hq1 => ?_⟩
  rw [cut_take ps (by omega)]
  have s1 := same_upd (u := .lst ((ps.take (nIdx nm ps)).map rf)) hq1
  refine ⟨_, rfl, _, rfl, p, _, _, _, rfl, rfl, s1.seq hS, ax, _, rfl, ps[nIdx nm ps].1, ps[nIdx nm ps].2.n, ps[nIdx nm ps].2.w, ps[nIdx nm ps].2.s, ps[nIdx nm ps].2.pr, ps[nIdx nm ps].2.l, ps[nIdx nm ps].2.sh, ps[nIdx nm ps].2.pk, lf, rfl, s1 _ _ hx, fun z => qb z _ s1, fun a1 a2 H2 t s2 ht => ?_⟩
  have ht' : H2 t = some (.tup (odV (lessO ps[nIdx nm ps].2 lf))) := ht
  have sA := s1.trans s2
  refine ⟨by (first | exact szOk (Nat.le_of_ble_eq_true rfl) | exact szLt (Nat.le_of_ble_eq_true rfl) | omega), fun q2 hq2 => ⟨q1, q2, _, _, rfl, rfl, at_upd (s2 _ _ upd_same) hq2, upd_same, by rw [List.length_map, List.length_take]; exact szOk (by show min _ _ + 1 ≤ _; omega), fun q3 hq3 => ?_⟩⟩
  have sB := sA.trans (same_upd' (u := .lst ((ps.take (nIdx nm ps)).map rf ++ [V.ref t])) (same_upd (u := .lst [V.ref t]) hq2) hq3)
  have ht3 := at_upd (u := .lst ((ps.take (nIdx nm ps)).map rf ++ [V.ref t])) (at_upd (u := .lst [V.ref t]) ht' hq2) hq3
  refine ⟨_, rfl, _, rfl, _, _, rfl, rfl, _, rfl, p, _, rfl, sB.seq hS, fun q4 hq4 => ?_⟩
  refine ⟨q3, q4, _, _, rfl, rfl, at_upd upd_same hq4, upd_same, ?_, fun q5 hq5 => ?_⟩
  · have a2 := cutV_length (ps.map rf) (some (((nIdx nm ps : Nat) : Int) + 1)) none
    rw [List.length_map] at a2
    rw [List.length_append, List.length_map, List.length_take]
    exact szOk (by show min _ _ + 1 + _ ≤ _; lia)
  refine q a1 a2 _ q5 t (same_upd' (same_upd' sB hq4) hq5) ((same_upd' sB hq4).free hq5) ?_ (at_upd (at_upd ht3 hq4) hq5)
  rw [upd_same, show (((nIdx nm ps : Nat) : Int) + 1) = ((nIdx nm ps + 1 : Nat) : Int) by (clear B G_place_of G_lessened hr hS hO hl qe qb q hx ax hq1 s1 a1 a2 s2 ht ht' sA hq2 hq3 sB ht3 hq4 hq5; omega), cut_drop ps (by (clear B G_place_of G_lessened hr hS hO hl qe qb q hx ax hq1 s1 a1 a2 s2 ht ht' sA hq2 hq3 sB ht3 hq4 hq5; omega))]
  unfold putL
  rw [List.map_append, List.map_cons, List.append_assoc]
  rfl
theorem sc_served : FnScope ["line", "amount", "first", "others", "behind"] ["line", "amount"] (defScope (top 41)) := ⟨rfl, rfl, rfl, by decide +kernel, rfl, by decide +kernel, by decide +kernel⟩
noncomputable def sp_served (K : PySem.W.Frag) (CN CB : Addr) : Sp := fun vs H Q E => ∃ (p : Addr) (ps : List AO) (am : Int), vs = [.ref p, .int am] ∧ SqL K H p (ps.map rf) ∧ Ords H ps ∧ ps.length ≤ 1000 ∧ (ps.map fun x => x.2.n).Nodup ∧ (ps = [] → E (.ref CN) none H) ∧
  (∀ x r, ps = x :: r → ¬ (1 ≤ am ∧ am ≤ x.2.sh) → ∀ H', Same H H' → E (.ref CB) none H') ∧ (∀ x r, ps = x :: r → 1 ≤ am → am ≤ x.2.sh → ∀ (H' : Hp) (l : Addr) (qs : List AO), Same H H' → H l = none → H' l = some (.lst (qs.map rf)) → Ords H' qs → qs.map (·.2) = servedO (ps.map (·.2)) am → Q (.ref l) H')
theorem ok_served (d_served : Dv K mg "served" (top 41) ["line", "amount"]) (B : Bl mg) (C : Co mg) (R : Er K mg) (d_filled : Dv K mg "filled" (top 29) ["order", "amount"]) (G_filled : FnOk P w K mg base (CXb P w) 3 d_filled.f d_filled.fd ["order", "amount"] (sp_filled R.c_BadNumber)) (d_renews : Dv K mg "renews" (top 30) ["order", "amount"]) (G_renews : FnOk P w K mg base CX0 1 d_renews.f d_renews.fd ["order", "amount"] (sp_renews K)) (d_joined : Dv K mg "joined" (top 37) ["line", "order"]) (G_joined : FnOk P w K mg base (CXb P w) 3 d_joined.f d_joined.fd ["line", "order"] (sp_joined K R.c_Twice)) : FnOk P w K mg base (CXb P w) 4 d_served.f d_served.fd ["line", "amount"] (sp_served K R.c_NoOrder R.c_BadNumber) := by
  refine d_served.F.okx sc_served (fun vs H Q E h => ?_) (fun cdv A outer s H vs Q E hr h => ?_)
  · refine Classical.byContradiction fun hnzq => ?_; obtain ⟨_, _, _, rfl, _⟩ := h; refine hnzq ?_; clear hnzq; rfl
  refine Classical.byContradiction fun hnzq => ?_; obtain ⟨p, ps, am, rfl, hS, hO, hl, hnd, qn, qb, q⟩ := h
  refine hnzq ?_; clear hnzq
  refine ⟨_, (pss_cons (ps_if (pt_cmpR op_eq (pe_callB call_len_seq rfl B.b_len PySem.boot_len (pa_cons (pv 0) pa_nil)) pe_int (nomark _)) (pss_one (ps_raise raises_fn rfl rfl R.m_NoOrder R.x_NoOrder (pa_cons pe_str pa_nil))) pss_nil) (pss_cons (ps_set (i := 2) sc_served.nd rfl (Or.inl rfl) (pe_ix ix_list (pv 0) pe_int (fun _ _ => rfl))) (pss_cons (ps_set (i := 3) sc_served.nd rfl (Or.inl rfl) (pe_slice sl_list (pv 0) (po_some pe_int) po_none)) (pss_cons (ps_set (i := 4) sc_served.nd rfl (Or.inl rfl) (pe_call G_filled (hr.mono (by decide)) rfl d_filled.m d_filled.F.kp d_filled.b .nil passes_fn (pa_cons (pv 2) (pa_cons (pv 1) pa_nil)))) (pss_cons (ps_if (pt_cmpR op_isN (pv 4) pe_non (nomark _)) (pss_one (ps_ret (pv 3))) pss_nil) (pss_cons (ps_if (pt_val (pe_call G_renews (hr.mono (by decide)) rfl d_renews.m d_renews.F.kp d_renews.b .nil pass0 (pa_cons (pv 2) (pa_cons (pv 1) pa_nil))) (fun _ => rfl)) (pss_one (ps_ret (pe_call G_joined (hr.mono (by decide)) rfl d_joined.m d_joined.F.kp d_joined.b .nil passes_fn (pa_cons (pv 3) (pa_cons (pv 4) pa_nil))))) pss_nil) (pss_one (ps_ret (pe_op op_cat (pe_lst (pa_cons (pv 4) pa_nil)) (pv 3)))))))))), ?_⟩
  refine ⟨_, rfl, p, _, rfl, .inl hS, rfl, _, rfl, ?_⟩
  cases ps with
  | nil => exact iteT ⟨by (first | exact szOk (Nat.le_of_ble_eq_true rfl) | exact szLt (Nat.le_of_ble_eq_true rfl) | omega), qn rfl⟩
  | cons x r =>
    refine ite2 (fun c => absurd c (by simp; (contradiction))) fun _ => ?_
    have qb := qb x r rfl
    have q := q x r rfl
    have hx := hO x List.mem_cons_self
    have hr : Ords H r := fun y hy => hO y (List.mem_cons_of_mem _ hy)
    refine ⟨_, rfl, p, _, _, _, rfl, rfl, hS, at_zero x r, ?_⟩
    refine ⟨_, rfl, _, rfl, p, _, rfl, hS, fun ot hot => ?_⟩
    rw [cut_tail]
    have s1 := same_upd (u := .lst (r.map rf)) hot
    refine ⟨_, rfl, _, rfl, x.1, x.2.n, x.2.w, x.2.s, x.2.pr, x.2.l, x.2.sh, x.2.pk, am, rfl, s1 _ _ hx, fun z => qb z _ s1, fun a1 a2 e => ?_, fun a1 a2 e H2 t s2 ht => ?_⟩
    · refine ⟨_, rfl, rfl, _, rfl, iteT ⟨_, rfl, ?_⟩⟩
      refine q a1 a2 _ ot r s1 hot upd_same (hr.same s1) ?_
      rw [List.map_cons, servedO_cons, if_pos e]
    · have sA := s1.trans s2
      have hty : H2 t = some (.tup (odV (behO x.2 am))) := ht
      refine ⟨_, rfl, rfl, _, rfl, iteF ?_⟩
      refine ⟨_, rfl, _, rfl, x.1, x.2.n, x.2.w, x.2.s, x.2.pr, x.2.l, x.2.sh, x.2.pk, am, rfl, sA _ _ hx, _, rfl, ?_⟩
      refine ite2 (fun c2 => ?_) (fun c2 => ?_)
      · have c3 : x.2.sh = am ∧ am < x.2.l := by simpa using c2
        refine ⟨_, rfl, _, rfl, ot, r, t, behO x.2 am, rfl, .inl (.inl (s2 _ _ upd_same)), hr.same sA, hty, by rw [List.length_cons] at hl; (exact Nat.le_of_lt (by assumption)), fun z => ?_, fun _ H3 l3 s3 fl3 hl3 => ?_⟩
        · rw [List.map_cons, List.nodup_cons] at hnd
          exact absurd z hnd.1
        · refine q a1 a2 _ l3 _ (sA.trans s3) (sA.free fl3) hl3 ?_ ?_
          · intro y hy
            rcases mem_ins hy with rfl | hy
            · exact s3 _ _ hty
            · exact s3 _ _ (sA _ _ (hr y hy))
          · rw [ins_map, List.map_cons, servedO_cons, if_neg e, if_pos c3]
      · have c3 : ¬ (x.2.sh = am ∧ am < x.2.l) := by simpa using c2
        refine ⟨_, rfl, by (first | exact szOk (Nat.le_of_ble_eq_true rfl) | exact szLt (Nat.le_of_ble_eq_true rfl) | omega), fun q1 hq1 => ⟨_, rfl, q1, ot, _, _, rfl, rfl, upd_same, at_upd (s2 _ _ upd_same) hq1, ?_, fun q2 hq2 => ?_⟩⟩
        · rw [List.length_map]; rw [List.length_cons] at hl; exact szOk (by show 1 + _ ≤ _; lia)
        · have sB := same_upd' (u := .lst ([V.ref t] ++ r.map rf)) (same_upd (u := .lst [V.ref t]) hq1) hq2
          refine q a1 a2 _ q2 ((t, behO x.2 am) :: r) (sA.trans sB) ((sA.trans (same_upd (u := .lst [V.ref t]) hq1)).free hq2) upd_same ?_ ?_
          · intro y hy
            rcases List.mem_cons.mp hy with rfl | hy
            · exact sB _ _ hty
            · exact sB _ _ (sA _ _ (hr y hy))
          · rw [List.map_cons, List.map_cons, servedO_cons, if_neg e, if_neg c3]
theorem sc__law_cell_at : FnScope ["script", "k"] ["script", "k"] (defScope (top 48)) := ⟨rfl, rfl, rfl, by decide +kernel, rfl, by decide +kernel, by decide +kernel⟩
noncomputable def sp__law_cell_at (K : PySem.W.Frag) : Sp := fun vs H Q _ => ∃ (a : Addr) (ns : List Int) (k : Int), vs = [.ref a, .int k] ∧ SqL K H a (ns.map V.int) ∧ 0 ≤ k ∧ Q (.int (cell ns k)) H
theorem ok__law_cell_at (d__law_cell_at : Dv K mg "_law_cell_at" (top 48) ["script", "k"]) (B : Bl mg) (C : Co mg) (R : Er K mg)  : FnOk P w K mg base CX0 1 d__law_cell_at.f d__law_cell_at.fd ["script", "k"] (sp__law_cell_at K) := by
  refine d__law_cell_at.F.ok sc__law_cell_at (fun vs H Q E h => ?_) (fun cdv A outer s H vs Q E hr h => ?_)
  · refine Classical.byContradiction fun hnzq => ?_; obtain ⟨_, _, _, rfl, _⟩ := h; refine hnzq ?_; clear hnzq; rfl
  refine Classical.byContradiction fun hnzq => ?_; obtain ⟨a, ns, k, rfl, hS, h0, q⟩ := h
  refine hnzq ?_; clear hnzq
  refine ⟨_, (pss_cons (ps_if (pt_cmpR op_lt (pv 1) (pe_callB call_len_seq rfl B.b_len PySem.boot_len (pa_cons (pv 0) pa_nil)) (nomark _)) (pss_one (ps_ret (pe_ix ix_list (pv 0) (pv 1) (fun _ _ => rfl)))) pss_nil) (pss_one (ps_ret pe_int))), ?_⟩
  have hl : (ns.map V.int).length = ns.length := List.length_map _
  refine ⟨_, rfl, _, rfl, a, _, rfl, .inl hS, _, _, rfl, rfl, _, rfl, ?_⟩
  unfold cell at q
  refine ite2 (fun c => ?_) (fun c => ?_)
  · have c' : k < (ns.length : Int) := by simpa using c
    rw [if_pos c'] at q
    exact ⟨_, rfl, _, rfl, a, _, _, _, rfl, rfl, hS, at_cell h0 c', q⟩
  · have c' : ¬ k < (ns.length : Int) := by simpa using c
    rw [if_neg c'] at q
    exact q
theorem sc__law_whole : FnScope ["found"] ["found"] (defScope (top 49)) := ⟨rfl, rfl, rfl, by decide +kernel, rfl, by decide +kernel, by decide +kernel⟩
noncomputable def sp__law_whole (K : PySem.W.Frag) : Sp := fun vs H Q _ => ∃ (i : Int), vs = [.int i] ∧ Q (.bl true) H
theorem ok__law_whole (d__law_whole : Dv K mg "_law_whole" (top 49) ["found"]) (B : Bl mg) (C : Co mg) (R : Er K mg)  : FnOk P w K mg base CX0 1 d__law_whole.f d__law_whole.fd ["found"] (sp__law_whole K) := by
  refine d__law_whole.F.ok sc__law_whole (fun vs H Q E h => ?_) (fun cdv A outer s H vs Q E hr h => ?_)
  · refine Classical.byContradiction fun hnzq => ?_; obtain ⟨_, rfl, _⟩ := h; refine hnzq ?_; clear hnzq; rfl
  refine Classical.byContradiction fun hnzq => ?_; obtain ⟨i, rfl, q⟩ := h
  refine hnzq ?_; clear hnzq
  refine ⟨_, (pss_one (ps_ret (pe_and (pe_callB call_isinst rfl B.b_isinstance PyProof.Rows.boot_isinstance (pa_cons (pv 0) (pa_cons (pe_bltn (v := .ty "int") rfl B.b_int PyProof.Rows.boot_int rfl) pa_nil))) (pe_one (pe_not (pe_callB call_isinst rfl B.b_isinstance PyProof.Rows.boot_isinstance (pa_cons (pv 0) (pa_cons (pe_bltn (v := .ty "bool") rfl B.b_bool PyProof.Rows.boot_bool rfl) pa_nil)))))))), ?_⟩
  refine ⟨_, rfl, _, _, _, _, true, rfl, .int i, rfl, rfl, true, rfl, iteT ?_⟩
  exact ⟨_, rfl, _, _, _, _, false, rfl, .int i, rfl, rfl, false, rfl, q⟩
theorem sc__law_alike : FnScope ["found", "due", "k"] ["found", "due"] (defScope (top 50)) := ⟨rfl, rfl, rfl, by decide +kernel, rfl, by decide +kernel, by decide +kernel⟩
noncomputable def sp__law_alike (K : PySem.W.Frag) : Sp := fun vs H Q _ => ∃ (t d : Addr) (n w s : Str) (pr l sh pk : Int) (ds : List V), vs = [.ref t, .ref d] ∧ H t = some (.tup (ordV n w s pr l sh pk)) ∧ H d = some (.tup ds) ∧ ds.length = 7 ∧ ds.all flatV = true ∧ Q (.bl (eqVs (ordV n w s pr l sh pk) ds)) H
theorem ok__law_alike (d__law_alike : Dv K mg "_law_alike" (top 50) ["found", "due"]) (B : Bl mg) (C : Co mg) (R : Er K mg) (d__law_whole : Dv K mg "_law_whole" (top 49) ["found"]) (G__law_whole : FnOk P w K mg base CX0 1 d__law_whole.f d__law_whole.fd ["found"] (sp__law_whole K)) : FnOk P w K mg base CX0 2 d__law_alike.f d__law_alike.fd ["found", "due"] (sp__law_alike K) := by
  refine d__law_alike.F.ok sc__law_alike (fun vs H Q E h => ?_) (fun cdv A outer s H vs Q E hr h => ?_)
  · refine Classical.byContradiction fun hnzq => ?_; obtain ⟨_, _, _, _, _, _, _, _, _, _, rfl, _⟩ := h; refine hnzq ?_; clear hnzq; rfl
  refine Classical.byContradiction fun hnzq => ?_; obtain ⟨t, d, n, w0, s0, pr, l, sh, pk, ds, rfl, ht, hd, hl, hf, q⟩ := h
  refine hnzq ?_; clear hnzq
  refine ⟨_, (pss_cons (ps_if (PW.pt (pw_or (pt_not (pt_val (pe_callB call_isinst rfl B.b_isinstance PyProof.Rows.boot_isinstance (pa_cons (pv 0) (pa_cons (pe_bltn (v := .ty "tuple") rfl B.b_tuple PyProof.Rows.boot_tuple rfl) pa_nil))) (fun _ => rfl))) (pw_or1 (pt_cmpR op_ne (pe_callB call_len_seq rfl B.b_len PySem.boot_len (pa_cons (pv 0) pa_nil)) pe_int (nomark _))))) (pss_one (ps_ret pe_bl)) pss_nil) (pss_cons (ps_for PassesOwn.never rfl (pi_range1 rfl B.b_range (pa_cons pe_int pa_nil)) (pg_name (i := 2) sc__law_alike.nd rfl (Or.inl rfl)) (pss_one (ps_if (PW.pt (pw_or (PW.pt (pw_and (pt_cmpR op_lt (pv 2) pe_int (nomark _)) (pw_and1 (pt_not (pt_val (pe_callB call_isinst rfl B.b_isinstance PyProof.Rows.boot_isinstance (pa_cons (pe_ix ix_tup (pv 0) (pv 2) (fun _ _ => rfl)) (pa_cons (pe_bltn (v := .ty "str") rfl B.b_str PyProof.Rows.boot_str rfl) pa_nil))) (fun _ => rfl)))))) (pw_or1 (PW.pt (pw_and (pt_cmpR op_gt (pv 2) pe_int (nomark _)) (pw_and1 (pt_not (pt_val (pe_call G__law_whole (hr.mono (by decide)) rfl d__law_whole.m d__law_whole.F.kp d__law_whole.b .nil pass0 (pa_cons (pe_ix ix_tup (pv 0) (pv 2) (fun _ _ => rfl)) pa_nil)) (fun _ => rfl))))))))) (pss_one (ps_ret pe_bl)) pss_nil))) (pss_one (ps_ret (pe_cmpR (op_eqT (hr.units0)) (pv 0) (pv 1) (nomark _)))))), ?_⟩
  refine ⟨_, rfl, _, _, _, _, true, rfl, .tup ht, rfl, rfl, _, rfl, iteF ?_⟩
  refine ⟨_, rfl, t, _, rfl, .inr (.inl (.inl ht)), rfl, _, rfl, iteF ?_⟩
  refine ⟨7, rfl, by decide, by decide, ?_⟩
  refine for_range (lo := 0) (fun _ σ H' => H' = H ∧ ∃ v2, σ = [some (.ref t), some (.ref d), v2]) ⟨rfl, none, rfl⟩ (fun i σ H' hi z => ?_) (fun σ H' z => ?_)
  · refine Classical.byContradiction fun hnzq => ?_; obtain ⟨rfl, v2, rfl⟩ := z
    refine hnzq ?_; clear hnzq
    have hi' : i < 7 := hi
    match i, hi' with
    | 0, _ =>
      refine ⟨_, rfl, _, _, rfl, rfl, _, rfl, ?_⟩
      refine ite2 (fun _ => ?_) (fun c => absurd (by decide) c)
      refine ⟨_, rfl, _, rfl, t, _, _, _, rfl, rfl, .inl (.inl ht), rfl, _, _, _, _, true, rfl, .str _, rfl, rfl, _, rfl, iteF ?_⟩
      refine ⟨_, rfl, _, _, rfl, rfl, _, rfl, ?_⟩
      refine ite2 (fun c => absurd c (by decide)) fun _ => ?_
      exact iteF ⟨rfl, _, rfl⟩
    | 1, _ =>
      refine ⟨_, rfl, _, _, rfl, rfl, _, rfl, ?_⟩
      refine ite2 (fun _ => ?_) (fun c => absurd (by decide) c)
      refine ⟨_, rfl, _, rfl, t, _, _, _, rfl, rfl, .inl (.inl ht), rfl, _, _, _, _, true, rfl, .str _, rfl, rfl, _, rfl, iteF ?_⟩
      refine ⟨_, rfl, _, _, rfl, rfl, _, rfl, ?_⟩
      refine ite2 (fun c => absurd c (by decide)) fun _ => ?_
      exact iteF ⟨rfl, _, rfl⟩
    | 2, _ =>
      refine ⟨_, rfl, _, _, rfl, rfl, _, rfl, ?_⟩
      refine ite2 (fun _ => ?_) (fun c => absurd (by decide) c)
      refine ⟨_, rfl, _, rfl, t, _, _, _, rfl, rfl, .inl (.inl ht), rfl, _, _, _, _, true, rfl, .str _, rfl, rfl, _, rfl, iteF ?_⟩
      refine ⟨_, rfl, _, _, rfl, rfl, _, rfl, ?_⟩
      refine ite2 (fun c => absurd c (by decide)) fun _ => ?_
      exact iteF ⟨rfl, _, rfl⟩
    | 3, _ =>
      refine ⟨_, rfl, _, _, rfl, rfl, _, rfl, ?_⟩
      refine ite2 (fun c => absurd c (by decide)) fun _ => ?_
      refine iteF ?_
      refine ⟨_, rfl, _, _, rfl, rfl, _, rfl, ?_⟩
      refine ite2 (fun _ => ?_) (fun c => absurd (by decide) c)
      exact ⟨_, rfl, _, rfl, t, _, _, _, rfl, rfl, .inl (.inl ht), rfl, _, rfl, _, rfl, iteF ⟨rfl, _, rfl⟩⟩
    | 4, _ =>
      refine ⟨_, rfl, _, _, rfl, rfl, _, rfl, ?_⟩
      refine ite2 (fun c => absurd c (by decide)) fun _ => ?_
      refine iteF ?_
      refine ⟨_, rfl, _, _, rfl, rfl, _, rfl, ?_⟩
      refine ite2 (fun _ => ?_) (fun c => absurd (by decide) c)
      exact ⟨_, rfl, _, rfl, t, _, _, _, rfl, rfl, .inl (.inl ht), rfl, _, rfl, _, rfl, iteF ⟨rfl, _, rfl⟩⟩
    | 5, _ =>
      refine ⟨_, rfl, _, _, rfl, rfl, _, rfl, ?_⟩
      refine ite2 (fun c => absurd c (by decide)) fun _ => ?_
      refine iteF ?_
      refine ⟨_, rfl, _, _, rfl, rfl, _, rfl, ?_⟩
      refine ite2 (fun _ => ?_) (fun c => absurd (by decide) c)
      exact ⟨_, rfl, _, rfl, t, _, _, _, rfl, rfl, .inl (.inl ht), rfl, _, rfl, _, rfl, iteF ⟨rfl, _, rfl⟩⟩
    | 6, _ =>
      refine ⟨_, rfl, _, _, rfl, rfl, _, rfl, ?_⟩
      refine ite2 (fun c => absurd c (by decide)) fun _ => ?_
      refine iteF ?_
      refine ⟨_, rfl, _, _, rfl, rfl, _, rfl, ?_⟩
      refine ite2 (fun _ => ?_) (fun c => absurd (by decide) c)
      exact ⟨_, rfl, _, rfl, t, _, _, _, rfl, rfl, .inl (.inl ht), rfl, _, rfl, _, rfl, iteF ⟨rfl, _, rfl⟩⟩
  · refine Classical.byContradiction fun hnzq => ?_; obtain ⟨rfl, v2, rfl⟩ := z
    refine hnzq ?_; clear hnzq
    exact ⟨_, rfl, _, rfl, t, d, _, _, rfl, rfl, .inl (.inl ht), .inl (.inl hd), hl.symm, rfl, hf, q⟩
theorem sc__law_line_alike : FnScope ["found", "due", "k"] ["found", "due"] (defScope (top 51)) := ⟨rfl, rfl, rfl, by decide +kernel, rfl, by decide +kernel, by decide +kernel⟩
noncomputable def sp__law_line_alike (K : PySem.W.Frag) : Sp := fun vs H Q _ => ∃ (f d : Addr) (ps qs : List AO), vs = [.ref f, .ref d] ∧ H f = some (.lst (ps.map rf)) ∧ H d = some (.lst (qs.map rf)) ∧ Ords H ps ∧ Ords H qs ∧ ps.map (·.2) = qs.map (·.2) ∧ qs.length ≤ 2000 ∧ Q (.bl true) H
theorem ok__law_line_alike (d__law_line_alike : Dv K mg "_law_line_alike" (top 51) ["found", "due"]) (B : Bl mg) (C : Co mg) (R : Er K mg) (d__law_alike : Dv K mg "_law_alike" (top 50) ["found", "due"]) (G__law_alike : FnOk P w K mg base CX0 2 d__law_alike.f d__law_alike.fd ["found", "due"] (sp__law_alike K)) : FnOk P w K mg base CX0 3 d__law_line_alike.f d__law_line_alike.fd ["found", "due"] (sp__law_line_alike K) := by
  refine d__law_line_alike.F.ok sc__law_line_alike (fun vs H Q E h => ?_) (fun cdv A outer s H vs Q E hr h => ?_)
  · refine Classical.byContradiction fun hnzq => ?_; obtain ⟨_, _, _, _, rfl, _⟩ := h; refine hnzq ?_; clear hnzq; rfl
  refine Classical.byContradiction fun hnzq => ?_; obtain ⟨f, d, ps, qs, rfl, hf, hd, hO1, hO2, he, hl, q⟩ := h
  refine hnzq ?_; clear hnzq
  refine ⟨_, (pss_cons (ps_if (PW.pt (pw_or (pt_not (pt_val (pe_callB call_isinst rfl B.b_isinstance PyProof.Rows.boot_isinstance (pa_cons (pv 0) (pa_cons (pe_bltn (v := .ty "list") rfl B.b_list PyProof.Rows.boot_list rfl) pa_nil))) (fun _ => rfl))) (pw_or1 (pt_cmpR op_ne (pe_callB call_len_seq rfl B.b_len PySem.boot_len (pa_cons (pv 0) pa_nil)) (pe_callB call_len_seq rfl B.b_len PySem.boot_len (pa_cons (pv 1) pa_nil)) (nomark _))))) (pss_one (ps_ret pe_bl)) pss_nil) (pss_cons (ps_for PassesOwn.never rfl (pi_range1 rfl B.b_range (pa_cons (pe_callB call_len_seq rfl B.b_len PySem.boot_len (pa_cons (pv 1) pa_nil)) pa_nil)) (pg_name (i := 2) sc__law_line_alike.nd rfl (Or.inl rfl)) (pss_one (ps_if (pt_not (pt_val (pe_call G__law_alike (hr.mono (by decide)) rfl d__law_alike.m d__law_alike.F.kp d__law_alike.b .nil pass0 (pa_cons (pe_ix ix_list (pv 0) (pv 2) (fun _ _ => rfl)) (pa_cons (pe_ix ix_list (pv 1) (pv 2) (fun _ _ => rfl)) pa_nil))) (fun _ => rfl))) (pss_one (ps_ret pe_bl)) pss_nil))) (pss_one (ps_ret pe_bl)))), ?_⟩
  have hlen : ps.length = qs.length := by have := congrArg List.length he; simpa using this
  have hlz : ((ps.map rf).length : Int) = ((qs.map rf).length : Int) := by rw [List.length_map, List.length_map, hlen]
  refine ⟨_, rfl, _, _, _, _, true, rfl, .lst hf, rfl, rfl, _, rfl, iteF ?_⟩
  refine ⟨_, rfl, f, _, rfl, .inl (.inl (.inl hf)), _, rfl, d, _, rfl, .inl (.inl (.inl hd)), rfl, _, rfl, iteNS (by rw [hlz]) ?_⟩
  refine ⟨_, rfl, d, _, rfl, .inl (.inl (.inl hd)), _, rfl, by (exact Int.ofNat_nonneg _), by rw [List.length_map]; omega, ?_⟩
  refine for_range (lo := 0) (fun _ σ H' => H = H' ∧ ∃ v2, σ = [some (.ref f), some (.ref d), v2]) ⟨rfl, none, rfl⟩ (fun i σ H' hi z => ?_) (fun σ H' z => ?_)
  · refine Classical.byContradiction fun hnzq => ?_; obtain ⟨rfl, v2, rfl⟩ := z
    refine hnzq ?_; clear hnzq
    have hi' : i < qs.length := by rw [List.length_map] at hi; lia
    have hif : i < ps.length := by lia
    have ax : atI (ps.map rf) (0 + (i : Int)) = some (rf ps[i]) := by rw [Int.zero_add]; exact atI_nat (by rw [List.getElem?_map, List.getElem?_eq_getElem hif]; rfl)
    have ay : atI (qs.map rf) (0 + (i : Int)) = some (rf qs[i]) := by rw [Int.zero_add]; exact atI_nat (by rw [List.getElem?_map, List.getElem?_eq_getElem hi']; rfl)
    have e2 : ps[i].2 = qs[i].2 := by
      have := congrArg (fun l => l[i]?) he
      simp only [List.getElem?_map, List.getElem?_eq_getElem hif, List.getElem?_eq_getElem hi', Option.map_some] at this
      exact Option.some.inj this
    have m1 := hO1 ps[i] (List.getElem_mem hif)
    rw [e2] at m1
    refine ⟨_, rfl, _, rfl, f, _, _, _, rfl, rfl, .inl (.inl hf), ax, _, rfl, _, rfl, d, _, _, _, rfl, rfl, .inl (.inl hd), ay, _, _, qs[i].2.n, qs[i].2.w, qs[i].2.s, qs[i].2.pr, qs[i].2.l, qs[i].2.sh, qs[i].2.pk, odV qs[i].2, rfl, m1, hO2 qs[i] (List.getElem_mem hi'), rfl, rfl, _, rfl, ?_⟩
    refine ite2 (fun z => absurd z (by rw [show eqVs (ordV qs[i].2.n qs[i].2.w qs[i].2.s qs[i].2.pr qs[i].2.l qs[i].2.sh qs[i].2.pk) (odV qs[i].2) = true from eqVs_refl (xs := odV qs[i].2) rfl]; decide)) fun _ => ?_
    exact ⟨rfl, _, rfl⟩
  · refine Classical.byContradiction fun hnzq => ?_; obtain ⟨rfl, v2, rfl⟩ := z
    refine hnzq ?_; clear hnzq
    exact q
theorem sc__law_name_of : FnScope ["k", "how", "code", "rest", "at"] ["k", "how"] (defScope (top 52)) := ⟨rfl, rfl, rfl, by decide +kernel, rfl, by decide +kernel, by decide +kernel⟩
noncomputable def sp__law_name_of (K : PySem.W.Frag) : Sp := fun vs H Q _ => ∃ (k h : Int), vs = [.int k, .int h] ∧ Q (.str (nmOf k h)) H
theorem ok__law_name_of (d__law_name_of : Dv K mg "_law_name_of" (top 52) ["k", "how"]) (B : Bl mg) (C : Co mg) (R : Er K mg)  : FnOk P w K mg base CX0 1 d__law_name_of.f d__law_name_of.fd ["k", "how"] (sp__law_name_of K) := by
  refine d__law_name_of.F.ok sc__law_name_of (fun vs H Q E h => ?_) (fun cdv A outer s H vs Q E hr h => ?_)
  · refine Classical.byContradiction fun hnzq => ?_; obtain ⟨_, _, rfl, _⟩ := h; refine hnzq ?_; clear hnzq; rfl
  refine Classical.byContradiction fun hnzq => ?_; obtain ⟨k, h, rfl, q⟩ := h
  refine hnzq ?_; clear hnzq
  refine ⟨_, (pss_cons (ps_set (i := 2) sc__law_name_of.nd rfl (Or.inl rfl) (pe_op op_add_str (pe_ix ix_str pe_str (pe_op op_mod (pv 0) pe_int) (fun _ _ => rfl)) (pe_ix ix_str pe_str (pe_op op_mod (pe_op op_fdiv (pv 0) pe_int) pe_int) (fun _ _ => rfl)))) (pss_cons (ps_set (i := 3) sc__law_name_of.nd rfl (Or.inl rfl) (pe_slice sl_str pe_str po_none (po_some (pe_op op_mod (pv 1) pe_int)))) (pss_cons (ps_set (i := 4) sc__law_name_of.nd rfl (Or.inl rfl) (pe_op op_mod (pe_op op_fdiv (pv 1) pe_int) (pe_op op_add (pe_callB call_len_str rfl B.b_len PySem.boot_len (pa_cons (pv 3) pa_nil)) pe_int))) (pss_one (ps_ret (pe_op op_add_str (pe_op op_add_str (pe_slice sl_str (pv 3) po_none (po_some (pv 4))) (pv 2)) (pe_slice sl_str (pv 3) (po_some (pv 4)) po_none))))))), ?_⟩
  have lr : (restOf h).length ≤ 10 := by have := Txt.slice_le RST none (some (h % 11)); rw [rst_sz] at this; exact this
  refine ⟨_, rfl, _, _, rfl, rfl, (by (first | (show (0 : Int) < _; decide) | exact ⟨by decide, by decide⟩ | exact ⟨by decide, by decide, by decide⟩ | exact .inl ⟨by decide, by decide⟩ | exact .inr ⟨by decide, by decide⟩ | omega)), LET, _, _, rfl, rfl, let_ok, at_sgn2 (by lia) (by rw [let_sz]; lia), _, rfl, _, _, rfl, rfl, ⟨by decide, by decide⟩, _, _, rfl, rfl, (by (first | (show (0 : Int) < _; decide) | exact ⟨by decide, by decide⟩ | exact ⟨by decide, by decide, by decide⟩ | exact .inl ⟨by decide, by decide⟩ | exact .inr ⟨by decide, by decide⟩ | omega)), SGF, _, _, rfl, rfl, sgf_ok, at_sgn2 (by lia) (by rw [sgf_sz]; lia), _, _, rfl, rfl, by rw [one_sz, one_sz]; exact szOk (by decide), ?_⟩
  refine ⟨_, rfl, _, _, rfl, rfl, (by (first | (show (0 : Int) < _; decide) | exact ⟨by decide, by decide⟩ | exact ⟨by decide, by decide, by decide⟩ | exact .inl ⟨by decide, by decide⟩ | exact .inr ⟨by decide, by decide⟩ | omega)), _, rfl, RST, rfl, by rw [rst_sz]; exact szOk (by decide), ?_⟩
  refine ⟨_, rfl, _, _, rfl, rfl, ⟨by decide, by decide⟩, _, rfl, restOf h, rfl, szOk (by (exact Nat.le_add_left_of_le (by assumption))), _, _, rfl, rfl, _, _, rfl, rfl, (by show (0 : Int) < _; lia), ?_⟩
  have lp := Txt.slice_le (restOf h) none (some (atOf h))
  have ls := Txt.slice_le (restOf h) (some (atOf h)) none
  have lp' : (preOf h).length ≤ 10 := by show (Txt.slice (restOf h) none (some (atOf h))).length ≤ 10; (exact Nat.le_trans (by assumption) (by assumption))
  have ls' : (sufOf h).length ≤ 10 := by show (Txt.slice (restOf h) (some (atOf h)) none).length ≤ 10; omega
  refine ⟨V.str (restOf h), rfl, _, rfl, _, rfl, restOf h, rfl, szOk (by omega), _, rfl, preOf h, _, rfl, rfl, ?_, ?_⟩
  · rw [Str.length_append, one_sz, one_sz]; exact szOk (by omega)
  refine ⟨V.str (restOf h), rfl, _, rfl, _, rfl, restOf h, rfl, szOk (by omega), _, sufOf h, rfl, rfl, ?_, q⟩
  rw [Str.length_append, Str.length_append, one_sz, one_sz]
  exact szOk (by omega)
theorem sc__law_peak_by : FnScope ["cell", "amount", "least"] ["cell", "amount"] (defScope (top 53)) := ⟨rfl, rfl, rfl, by decide +kernel, rfl, by decide +kernel, by decide +kernel⟩
noncomputable def sp__law_peak_by (K : PySem.W.Frag) : Sp := fun vs H Q _ => ∃ (c am : Int), vs = [.int c, .int am] ∧ 1 ≤ am ∧ am ≤ 1000000000 ∧ ∀ pk, pkOk pk am = true → Q (.int pk) H
theorem ok__law_peak_by (d__law_peak_by : Dv K mg "_law_peak_by" (top 53) ["cell", "amount"]) (B : Bl mg) (C : Co mg) (R : Er K mg)  : FnOk P w K mg base CX0 1 d__law_peak_by.f d__law_peak_by.fd ["cell", "amount"] (sp__law_peak_by K) := by
  refine d__law_peak_by.F.ok sc__law_peak_by (fun vs H Q E h => ?_) (fun cdv A outer s H vs Q E hr h => ?_)
  · refine Classical.byContradiction fun hnzq => ?_; obtain ⟨_, _, rfl, _⟩ := h; refine hnzq ?_; clear hnzq; rfl
  refine Classical.byContradiction fun hnzq => ?_; obtain ⟨c, am, rfl, ham, ham2, q⟩ := h
  refine hnzq ?_; clear hnzq
  refine ⟨_, (pss_cons (ps_set (i := 2) sc__law_peak_by.nd rfl (Or.inl rfl) (pe_op op_fdiv (pe_op op_add (pv 1) pe_int) pe_int)) (pss_cons (ps_if (pt_cmpR op_lt (pe_op op_mod (pv 0) pe_int) pe_int (nomark _)) (pss_one (ps_ret (pe_op op_mul (pe_op op_mod (pv 0) pe_int) (pv 2)))) pss_nil) (pss_one (ps_ret (pe_op op_add (pv 2) (pe_op op_mod (pe_op op_fdiv (pv 0) pe_int) (pe_op op_add (pe_op op_sub (pv 1) (pv 2)) pe_int))))))), ?_⟩
  refine ⟨_, rfl, _, _, rfl, rfl, _, _, rfl, rfl, ⟨by decide, by decide⟩, ?_⟩
  have l1 : 1 ≤ (am + 15) / 16 := by lia
  have l2 : (am + 15) / 16 ≤ am := by lia
  have l3 : am ≤ 16 * ((am + 15) / 16) := by lia
  refine ⟨_, rfl, _, _, rfl, rfl, (by (first | (show (0 : Int) < _; decide) | exact ⟨by decide, by decide⟩ | exact ⟨by decide, by decide, by decide⟩ | exact .inl ⟨by decide, by decide⟩ | exact .inr ⟨by decide, by decide⟩ | omega)), _, _, rfl, rfl, _, rfl, ?_⟩
  refine ite2 (fun c1 => ?_) (fun c1 => ?_)
  · have c2 : c % 3 < 2 := of_decide_eq_true c1
    refine ⟨_, rfl, _, _, rfl, rfl, (by (first | (show (0 : Int) < _; decide) | exact ⟨by decide, by decide⟩ | exact ⟨by decide, by decide, by decide⟩ | exact .inl ⟨by decide, by decide⟩ | exact .inr ⟨by decide, by decide⟩ | omega)), _, rfl, _, _, rfl, rfl, .inl ⟨by lia, by lia⟩, q _ ?_⟩
    unfold pkOk
    have : c % 3 = 0 ∨ c % 3 = 1 := by lia
    rcases this with e | e
    · rw [e, Int.zero_mul]; rfl
    · rw [e, Int.one_mul, decide_eq_true (show 1 ≤ (am + 15) / 16 ∧ (am + 15) / 16 ≤ am from ⟨l1, l2⟩), decide_eq_true l3]; simp
  · refine ⟨_, rfl, _, rfl, _, _, rfl, rfl, ⟨by decide, by decide⟩, _, rfl, _, rfl, _, _, rfl, rfl, _, _, rfl, rfl, _, _, rfl, rfl, (by show (0 : Int) < _; omega), _, _, rfl, rfl, q _ ?_⟩
    have m0 := Int.emod_nonneg (c / 3) (show am - (am + 15) / 16 + 1 ≠ 0 by omega)
    have m1 := Int.emod_lt_of_pos (c / 3) (show 0 < am - (am + 15) / 16 + 1 by (clear B hr ham ham2 q l1 l3 c1 m0; omega))
    unfold pkOk
    rw [decide_eq_true (show 1 ≤ (am + 15) / 16 + c / 3 % (am - (am + 15) / 16 + 1) ∧ (am + 15) / 16 + c / 3 % (am - (am + 15) / 16 + 1) ≤ am by lia), decide_eq_true (show am ≤ 16 * ((am + 15) / 16 + c / 3 % (am - (am + 15) / 16 + 1)) by lia)]
    simp
theorem sc__law_order_by : FnScope ["script", "at", "k", "side", "how", "cell", "more", "price", "amount"] ["script", "at", "k", "side"] (defScope (top 54)) := ⟨rfl, rfl, rfl, by decide +kernel, rfl, by decide +kernel, by decide +kernel⟩
noncomputable def sp__law_order_by (K : PySem.W.Frag) : Sp := fun vs H Q _ => ∃ (a : Addr) (ns : List Int) (at_ k : Int) (sd : Str), vs = [.ref a, .int at_, .int k, .str sd] ∧ SqL K H a (ns.map V.int) ∧ 0 ≤ at_ ∧ sideB sd = true ∧ ∀ (H' : Hp) (t : Addr) (o : Od), Same H H' → H' t = some (.tup (odV o)) → o.n = nmOf k (cell ns 0 / 3) → o.s = sd → OrdOk o.l o.sh o.pk → 1 ≤ o.pr → o.pr ≤ 1000000000 → o.l ≤ 1000000000 → Q (.ref t) H'
theorem ok__law_order_by (d__law_order_by : Dv K mg "_law_order_by" (top 54) ["script", "at", "k", "side"]) (B : Bl mg) (C : Co mg) (R : Er K mg) (d__law_cell_at : Dv K mg "_law_cell_at" (top 48) ["script", "k"]) (G__law_cell_at : FnOk P w K mg base CX0 1 d__law_cell_at.f d__law_cell_at.fd ["script", "k"] (sp__law_cell_at K)) (d_made : DvD K mg "made" (top 27) ["name", "who", "side", "price", "amount", "peak"] [.int 0]) (G_made : FnOk P w K mg base (CXb P w) 3 d_made.f d_made.fd ["name", "who", "side", "price", "amount", "peak"] (sp_made R.c_BadName R.c_BadSide R.c_BadNumber)) (d__law_peak_by : Dv K mg "_law_peak_by" (top 53) ["cell", "amount"]) (G__law_peak_by : FnOk P w K mg base CX0 1 d__law_peak_by.f d__law_peak_by.fd ["cell", "amount"] (sp__law_peak_by K)) (d__law_name_of : Dv K mg "_law_name_of" (top 52) ["k", "how"]) (G__law_name_of : FnOk P w K mg base CX0 1 d__law_name_of.f d__law_name_of.fd ["k", "how"] (sp__law_name_of K)) : FnOk P w K mg base CX0 4 d__law_order_by.f d__law_order_by.fd ["script", "at", "k", "side"] (sp__law_order_by K) := by
  refine d__law_order_by.F.ok sc__law_order_by (fun vs H Q E h => ?_) (fun cdv A outer s H vs Q E hr h => ?_)
  · refine Classical.byContradiction fun hnzq => ?_; obtain ⟨_, _, _, _, _, rfl, _⟩ := h; refine hnzq ?_; clear hnzq; rfl
  refine Classical.byContradiction fun hnzq => ?_; obtain ⟨a, ns, at_, k, sd, rfl, hS, h0, hsd, q⟩ := h
  refine hnzq ?_; clear hnzq
  refine ⟨_, (pss_cons (ps_set (i := 4) sc__law_order_by.nd rfl (Or.inl rfl) (pe_call G__law_cell_at (hr.mono (by decide)) rfl d__law_cell_at.m d__law_cell_at.F.kp d__law_cell_at.b .nil pass0 (pa_cons (pv 0) (pa_cons pe_int pa_nil)))) (pss_cons (ps_set (i := 5) sc__law_order_by.nd rfl (Or.inl rfl) (pe_call G__law_cell_at (hr.mono (by decide)) rfl d__law_cell_at.m d__law_cell_at.F.kp d__law_cell_at.b .nil pass0 (pa_cons (pv 0) (pa_cons (pv 1) pa_nil)))) (pss_cons (ps_set (i := 6) sc__law_order_by.nd rfl (Or.inl rfl) (pe_call G__law_cell_at (hr.mono (by decide)) rfl d__law_cell_at.m d__law_cell_at.F.kp d__law_cell_at.b .nil pass0 (pa_cons (pv 0) (pa_cons (pe_op op_add (pv 1) pe_int) pa_nil)))) (pss_cons (ps_set (i := 7) sc__law_order_by.nd rfl (Or.inl rfl) (pe_op op_add pe_int (pe_op op_mod (pe_op op_fdiv (pv 5) pe_int) (pe_op op_pow pe_int pe_int)))) (pss_cut (ps_if (pt_cmpR op_ne (pe_op op_mod (pv 4) pe_int) pe_int (nomark _)) (pss_one (ps_set (i := 7) sc__law_order_by.nd rfl (Or.inl rfl) (pe_op op_add (pe_op op_add pe_int (pe_op op_mod (pe_op op_fdiv (pv 4) pe_int) (pe_op op_sub (pe_op op_pow pe_int pe_int) pe_int))) (pe_op op_mod (pe_op op_fdiv (pv 5) pe_int) pe_int)))) pss_nil) (pss_cons (ps_set (i := 8) sc__law_order_by.nd rfl (Or.inl rfl) (pe_op op_add pe_int (pe_op op_mod (pe_op op_fdiv (pv 6) pe_int) (pe_ix ix_list (pe_lst (pa_cons pe_int (pa_cons (pe_op op_pow pe_int pe_int) pa_nil))) (pe_op op_mod (pv 6) pe_int) (fun _ _ => rfl))))) (pss_one (ps_ret (pe_call G_made (hr.mono (by decide)) rfl d_made.m d_made.F.kp d_made.b .nil passb0 (pa_cons (pe_call G__law_name_of (hr.mono (by decide)) rfl d__law_name_of.m d__law_name_of.F.kp d__law_name_of.b .nil pass0 (pa_cons (pv 2) (pa_cons (pe_op op_fdiv (pv 4) pe_int) pa_nil))) (pa_cons (pe_op op_add_str pe_str (pe_callTy call_str_int rfl B.b_str PyProof.Rows.boot_str (pa_cons (pe_op op_mod (pe_op op_fdiv (pv 5) pe_int) pe_int) pa_nil))) (pa_cons (pv 3) (pa_cons (pv 7) (pa_cons (pv 8) (pa_cons (pe_call G__law_peak_by (hr.mono (by decide)) rfl d__law_peak_by.m d__law_peak_by.F.kp d__law_peak_by.b .nil pass0 (pa_cons (pv 6) (pa_cons (pv 8) pa_nil))) pa_nil))))))))))))))), ?_⟩
  have e9 : (10 : Int) ^ (9 : Int).toNat = 1000000000 := by decide
  refine ⟨_, rfl, a, ns, _, rfl, hS, by decide, ?_⟩
  refine ⟨_, rfl, _, rfl, a, ns, _, rfl, hS, h0, ?_⟩
  refine ⟨_, rfl, _, rfl, _, _, rfl, rfl, a, ns, _, rfl, hS, by lia, ?_⟩
  refine ⟨_, rfl, _, _, rfl, rfl, ⟨by decide, by decide⟩, _, _, rfl, rfl, ⟨by decide, by decide, by decide⟩, _, _, rfl, rfl, (by show (0 : Int) < _; decide), _, _, rfl, rfl, ?_⟩
  refine ⟨fun σ' H' => H = H' ∧ ∃ pr : Int, 1 ≤ pr ∧ pr ≤ 1000000000 ∧ σ' = [some (.ref a), some (.int at_), some (.int k), some (.str sd), some (.int (cell ns 0)), some (.int (cell ns at_)), some (.int (cell ns (at_ + 1))), some (.int pr), none], ?_, ?_⟩
  · refine ⟨_, rfl, _, _, rfl, rfl, (by (first | (show (0 : Int) < _; decide) | exact ⟨by decide, by decide⟩ | exact ⟨by decide, by decide, by decide⟩ | exact .inl ⟨by decide, by decide⟩ | exact .inr ⟨by decide, by decide⟩ | omega)), rfl, _, rfl, ?_⟩
    refine ite2 (fun _ => ?_) (fun _ => ?_)
    · refine ⟨_, rfl, _, _, rfl, rfl, ⟨by decide, by decide⟩, _, _, rfl, rfl, ⟨by decide, by decide, by decide⟩, _, _, rfl, rfl, _, _, rfl, rfl, (by show (0 : Int) < _; decide), _, _, rfl, rfl, _, rfl, _, _, rfl, rfl, ⟨by decide, by decide⟩, _, _, rfl, rfl, (by (first | (show (0 : Int) < _; decide) | exact ⟨by decide, by decide⟩ | exact ⟨by decide, by decide, by decide⟩ | exact .inl ⟨by decide, by decide⟩ | exact .inr ⟨by decide, by decide⟩ | omega)), _, _, rfl, rfl, rfl, _, ?_, ?_, rfl⟩
      · rw [e9]; lia
      · rw [e9]; lia
    · refine ⟨rfl, _, ?_, ?_, rfl⟩
      · rw [e9]; lia
      · rw [e9]; lia
  rintro _ _ zz
  refine Classical.byContradiction fun hnzq => ?_; obtain ⟨rfl, pr, hp1, hp2, rfl⟩ := zz
  refine hnzq ?_; clear hnzq
  refine Classical.byContradiction fun hnzq => ?_; obtain ⟨dv, adv, hdv1, hdv2⟩ : ∃ dv : Int, atI [V.int 12, V.int (10 ^ (9 : Int).toNat)] (cell ns (at_ + 1) % 2) = some (.int dv) ∧ 1 ≤ dv ∧ dv ≤ 1000000000 := by
    have : cell ns (at_ + 1) % 2 = 0 ∨ cell ns (at_ + 1) % 2 = 1 := by lia
    rcases this with e | e
    · exact ⟨12, by rw [e]; rfl, by decide⟩
    · exact ⟨_, by rw [e]; rfl, by decide⟩
  refine hnzq ?_; clear hnzq
  refine ⟨_, rfl, _, _, rfl, rfl, ⟨by decide, by decide⟩, _, _, rfl, rfl, ⟨by decide, by decide, by decide⟩, by (first | exact szOk (Nat.le_of_ble_eq_true rfl) | exact szLt (Nat.le_of_ble_eq_true rfl) | omega), fun l0 hl0 => ?_⟩
  refine ⟨_, rfl, _, _, rfl, rfl, (by (first | (show (0 : Int) < _; decide) | exact ⟨by decide, by decide⟩ | exact ⟨by decide, by decide, by decide⟩ | exact .inl ⟨by decide, by decide⟩ | exact .inr ⟨by decide, by decide⟩ | omega)), l0, _, _, _, rfl, rfl, .inl (.inl upd_same), adv, _, _, rfl, rfl, (by show (0 : Int) < _; lia), _, _, rfl, rfl, ?_⟩
  have m0 := Int.emod_nonneg (cell ns (at_ + 1) / 2) (show dv ≠ 0 by (exact Int.ne_of_gt (by assumption)))
  have m1 := Int.emod_lt_of_pos (cell ns (at_ + 1) / 2) (show 0 < dv by lia)
  have s0 := same_upd (u := .lst [V.int 12, V.int (10 ^ (9 : Int).toNat)]) hl0
  refine ⟨_, rfl, _, rfl, _, _, rfl, rfl, ⟨by decide, by decide⟩, _, _, rfl, ?_⟩
  have w0 : 0 ≤ cell ns at_ / 16 % 7 := by lia
  have w1 : cell ns at_ / 16 % 7 < 10 ^ 11 := by lia
  have wsz := num_size (p := Str.ofString "h") (by decide +kernel) w0 w1
  have wn : nameB (Str.ofString "h" ++ Str.ofString (toString (cell ns at_ / 16 % 7))) = true := name_num (x := 104) (by decide +kernel) (by decide +kernel) (by decide +kernel) w0 w1
  have lg : (cell ns at_ / 16 % 7).natAbs.log2 < 1920 := by
    have h : (cell ns at_ / 16 % 7).natAbs < 2 ^ 1920 := Nat.lt_of_lt_of_le (show (cell ns at_ / 16 % 7).natAbs < 7 by lia) (by decide)
    by_cases e : (cell ns at_ / 16 % 7).natAbs = 0
    · rw [e]; decide
    · exact (Nat.log2_lt e).mpr h
  refine ⟨_, rfl, _, _, rfl, rfl, ⟨by decide, by decide⟩, _, _, rfl, rfl, (by (first | (show (0 : Int) < _; decide) | exact ⟨by decide, by decide⟩ | exact ⟨by decide, by decide, by decide⟩ | exact .inl ⟨by decide, by decide⟩ | exact .inr ⟨by decide, by decide⟩ | omega)), _, rfl, lg, _, _, rfl, rfl, szOk (Nat.le_trans wsz.2 (by decide)), ?_⟩
  generalize hnm : Str.ofString "h" ++ Str.ofString (toString (cell ns at_ / 16 % 7)) = wm at wn wsz
  have hwz : wm.cps.size ≤ 16777216 := Nat.le_trans wsz.1 (by decide)
  refine ⟨_, rfl, _, rfl, _, rfl, _, rfl, _, rfl, _, _, rfl, by lia, by lia, fun pk hpk => ?_⟩
  refine ⟨nmOf k (cell ns 0 / 3), wm, sd, pr, _, pk, by rw [← hnm]; rfl, Nat.le_trans (nm_size _ _) (by decide), hwz, fun e => (by rw [nm_ok, wn] at e; cases e), fun _ e => (by rw [hsd] at e; cases e), fun _ _ e => ?_, fun _ _ _ H1 t s1 ht => ?_⟩
  · rw [show numB pr (1 + cell ns (at_ + 1) / 2 % dv) pk = true by unfold numB; rw [decide_eq_true ⟨hp1, hp2⟩, decide_eq_true (show 1 ≤ 1 + cell ns (at_ + 1) / 2 % dv ∧ 1 + cell ns (at_ + 1) / 2 % dv ≤ 1000000000 by lia), hpk]; rfl] at e
    cases e
  · exact q _ t ⟨nmOf k (cell ns 0 / 3), wm, sd, pr, 1 + cell ns (at_ + 1) / 2 % dv, shw (1 + cell ns (at_ + 1) / 2 % dv) pk, pk⟩ (s0.trans s1) ht rfl rfl (ordOk_made (l := 1 + cell ns (at_ + 1) / 2 % dv) (by omega) hpk) hp1 hp2 (by show 1 + cell ns (at_ + 1) / 2 % dv ≤ 1000000000; omega)
theorem sc_total : FnScope ["line"] ["line"] (defScope (top 42)) := ⟨rfl, rfl, rfl, by decide +kernel, rfl, by decide +kernel, by decide +kernel⟩
noncomputable def sp_total (K : PySem.W.Frag) : Sp := fun vs H Q _ => ∃ (p : Addr) (ps : List AO), vs = [.ref p] ∧ SqL K H p (ps.map rf) ∧ Ords H ps ∧ ps.length ≤ 1000 ∧ ∀ H', Same H H' → Q (.int (totO ps)) H'
theorem ok_total (d_total : Dv K mg "total" (top 42) ["line"]) (B : Bl mg) (C : Co mg) (R : Er K mg)  : FnOk P w K mg base CX0 1 d_total.f d_total.fd ["line"] (sp_total K) := by
  refine d_total.F.ok sc_total (fun vs H Q E h => ?_) (fun cdv A outer s H vs Q E hr h => ?_)
  · refine Classical.byContradiction fun hnzq => ?_; obtain ⟨_, _, rfl, _⟩ := h; refine hnzq ?_; clear hnzq; rfl
  refine Classical.byContradiction fun hnzq => ?_; obtain ⟨p, ps, rfl, hS, hO, hl, q⟩ := h
  refine hnzq ?_; clear hnzq
  refine ⟨_, (pss_one (ps_ret (pe_callB (call_sum rfl) rfl B.b_sum PyProof.Rows.boot_sum (pa_cons (pe_lc (N := ["line"]) (sc := defScope (top 42)) ⟨by decide +kernel, rfl, rfl, by decide +kernel, by decide +kernel, by decide +kernel, by decide +kernel⟩ rfl rfl rfl (pi_list (pv 0)) (fun _ _ _ _ _ => pif_nil) (fun _ _ _ _ _ => (pe_ix (ix_tupK (K := K) rfl) (pv 0) (pe_glob (v := .int 4) rfl C.m_LEFT ⟨_, rfl⟩) (fun _ _ => rfl)))) pa_nil)))), ?_⟩
  refine ⟨_, rfl, p, rfl, ⟨_, hS⟩, ?_⟩
  refine comp_map (fun _ => true) (fun x => V.int x.2.l) hS (szOk (by omega)) (fun x H' hx sm R R0 h1 _ => ?_) (fun H' sm l hl' => ?_)
  · have hx' := sm _ _ (hO x hx)
    exact ⟨rfl, iteT (B := R0 H') ⟨_, rfl, x.1, _, _, _, rfl, rfl, .inl (.inl hx'), rfl, h1 rfl _ (Same.refl _)⟩⟩
  · refine ⟨l, ps.map (fun x : AO => x.2.l), rfl, .inl (.inl ?_), q _ (same_upd' sm hl')⟩
    rw [upd_same, show ps.filter (fun _ => true) = ps by simp, List.map_map]
    rfl
theorem sc_prices_in_order : FnScope ["prices", "side"] ["prices", "side"] (defScope (top 46)) := ⟨rfl, rfl, rfl, by decide +kernel, rfl, by decide +kernel, by decide +kernel⟩
noncomputable def sp_prices_in_order (K : PySem.W.Frag) : Sp := fun vs H Q _ => ∃ (p : Addr) (prs : List Int) (sd : Str), vs = [.ref p, .str sd] ∧ H p = some (.lst (prs.map V.int)) ∧ prs.length ≤ 1000 ∧ ∀ (H' : Hp) (b : Bool), Same H H' → (b = true ↔ ∀ (i : Nat), i + 1 < prs.length → aheadB sd (prs.getD (i + 1) 0) (prs.getD i 0) = false) → Q (.bl b) H'
theorem ok_prices_in_order (d_prices_in_order : Dv K mg "prices_in_order" (top 46) ["prices", "side"]) (B : Bl mg) (C : Co mg) (R : Er K mg) (d_ahead : Dv K mg "ahead" (top 32) ["side", "price", "other"]) (G_ahead : FnOk P w K mg base CX0 1 d_ahead.f d_ahead.fd ["side", "price", "other"] (sp_ahead K)) : FnOk P w K mg base CX0 2 d_prices_in_order.f d_prices_in_order.fd ["prices", "side"] (sp_prices_in_order K) := by
  refine d_prices_in_order.F.ok sc_prices_in_order (fun vs H Q E h => ?_) (fun cdv A outer s H vs Q E hr h => ?_)
  · refine Classical.byContradiction fun hnzq => ?_; obtain ⟨_, _, _, rfl, _⟩ := h; refine hnzq ?_; clear hnzq; rfl
  refine Classical.byContradiction fun hnzq => ?_; obtain ⟨p, prs, sd, rfl, hp, hl, q⟩ := h
  refine hnzq ?_; clear hnzq
  refine ⟨_, (pss_one (ps_ret (pe_not (pe_callB (call_any rfl) rfl B.b_any PyProof.Rows.boot_any (pa_cons (pe_lc (N := ["prices", "side"]) (sc := defScope (top 46)) ⟨by decide +kernel, rfl, rfl, by decide +kernel, by decide +kernel, by decide +kernel, by decide +kernel⟩ rfl rfl rfl (pi_range2 rfl B.b_range (pa_cons pe_int (pa_cons (pe_callB call_len_seq rfl B.b_len PySem.boot_len (pa_cons (pv 0) pa_nil)) pa_nil))) (fun _ _ _ _ _ => pif_nil) (fun _ _ _ _ _ => (pe_call G_ahead (hr.mono (by decide)) rfl d_ahead.m d_ahead.F.kp d_ahead.b .nil pass0 (pa_cons (pv 2) (pa_cons (pe_ix (ix_listK (K := K) rfl) (pv 1) (pv 0) (fun _ _ => rfl)) (pa_cons (pe_ix (ix_listK (K := K) rfl) (pv 1) (pe_op op_sub (pv 0) pe_int) (fun _ _ => rfl)) pa_nil)))))) pa_nil))))), ?_⟩
  have hlen : (((prs.map V.int).length : Nat) : Int) = prs.length := by rw [List.length_map]
  refine ⟨_, rfl, p, _, rfl, .inl (.inl (.inl hp)), _, _, rfl, ⟨by decide, by decide, by (exact Int.ofNat_nonneg _), by omega⟩, ?_⟩
  refine comp_val (n := (((prs.map V.int).length : Int) - 1).toNat) (val := fun j : Nat => .int (1 + (j : Int))) (fun v => match v with | .int k => .bl (aheadB sd (prs.getD k.toNat 0) (prs.getD (k.toNat - 1) 0)) | v => v) (by rw [hlen]; exact szOk (by lia)) (fun i H' hi sm R hR => ?_) (fun H1 s1 l hl' => ?_)
  · have hi' : i + 1 < prs.length := by omega
    have a1 : atI (prs.map V.int) (1 + (i : Int)) = some (.int (prs.getD (i + 1) 0)) := by
      have z := at_cell (ns := prs) (k := 1 + (i : Int)) (by (exact Int.ofNat_nonneg _)) (by lia)
      rwa [show (1 + (i : Int)).toNat = i + 1 by (exact Nat.add_comm _ _)] at z
    have a2 : atI (prs.map V.int) (1 + (i : Int) - 1) = some (.int (prs.getD i 0)) := by
      have z := at_cell (ns := prs) (k := 1 + (i : Int) - 1) (by lia) (by lia)
      rwa [show (1 + (i : Int) - 1).toNat = i by lia] at z
    have hp' := sm _ _ hp
    refine ⟨rfl, _, rfl, _, rfl, _, rfl, p, _, _, _, rfl, rfl, .inl (.inl hp'), a1, _, rfl, _, rfl, _, _, rfl, rfl, p, _, _, _, rfl, rfl, .inl (.inl hp'), a2, _, _, _, rfl, ?_⟩
    have := hR _ (Same.refl _)
    dsimp only at this
    rw [show (1 + (i : Int)).toNat = i + 1 by (exact Nat.add_comm _ _), Nat.add_sub_cancel] at this
    exact this
  refine ⟨l, (List.range (((prs.map V.int).length : Int) - 1).toNat).map (fun i => aheadB sd (prs.getD (i + 1) 0) (prs.getD i 0)), rfl, .inl (.inl ?_), _, rfl, q _ _ (same_upd' s1 hl') ?_⟩
  · rw [upd_same, List.map_map]
    refine congrArg (fun z => some (HO.lst z)) (List.map_congr_left fun i _ => ?_)
    show (V.bl (aheadB sd (prs.getD (1 + (i : Int)).toNat 0) (prs.getD ((1 + (i : Int)).toNat - 1) 0))) = V.bl (aheadB sd (prs.getD (i + 1) 0) (prs.getD i 0))
    rw [show (1 + (i : Int)).toNat = i + 1 by (exact Nat.add_comm _ _), Nat.add_sub_cancel]
  · rw [hlen]
    constructor
    · intro h i hi
      have h2 : ((List.range ((prs.length : Int) - 1).toNat).map fun i => aheadB sd (prs.getD (i + 1) 0) (prs.getD i 0)).any id = false := by simpa using h
      rw [List.any_map, List.any_eq_false] at h2
      have := h2 i (List.mem_range.mpr (by lia))
      simpa using this
    · intro h
      have h2 : ((List.range ((prs.length : Int) - 1).toNat).map fun i => aheadB sd (prs.getD (i + 1) 0) (prs.getD i 0)).any id = false := by
        rw [List.any_map, List.any_eq_false]
        intro i hi
        have := h i (by have := List.mem_range.mp hi; (clear B G_ahead hr hp hl q s1 hl' h hi; omega))
        simpa using this
      rw [h2]
      rfl
theorem sc_is_line : FnScope ["orders", "side"] ["orders", "side"] (defScope (top 43)) := ⟨rfl, rfl, rfl, by decide +kernel, rfl, by decide +kernel, by decide +kernel⟩
noncomputable def sp_is_line (K : PySem.W.Frag) : Sp := fun vs H Q _ => ∃ (p : Addr) (ps : List AO) (sd : Str), vs = [.ref p, .str sd] ∧ SqL K H p (ps.map rf) ∧ Ords H ps ∧ ps.length ≤ 900 ∧ ∀ (H' : Hp) (b : Bool), Same H H' → (b = true ↔ Gd sd (ps.map (·.2))) → Q (.bl b) H'
theorem ok_is_line (d_is_line : Dv K mg "is_line" (top 43) ["orders", "side"]) (B : Bl mg) (C : Co mg) (R : Er K mg) (d_names_of : Dv K mg "names_of" (top 44) ["orders"]) (G_names_of : FnOk P w K mg base CX0 1 d_names_of.f d_names_of.fd ["orders"] (sp_names_of K)) (d_prices_in_order : Dv K mg "prices_in_order" (top 46) ["prices", "side"]) (G_prices_in_order : FnOk P w K mg base CX0 2 d_prices_in_order.f d_prices_in_order.fd ["prices", "side"] (sp_prices_in_order K)) : FnOk P w K mg base CX0 3 d_is_line.f d_is_line.fd ["orders", "side"] (sp_is_line K) := by
  refine d_is_line.F.ok sc_is_line (fun vs H Q E h => ?_) (fun cdv A outer s H vs Q E hr h => ?_)
  · refine Classical.byContradiction fun hnzq => ?_; obtain ⟨_, _, _, rfl, _⟩ := h; refine hnzq ?_; clear hnzq; rfl
  refine Classical.byContradiction fun hnzq => ?_; obtain ⟨p, ps, sd, rfl, hS, hO, hl, q⟩ := h
  refine hnzq ?_; clear hnzq
  refine ⟨_, (pss_cons (ps_if (pt_val (pe_callB (call_any rfl) rfl B.b_any PyProof.Rows.boot_any (pa_cons (pe_lc (N := ["orders", "side"]) (sc := defScope (top 43)) ⟨by decide +kernel, rfl, rfl, by decide +kernel, by decide +kernel, by decide +kernel, by decide +kernel⟩ rfl rfl rfl (pi_list (pv 0)) (fun _ _ _ _ _ => pif_nil) (fun _ _ _ _ _ => (pe_cmpR op_ne (pe_ix (ix_tupK (K := K) rfl) (pv 0) (pe_glob (v := .int 2) rfl C.m_SIDE ⟨_, rfl⟩) (fun _ _ => rfl)) (pv 2) (nomark _)))) pa_nil)) (fun _ => rfl)) (pss_one (ps_ret pe_bl)) pss_nil) (pss_cons (ps_if (pt_cmpR op_ne (pe_lenSet rfl rfl B.b_len rfl B.b_set (pe_call G_names_of (hr.mono (by decide)) rfl d_names_of.m d_names_of.F.kp d_names_of.b .nil pass0 (pa_cons (pv 0) pa_nil))) (pe_callB call_len_seq rfl B.b_len PySem.boot_len (pa_cons (pv 0) pa_nil)) (nomark _)) (pss_one (ps_ret pe_bl)) pss_nil) (pss_one (ps_ret (pe_call G_prices_in_order (hr.mono (by decide)) rfl d_prices_in_order.m d_prices_in_order.F.kp d_prices_in_order.b .nil pass0 (pa_cons (pe_lc (N := ["orders", "side"]) (sc := defScope (top 43)) ⟨by decide +kernel, rfl, rfl, by decide +kernel, by decide +kernel, by decide +kernel, by decide +kernel⟩ rfl rfl rfl (pi_list (pv 0)) (fun _ _ _ _ _ => pif_nil) (fun _ _ _ _ _ => (pe_ix (ix_tupK (K := K) rfl) (pv 0) (pe_glob (v := .int 3) rfl C.m_PRICE ⟨_, rfl⟩) (fun _ _ => rfl)))) (pa_cons (pv 1) pa_nil))))))), ?_⟩
  refine ⟨_, rfl, p, rfl, ⟨_, hS⟩, ?_⟩
  refine comp_map (fun _ => true) (fun x : AO => V.bl (!decide (x.2.s = sd))) hS (szOk (by (exact Nat.le_add_left_of_le (by assumption)))) (fun x H' hx sm R R0 h1 _ => ?_) (fun H1 s1 l1 hl1 => ?_)
  · have hx' := sm _ _ (hO x hx)
    refine ⟨rfl, iteT (B := R0 H') ⟨_, rfl, x.1, _, _, _, rfl, rfl, .inl (.inl hx'), rfl, _, rfl, rfl, ?_⟩⟩
    have := h1 rfl _ (Same.refl _)
    by_cases c : x.2.s = sd
    · rw [show (!decide (V.str x.2.s = V.str sd)) = (!decide (x.2.s = sd)) by simp [c]]
      exact this
    · rw [show (!decide (V.str x.2.s = V.str sd)) = (!decide (x.2.s = sd)) by simp [c]]
      exact this
  rw [show ps.filter (fun _ => true) = ps by simp]
  have s2 := same_upd' (u := .lst (ps.map fun x : AO => V.bl (!decide (x.2.s = sd)))) s1 hl1
  refine ⟨l1, ps.map (fun x : AO => !decide (x.2.s = sd)), rfl, .inl (.inl (by rw [upd_same, List.map_map]; rfl)), _, rfl, ite2 (fun c => ?_) (fun c => ?_)⟩
  · refine q _ _ s2 ⟨fun z => (by cases z), fun g => ?_⟩
    rw [List.any_map] at c
    refine Classical.byContradiction fun hnzq => ?_; obtain ⟨x, hx, e⟩ := List.any_eq_true.mp c
    refine hnzq ?_; clear hnzq
    have := g.sd x.2 (List.mem_map_of_mem (f := fun x : AO => x.2) hx)
    simp [this] at e
  have hsd : ∀ x ∈ ps, x.2.s = sd := fun x hx => by
    by_cases d : x.2.s = sd
    · exact d
    · exact absurd (List.any_eq_true.mpr ⟨!decide (x.2.s = sd), List.mem_map_of_mem (f := fun x : AO => !decide (x.2.s = sd)) hx, by simp [d]⟩) c
  generalize upd H1 l1 (.lst (ps.map fun x : AO => V.bl (!decide (x.2.s = sd)))) = H2 at s2
  refine ⟨_, rfl, p, ps, rfl, s2.seq hS, hO.same s2, by (exact Nat.le_add_left_of_le (by assumption)), fun H3 l3 s3 k3 => ?_⟩
  have s3 := s2.trans s3
  refine ⟨l3, ps.map (fun x : AO => x.2.n), rfl, .inl (.inl (by rw [k3, List.map_map]; rfl)), by rw [List.length_map]; lia, fun ks ndk mk => ?_⟩
  refine ⟨_, rfl, p, _, rfl, .inl (s3.seq hS), rfl, _, rfl, ?_⟩
  have hlen : (((ps.map rf).length : Nat) : Int) = (ps.map fun x : AO => x.2.n).length := by rw [List.length_map, List.length_map]
  rw [hlen]
  have pl := perm_len ndk mk
  have enm : (ps.map (·.2)).map (fun o => o.n) = ps.map (fun x : AO => x.2.n) := by rw [List.map_map]; rfl
  refine ite2 (fun c => ?_) (fun c => ?_)
  · have c' : ¬ ks.length = (ps.map fun x : AO => x.2.n).length := fun e => by rw [e] at c; simp at c
    refine q _ _ s3 ⟨fun z => (by cases z), fun g => absurd (pl.mpr (by rw [← enm]; exact g.nd)) c'⟩
  have c' : ks.length = (ps.map fun x : AO => x.2.n).length := by
    by_cases e : ks.length = (ps.map fun x : AO => x.2.n).length
    · exact e
    · exact absurd (by
        have : ¬ (ks.length : Int) = ((ps.map fun x : AO => x.2.n).length : Int) := by lia
        rw [decide_eq_false (fun z => this (V.int.inj z))]
        rfl) c
  have ndn := pl.mp c'
  refine ⟨_, rfl, p, rfl, ⟨_, s3.seq hS⟩, ?_⟩
  refine comp_map (fun _ => true) (fun x : AO => V.int x.2.pr) (s3.seq hS) (szOk (by (exact Nat.le_add_left_of_le (by assumption)))) (fun x H' hx sm R R0 h1 _ => ?_) (fun H4 s4 l4 hl4 => ?_)
  · have hx' := sm _ _ (s3 _ _ (hO x hx))
    exact ⟨rfl, iteT (B := R0 H') ⟨_, rfl, x.1, _, _, _, rfl, rfl, .inl (.inl hx'), rfl, h1 rfl _ (Same.refl _)⟩⟩
  rw [show ps.filter (fun _ => true) = ps by simp]
  have s5 := same_upd' (u := .lst (ps.map fun x : AO => V.int x.2.pr)) s4 hl4
  refine ⟨_, rfl, l4, ps.map (fun x : AO => x.2.pr), sd, rfl, by rw [upd_same, List.map_map]; rfl, by rw [List.length_map]; (exact Nat.le_add_left_of_le (by assumption)), fun H6 b s6 hb => q _ b (s3.trans (s5.trans s6)) (hb.trans ?_)⟩
  have gt : ∀ (i : Nat) (hi : i < ps.length), (ps.map fun x : AO => x.2.pr).getD i 0 = ps[i].2.pr := fun i hi => by rw [List.getD_eq_getElem?_getD, List.getElem?_map, List.getElem?_eq_getElem hi]; rfl
  constructor
  · intro h
    refine ⟨fun o ho => ?_, by rw [enm]; exact ndn, fun i x y hx hy => ?_⟩
    · refine Classical.byContradiction fun hnzq => ?_; obtain ⟨x, hx, rfl⟩ := List.mem_map.mp ho
      refine hnzq ?_; clear hnzq
      exact hsd x hx
    · rw [List.getElem?_map] at hx hy
      refine Classical.byContradiction fun hnzq => ?_; obtain ⟨x', hx', rfl⟩ := Option.map_eq_some_iff.mp hx
      refine hnzq ?_; clear hnzq
      refine Classical.byContradiction fun hnzq => ?_; obtain ⟨y', hy', rfl⟩ := Option.map_eq_some_iff.mp hy
      refine hnzq ?_; clear hnzq
      refine Classical.byContradiction fun hnzq => ?_; obtain ⟨i1, e1⟩ := List.getElem?_eq_some_iff.mp hx'
      refine hnzq ?_; clear hnzq
      refine Classical.byContradiction fun hnzq => ?_; obtain ⟨i2, e2⟩ := List.getElem?_eq_some_iff.mp hy'
      refine hnzq ?_; clear hnzq
      have := h i (by rw [List.length_map]; exact i2)
      rw [gt (i + 1) i2, gt i i1, e1, e2] at this
      exact this
  · intro g i hi
    rw [List.length_map] at hi
    rw [gt (i + 1) hi, gt i (by (exact Nat.lt_of_succ_lt (by assumption)))]
    exact g.pr i _ _ (by rw [List.getElem?_map, List.getElem?_eq_getElem (show i < ps.length by (exact Nat.lt_of_succ_lt (by assumption)))]; rfl) (by rw [List.getElem?_map, List.getElem?_eq_getElem hi]; rfl)
theorem sc__law_lines_up : FnScope ["line", "book", "side", "rows", "name", "one", "rank"] ["line", "book", "side"] (defScope (top 56)) := ⟨rfl, rfl, rfl, by decide +kernel, rfl, by decide +kernel, by decide +kernel⟩
noncomputable def sp__law_lines_up (K : PySem.W.Frag) : Sp := fun vs H Q _ => ∃ (p : Addr) (ps : List AO) (D : Addr) (es : List OS) (bk : List BE) (sd : Str), vs = [.ref p, .ref D, .str sd] ∧ H p = some (.lst (ps.map rf)) ∧ Ords H ps ∧ H D = some (.dK (kvB bk)) ∧ BkH H bk ∧ (∃ now, LB sd now ps es bk) ∧ ps.length ≤ 40 ∧ ∀ H', Same H H' → Q (.bl true) H'
theorem ok__law_lines_up (d__law_lines_up : Dv K mg "_law_lines_up" (top 56) ["line", "book", "side"]) (B : Bl mg) (C : Co mg) (R : Er K mg) (d_is_line : Dv K mg "is_line" (top 43) ["orders", "side"]) (G_is_line : FnOk P w K mg base CX0 3 d_is_line.f d_is_line.fd ["orders", "side"] (sp_is_line K)) (d__law_line_alike : Dv K mg "_law_line_alike" (top 51) ["found", "due"]) (G__law_line_alike : FnOk P w K mg base CX0 3 d__law_line_alike.f d__law_line_alike.fd ["found", "due"] (sp__law_line_alike K)) : FnOk P w K mg base CX0 4 d__law_lines_up.f d__law_lines_up.fd ["line", "book", "side"] (sp__law_lines_up K) := by
  refine d__law_lines_up.F.ok sc__law_lines_up (fun vs H Q E h => ?_) (fun cdv A outer s H vs Q E hr h => ?_)
  · refine Classical.byContradiction fun hnzq => ?_; obtain ⟨_, _, _, _, _, _, rfl, _⟩ := h; refine hnzq ?_; clear hnzq; rfl
  refine Classical.byContradiction fun hnzq => ?_; obtain ⟨p, ps, D, es, bk, sd, rfl, hp, hO, hD, hB, ⟨now, lb⟩, hl, q⟩ := h
  refine hnzq ?_; clear hnzq
  refine ⟨_, (pss_cons (ps_set (i := 3) sc__law_lines_up.nd rfl (Or.inl rfl) (pe_lst pa_nil)) (pss_cons (ps_for PassesOwn.never rfl (pi_list (pe_callB call_sortedS rfl B.b_sorted PyProof.Rows.boot_sorted (pa_cons (pe_callTy (call_listD rfl) rfl B.b_list PyProof.Rows.boot_list (pa_cons (pv 1) pa_nil)) pa_nil))) (pg_name (i := 4) sc__law_lines_up.nd rfl (Or.inl rfl)) (pss_cons (ps_set (i := 5) sc__law_lines_up.nd rfl (Or.inl rfl) (pe_dget (hu1 hr.units) (pv 1) (pv 4) (fun _ _ => rfl))) (pss_cons (ps_set (i := 6) sc__law_lines_up.nd rfl (Or.inl rfl) (pe_ix ix_tup (pe_ix ix_tup (pv 5) pe_int (fun _ _ => rfl)) pe_int (fun _ _ => rfl))) (pss_cut (ps_if (pt_cmpR op_eq (pv 2) pe_str (nomark _)) (pss_one (ps_set (i := 6) sc__law_lines_up.nd rfl (Or.inl rfl) (pe_un un_neg (pv 6)))) pss_nil) (pss_one (ps_expr (pe_bm PySem.F.plainAttrs_list PySem.F.slot_list_append PySem.F.type_list_append mt_append (pv 3) (pa_cons (pe_tup (pa_cons (pv 6) (pa_cons (pe_ix ix_tup (pv 5) pe_int (fun _ _ => rfl)) (pa_cons (pe_ix ix_tup (pv 5) pe_int (fun _ _ => rfl)) pa_nil)))) pa_nil)))))))) (pss_cons (ps_set (i := 3) sc__law_lines_up.nd rfl (Or.inl rfl) (pe_callB call_sortedN3 rfl B.b_sorted PyProof.Rows.boot_sorted (pa_cons (pv 3) pa_nil))) (pss_one (ps_ret (pe_and (pe_call G__law_line_alike (hr.mono (by decide)) rfl d__law_line_alike.m d__law_line_alike.F.kp d__law_line_alike.b .nil pass0 (pa_cons (pv 0) (pa_cons (pe_lc (N := ["line", "book", "side", "rows", "name", "one", "rank"]) (sc := defScope (top 56)) ⟨by decide +kernel, rfl, rfl, by decide +kernel, by decide +kernel, by decide +kernel, by decide +kernel⟩ rfl rfl rfl (pi_list (pv 3)) (fun _ _ _ _ _ => pif_nil) (fun _ _ _ _ _ => (pe_ix (ix_tupK (K := K) rfl) (pv 0) pe_int (fun _ _ => rfl)))) pa_nil))) (pe_one (pe_cmpR op_isB (pe_call G_is_line (hr.mono (by decide)) rfl d_is_line.m d_is_line.F.kp d_is_line.b .nil pass0 (pa_cons (pv 0) (pa_cons (pv 2) pa_nil))) pe_bl (nomark _))))))))), ?_⟩
  have lbk := lb.len
  refine ⟨by (first | exact szOk (Nat.le_of_ble_eq_true rfl) | exact szLt (Nat.le_of_ble_eq_true rfl) | omega), fun R0 hR0 => ?_⟩
  have fR : H R0 = none := hR0
  have s1 := same_upd (u := .lst []) hR0
  have kR : upd H R0 (.lst []) R0 = some (.lst (([] : List AE).map fun z => V.ref z.1)) := upd_same
  generalize upd H R0 (.lst []) = H1 at s1 kR
  refine ⟨_, rfl, D, bk.map (fun e => (e.nm, V.ref e.t)), rfl, by rw [← kvB_keys]; exact s1 _ _ hD, by rw [List.length_map]; lia, fun l1 hl1 => ?_⟩
  refine ⟨l1, bk.map (·.nm), rfl, .inl (.inl (by rw [upd_same, List.map_map, List.map_map]; rfl)), by rw [List.length_map]; lia, fun l2 ms hl2 pm _ => ?_⟩
  refine Classical.byContradiction fun hnzq => ?_; obtain ⟨eb, pe, eem⟩ := perm_map_ex (fun e : BE => e.nm) pm
  refine hnzq ?_; clear hnzq
  subst eem
  have n2R : l2 ≠ R0 := (ne_of_none (at_upd kR hl1) hl2).symm
  have s2 := s1.trans (same_upd' (u := .lst ((eb.map (·.nm)).map V.str)) (same_upd hl1) hl2)
  have kR2 := same_upd' (u := .lst ((eb.map (·.nm)).map V.str)) (same_upd hl1) hl2 _ _ kR
  refine ⟨l2, rfl, ⟨_, .inl (.inl upd_same)⟩, ?_⟩
  have k2 : upd (upd H1 l1 (.lst ((bk.map fun e => (e.nm, V.ref e.t)).map fun p => V.str p.1))) l2 (.lst ((eb.map (·.nm)).map V.str)) l2 = some (.lst ((eb.map (·.nm)).map V.str)) := upd_same
  generalize upd (upd H1 l1 (.lst ((bk.map fun e => (e.nm, V.ref e.t)).map fun p => V.str p.1))) l2 (.lst ((eb.map (·.nm)).map V.str)) = H2 at s2 kR2 k2
  have leb := pe.length_eq
  refine for_list (K := K) (a := l2) (xs := (eb.map (·.nm)).map V.str) (fun i σ H' => (∃ v4 v5 v6, σ = [some (.ref p), some (.ref D), some (.str sd), some (.ref R0), v4, v5, v6]) ∧ Same H H' ∧ H' l2 = some (.lst ((eb.map (·.nm)).map V.str)) ∧ ∃ tz : List AE, H' R0 = some (.lst (tz.map fun z => V.ref z.1)) ∧ tz.map (·.2) = eb.take i ∧ RowH sd H' tz) ⟨⟨none, none, none, rfl⟩, s2, k2, [], kR2, rfl, fun z hz => nomatch hz⟩ (fun i σ H' _ z => .inl (.inl z.2.2.1)) (fun i x σ H' hx z => ?_) (fun σ H' z => ?_)
  · refine Classical.byContradiction fun hnzq => ?_; obtain ⟨⟨v4, v5, v6, rfl⟩, sm, kl, tz, kR, etz, hR⟩ := z
    refine hnzq ?_; clear hnzq
    refine Classical.byContradiction fun hnzq => ?_; obtain ⟨e, rfl, hei⟩ : ∃ e : BE, x = V.str e.nm ∧ eb[i]? = some e := by
      rw [List.getElem?_map, List.getElem?_map] at hx
      cases c : eb[i]? with
      | none => rw [c] at hx; cases hx
      | some e => rw [c] at hx; exact ⟨e, (Option.some.inj hx).symm, rfl⟩
    refine hnzq ?_; clear hnzq
    have heb : e ∈ bk := pe.mem_iff.mp (List.mem_of_getElem? hei)
    have il : i < eb.length := (List.getElem?_eq_some_iff.mp hei).1
    refine Classical.byContradiction fun hnzq => ?_; obtain ⟨h1, h2⟩ := hB e heb
    refine hnzq ?_; clear hnzq
    have ltz : tz.length = i := by
      have := congrArg List.length etz
      rw [List.length_map, List.length_take] at this
      lia
    refine ⟨_, rfl, _, rfl, D, V.ref e.t, rfl, .inl ⟨kvB bk, Sum.inr e.nm, .inl (sm _ _ hD), rfl, (kvB_val lb.nd heb rfl).symm⟩, ?_⟩
    refine ⟨_, rfl, e.t, _, _, _, rfl, rfl, .inl (.inl (sm _ _ h1)), rfl, e.a, _, _, _, rfl, rfl, .inl (.inl (sm _ _ h2)), rfl, ?_⟩
    refine ⟨fun σ' H3 => σ' = [some (.ref p), some (.ref D), some (.str sd), some (.ref R0), some (.str e.nm), some (.ref e.t), some (.int (rkE sd e.od.pr))] ∧ H' = H3, ?_, ?_⟩
    · refine ⟨_, rfl, rfl, _, rfl, ?_⟩
      refine ite2 (fun c => ?_) (fun c => ?_)
      · have c1 : sd = "buy" := by simpa using c
        refine ⟨_, rfl, _, rfl, ?_, rfl⟩
        rw [show rkE sd e.od.pr = -e.od.pr from if_pos c1]
        rfl
      · have c1 : ¬ sd = "buy" := by simpa using c
        refine ⟨?_, rfl⟩
        rw [show rkE sd e.od.pr = e.od.pr from if_neg c1]
        rfl
    rintro _ _ zz
    refine Classical.byContradiction fun hnzq => ?_; obtain ⟨rfl, rfl⟩ := zz
    refine hnzq ?_; clear hnzq
    refine ⟨_, rfl, .inl ⟨rfl, _, .inl (.inl kR)⟩, _, rfl, _, rfl, e.t, _, _, _, rfl, rfl, .inl (.inl (sm _ _ h1)), rfl, _, rfl, e.t, _, _, _, rfl, rfl, .inl (.inl (sm _ _ h1)), rfl, by (first | exact szOk (Nat.le_of_ble_eq_true rfl) | exact szLt (Nat.le_of_ble_eq_true rfl) | omega), fun tt htt => ?_⟩
    have s3 := same_upd (u := .tup [V.int (rkE sd e.od.pr), V.int e.si, V.ref e.a]) htt
    have ktt : upd H' tt (.tup [V.int (rkE sd e.od.pr), V.int e.si, V.ref e.a]) tt = some (.tup [V.int (rkE sd e.od.pr), V.int e.si, V.ref e.a]) := upd_same
    have kR3 := s3 _ _ kR
    have kl3 := s3 _ _ kl
    have hR3 := hR.same s3
    have sm3 := sm.trans s3
    refine ⟨R0, _, _, rfl, rfl, kR3, by rw [List.length_map]; exact szLt (by lia), ?_⟩
    generalize upd H' tt (.tup [V.int (rkE sd e.od.pr), V.int e.si, V.ref e.a]) = H3 at s3 ktt kR3 kl3 hR3 sm3
    refine ⟨⟨_, _, _, rfl⟩, same_updN sm3 fR, upd_oth kl3 n2R, tz ++ [(tt, e)], by rw [upd_same, List.map_append]; rfl, ?_, fun z hz => ?_⟩
    · rw [List.map_append, etz, List.take_add_one, hei]
      rfl
    · rcases List.mem_append.mp hz with hz | hz
      · exact (hR3.upd kR3) z hz
      · rw [List.mem_singleton.mp hz]
        exact upd_tup ktt kR3
  refine Classical.byContradiction fun hnzq => ?_; obtain ⟨⟨v4, v5, v6, rfl⟩, sm, kl, tz, kR, etz, hR⟩ := z
  refine hnzq ?_; clear hnzq
  rw [List.length_map, List.length_map, List.take_length] at etz
  have ltz : tz.length = bk.length := by
    have := congrArg List.length etz
    rw [List.length_map] at this
    lia
  refine ⟨_, rfl, R0, tz.map (toN3 sd), rfl, .inl (.inl (by rw [kR, List.map_map]; rfl)), fun q hq => ?_, rows_nd lb pe etz, by rw [List.length_map]; lia, fun l5 qs hl5 pq pw => ?_⟩
  · refine Classical.byContradiction fun hnzq => ?_; obtain ⟨z, hz, rfl⟩ := List.mem_map.mp hq
    refine hnzq ?_; clear hnzq
    exact hR z hz
  refine Classical.byContradiction fun hnzq => ?_; obtain ⟨zs, pz, rfl⟩ := perm_map_ex (toN3 sd) pq
  refine hnzq ?_; clear hnzq
  have s5 := sm.trans (same_upd (u := .lst ((zs.map (toN3 sd)).map fun q => V.ref q.1)) hl5)
  have hR5 := hR.same (same_upd (u := .lst ((zs.map (toN3 sd)).map fun q => V.ref q.1)) hl5)
  have k5 : upd H' l5 (.lst ((zs.map (toN3 sd)).map fun q => V.ref q.1)) l5 = some (.lst (zs.map fun z => V.ref z.1)) := by rw [upd_same, List.map_map]; rfl
  generalize upd H' l5 (.lst ((zs.map (toN3 sd)).map fun q => V.ref q.1)) = H5 at s5 hR5 k5
  have lzs := pz.length_eq
  refine ⟨_, rfl, _, rfl, l5, rfl, ⟨_, .inl (.inl k5)⟩, ?_⟩
  refine comp_map (fun _ => true) (fun z : AE => V.ref z.2.a) (.inl (.inl k5)) (szOk (by lia)) (fun x H' hx sm R R0 h1 _ => ?_) (fun H6 s6 l6 hl6 => ?_)
  · have hx' := sm _ _ (hR5 x (pz.mem_iff.mp hx))
    exact ⟨rfl, iteT (B := R0 H') ⟨_, rfl, x.1, _, _, _, rfl, rfl, .inl (.inl hx'), rfl, h1 rfl _ (Same.refl _)⟩⟩
  rw [show zs.filter (fun _ => true) = zs from List.filter_eq_self.mpr fun _ _ => rfl]
  have s7 := s5.trans (same_upd' (u := .lst (zs.map fun z : AE => V.ref z.2.a)) s6 hl6)
  have k7 : upd H6 l6 (.lst (zs.map fun z : AE => V.ref z.2.a)) l6 = some (.lst ((zs.map fun z => ((z.2.a, z.2.od) : AO)).map rf)) := by rw [upd_same, List.map_map]; rfl
  generalize upd H6 l6 (.lst (zs.map fun z : AE => V.ref z.2.a)) = H7 at s7 k7
  have hm : ∀ z ∈ zs, z.2 ∈ bk := fun z hz => pe.mem_iff.mp (by rw [← etz]; exact List.mem_map.mpr ⟨z, pz.mem_iff.mp hz, rfl⟩)
  refine ⟨p, l6, ps, zs.map (fun z => ((z.2.a, z.2.od) : AO)), rfl, s7 _ _ hp, k7, hO.same s7, fun x hx => ?_, ?_, by rw [List.length_map]; lia, _, rfl, iteT ?_⟩
  · refine Classical.byContradiction fun hnzq => ?_; obtain ⟨z, hz, rfl⟩ := List.mem_map.mp hx
    refine hnzq ?_; clear hnzq
    exact s7 _ _ (hB z.2 (hm z hz)).2
  · rw [List.map_map]
    exact (rows_are lb pe etz pz pw).symm
  refine ⟨_, rfl, _, rfl, p, ps, sd, rfl, .inl (.inl (s7 _ _ hp)), hO.same s7, by (exact Nat.le_add_left_of_le (by assumption)), fun H8 b s8 hb => ?_⟩
  rw [hb.mpr (gd_of lb.line)]
  exact ⟨true, true, rfl, rfl, q _ (s7.trans s8)⟩
theorem sc__law_serve_in : FnScope ["book", "name", "amount", "now", "one", "since", "seen"] ["book", "name", "amount", "now"] (defScope (top 57)) := ⟨rfl, rfl, rfl, by decide +kernel, rfl, by decide +kernel, by decide +kernel⟩
noncomputable def sp__law_serve_in (K : PySem.W.Frag) : Sp := fun vs H Q _ => ∃ (D : Addr) (bk : List BE) (e : BE) (nm : Str) (am now : Int), vs = [.ref D, .str nm, .int am, .int now] ∧ H D = some (.dK (kvB bk)) ∧ BkH H bk ∧ (bk.map (·.nm)).Nodup ∧ e ∈ bk ∧ e.nm = nm ∧ e.od.n = nm ∧ OkO e.od ∧ 1 ≤ am ∧ am ≤ e.od.sh ∧ bk.length ≤ 1000 ∧ ∀ (H' : Hp) (bk' : List BE), SmD D H H' → H' D = some (.dK (kvB bk')) → BkH H' bk' → (e.od.l = am → bk' = outB bk nm) → (e.od.l ≠ am → ∃ t a, bk' = outB bk nm ++ [⟨nm, t, a, behO e.od am, sinB e.od e.si am now⟩]) → Q .non H'
theorem ok__law_serve_in (d__law_serve_in : Dv K mg "_law_serve_in" (top 57) ["book", "name", "amount", "now"]) (B : Bl mg) (C : Co mg) (R : Er K mg)  : FnOk P w K mg base CX0 1 d__law_serve_in.f d__law_serve_in.fd ["book", "name", "amount", "now"] (sp__law_serve_in K) := by
  refine d__law_serve_in.F.ok sc__law_serve_in (fun vs H Q E h => ?_) (fun cdv A outer s H vs Q E hr h => ?_)
  · refine Classical.byContradiction fun hnzq => ?_; obtain ⟨_, _, _, _, _, _, rfl, _⟩ := h; refine hnzq ?_; clear hnzq; rfl
  refine Classical.byContradiction fun hnzq => ?_; obtain ⟨D, bk, e, nm, am, now, rfl, hD, hB, nd, he, en, eo, hok, a1, a2, hl, q⟩ := h
  refine hnzq ?_; clear hnzq
  refine ⟨_, (pss_cons (ps_set (i := 4) sc__law_serve_in.nd rfl (Or.inl rfl) (pe_ix ix_tup (pe_dget (hu1 hr.units) (pv 0) (pv 1) (fun _ _ => rfl)) pe_int (fun _ _ => rfl))) (pss_cons (ps_set (i := 5) sc__law_serve_in.nd rfl (Or.inl rfl) (pe_ix ix_tup (pe_dget (hu1 hr.units) (pv 0) (pv 1) (fun _ _ => rfl)) pe_int (fun _ _ => rfl))) (pss_cons (ps_expr (pe_dpop1 (pv 0) (pv 1) ⟨rfl, rfl, rfl, rfl⟩)) (pss_one (ps_if (pt_cmpR op_lt (pv 2) (pe_ix ix_tup (pv 4) pe_int (fun _ _ => rfl)) (nomark _)) (pss_cons (ps_set (i := 6) sc__law_serve_in.nd rfl (Or.inl rfl) (pe_op op_sub (pe_ix ix_tup (pv 4) pe_int (fun _ _ => rfl)) (pv 2))) (pss_cut (ps_if (pt_cmpR op_eq (pv 6) pe_int (nomark _)) (pss_cons (ps_set (i := 6) sc__law_serve_in.nd rfl (Or.inl rfl) (pe_callB (call_min2 rfl) rfl B.b_min PyProof.Rows.boot_min (pa_cons (pe_ix ix_tup (pv 4) pe_int (fun _ _ => rfl)) (pa_cons (pe_op op_sub (pe_ix ix_tup (pv 4) pe_int (fun _ _ => rfl)) (pv 2)) pa_nil)))) (pss_one (ps_set (i := 5) sc__law_serve_in.nd rfl (Or.inl rfl) (pv 3)))) pss_nil) (pss_one (ps_dput (hu1 hr.units) (pv 0) (pv 1) (pe_tup (pa_cons (pe_op op_catT (pe_slice sl_tup (pv 4) po_none (po_some pe_int)) (pe_tup (pa_cons (pe_op op_sub (pe_ix ix_tup (pv 4) pe_int (fun _ _ => rfl)) (pv 2)) (pa_cons (pv 6) (pa_cons (pe_ix ix_tup (pv 4) pe_int (fun _ _ => rfl)) pa_nil))))) (pa_cons (pv 5) pa_nil))) rfl)))) pss_nil))))), ?_⟩
  refine Classical.byContradiction fun hnzq => ?_; obtain ⟨h1, h2⟩ := hB e he
  refine hnzq ?_; clear hnzq
  refine Classical.byContradiction fun hnzq => ?_; obtain ⟨k1, k2, k3, k4⟩ := hok
  refine hnzq ?_; clear hnzq
  refine ⟨_, rfl, _, rfl, D, V.ref e.t, rfl, .inl ⟨kvB bk, Sum.inr nm, .inl hD, rfl, (kvB_val nd he en).symm⟩, e.t, _, _, _, rfl, rfl, .inl (.inl h1), rfl, ?_⟩
  refine ⟨_, rfl, _, rfl, D, V.ref e.t, rfl, .inl ⟨kvB bk, Sum.inr nm, .inl hD, rfl, (kvB_val nd he en).symm⟩, e.t, _, _, _, rfl, rfl, .inl (.inl h1), rfl, ?_⟩
  refine ⟨_, rfl, D, rfl, .inl ⟨_, .inl hD⟩, _, rfl, kvB bk, Sum.inr nm, V.ref e.t, hD, rfl, kvB_val nd he en, ?_⟩
  rw [kvB_drop]
  have sD : SmD D H (upd H D (.dK (kvB (outB bk nm)))) := SmD.put
  have hD1 : upd H D (.dK (kvB (outB bk nm))) D = some (.dK (kvB (outB bk nm))) := upd_same
  have hB1 := bkD hD sD hB
  have h2 := tupD hD sD h2
  generalize upd H D (.dK (kvB (outB bk nm))) = H1 at sD hD1 hB1 h2
  have hBo : BkH H1 (outB bk nm) := fun y hy => hB1 y (outB_mem hy)
  refine ⟨_, rfl, _, rfl, e.a, _, _, _, rfl, rfl, .inl (.inl h2), rfl, _, _, rfl, rfl, _, rfl, ?_⟩
  refine ite2 (fun c => ?_) (fun c => ?_)
  · have c1 : am < e.od.l := of_decide_eq_true c
    refine ⟨_, rfl, e.a, _, _, _, rfl, rfl, .inl (.inl h2), rfl, _, rfl, _, _, rfl, rfl, ?_⟩
    refine ⟨fun σ' H' => σ' = [some (.ref D), some (.str nm), some (.int am), some (.int now), some (.ref e.a), some (.int (sinB e.od e.si am now)), some (.int (behO e.od am).sh)] ∧ H1 = H', ?_, ?_⟩
    · refine ⟨_, rfl, rfl, _, rfl, ?_⟩
      refine ite2 (fun c2 => ?_) (fun c2 => ?_)
      · have c3 : e.od.sh = am := by
          have : e.od.sh - am = 0 := by simpa using c2
          lia
        have pk0 : ¬ e.od.pk = 0 := fun z => by have := k4 z; lia
        refine ⟨_, rfl, e.a, _, _, _, rfl, rfl, .inl (.inl h2), rfl, _, rfl, e.a, _, _, _, rfl, rfl, .inl (.inl h2), rfl, _, rfl, _, _, rfl, rfl, _, _, rfl, _, rfl, ?_, rfl⟩
        have e1 : sinB e.od e.si am now = now := if_pos ⟨c3, c1⟩
        have e2 : (behO e.od am).sh = if e.od.l - am < e.od.pk then e.od.l - am else e.od.pk := by
          show (if e.od.sh = am ∧ am < e.od.l then shw (e.od.l - am) e.od.pk else e.od.sh - am) = _
          rw [if_pos ⟨c3, c1⟩]
          unfold shw
          rw [if_neg pk0]
        rw [e1, e2]
        rfl
      · have c3 : ¬ e.od.sh = am := fun z => c2 (by simp [z])
        have e1 : sinB e.od e.si am now = e.si := if_neg fun z => c3 z.1
        have e2 : (behO e.od am).sh = e.od.sh - am := if_neg fun z => c3 z.1
        refine ⟨?_, rfl⟩
        rw [e1, e2]
        rfl
    rintro _ _ zz
    refine Classical.byContradiction fun hnzq => ?_; obtain ⟨rfl, rfl⟩ := zz
    refine hnzq ?_; clear hnzq
    refine ⟨_, rfl, _, rfl, e.a, _, rfl, .inl (.inl h2), od_cut _, fun p4 hp4 => ?_⟩
    refine ⟨_, rfl, e.a, _, _, _, rfl, rfl, .inl (.inl (at_upd h2 hp4)), rfl, _, rfl, _, _, rfl, rfl, _, rfl, _, rfl, e.a, _, _, _, rfl, rfl, .inl (.inl (at_upd h2 hp4)), rfl, by (first | exact szOk (Nat.le_of_ble_eq_true rfl) | exact szLt (Nat.le_of_ble_eq_true rfl) | omega), fun t2 ht2 => ?_⟩
    refine ⟨p4, t2, _, _, rfl, rfl, .inl (.inl (at_upd upd_same ht2)), .inl (.inl upd_same), (by intro z; cases z), by (first | exact szOk (Nat.le_of_ble_eq_true rfl) | exact szLt (Nat.le_of_ble_eq_true rfl) | omega), (by intro z; cases z), fun _ t5 ht5 => ?_⟩
    refine ⟨_, rfl, by (first | exact szOk (Nat.le_of_ble_eq_true rfl) | exact szLt (Nat.le_of_ble_eq_true rfl) | omega), fun t6 ht6 => ?_⟩
    have s5 := same_upd' (u := .tup (cutV (odV e.od) none (some 4) ++ [V.int (e.od.l - am), V.int (behO e.od am).sh, V.int e.od.pk])) (same_upd' (same_upd hp4) ht2) ht5
    have k5 := upd_same (H := upd (upd H1 p4 (.tup (cutV (odV e.od) none (some 4)))) t2 (.tup [V.int (e.od.l - am), V.int (behO e.od am).sh, V.int e.od.pk])) (a := t5) (o := .tup (cutV (odV e.od) none (some 4) ++ [V.int (e.od.l - am), V.int (behO e.od am).sh, V.int e.od.pk]))
    have s6 := same_upd' (u := .tup [V.ref t5, V.int (sinB e.od e.si am now)]) s5 ht6
    have k5 := at_upd (u := .tup [V.ref t5, V.int (sinB e.od e.si am now)]) k5 ht6
    refine ⟨_, rfl, _, rfl, D, _, rfl, .inl ⟨kvB (outB bk nm), Sum.inr nm, s6 _ _ hD1, rfl, szLt (by unfold kvB outB; rw [List.length_map]; have := List.length_filter_le (fun e : BE => decide (e.nm ≠ nm)) bk; omega), rfl⟩, ?_⟩
    have kn : putK (kvB (outB bk nm)) (Sum.inr nm) (V.ref t6) = kvB (outB bk nm ++ [⟨nm, t6, t5, behO e.od am, sinB e.od e.si am now⟩]) := kvB_new (e := ⟨nm, t6, t5, behO e.od am, sinB e.od e.si am now⟩) (outB_no bk nm)
    rw [kn]
    have hD6 := s6 _ _ hD1
    have hB6 := hBo.same s6
    have k6 := upd_same (H := upd (upd (upd H1 p4 (.tup (cutV (odV e.od) none (some 4)))) t2 (.tup [V.int (e.od.l - am), V.int (behO e.od am).sh, V.int e.od.pk])) t5 (.tup (cutV (odV e.od) none (some 4) ++ [V.int (e.od.l - am), V.int (behO e.od am).sh, V.int e.od.pk]))) (a := t6) (o := .tup [V.ref t5, V.int (sinB e.od e.si am now)])
    refine q _ _ (sD.trans ((SmD.of s6).trans SmD.put)) upd_same (fun y hy => ?_) (fun z => by lia) fun _ => ⟨t6, t5, rfl⟩
    rcases List.mem_append.mp hy with hy | hy
    · exact bkD hD6 SmD.put hB6 y hy
    · rw [List.mem_singleton.mp hy]
      refine ⟨tupD hD6 SmD.put k6, tupD hD6 SmD.put ?_⟩
      rw [k5]
      rfl
  · have c1 : e.od.l = am := by
      have : ¬ am < e.od.l := fun z => c (decide_eq_true z)
      lia
    exact q _ _ sD hD1 hBo (fun _ => rfl) fun z => absurd c1 z
theorem sc__law_deed_in : FnScope ["way", "book", "order", "name", "number", "now", "one"] ["way", "book", "order", "name", "number", "now"] (defScope (top 58)) := ⟨rfl, rfl, rfl, by decide +kernel, rfl, by decide +kernel, by decide +kernel⟩
noncomputable def sp__law_deed_in (K : PySem.W.Frag) : Sp := fun vs H Q _ => ∃ (way : Int) (D : Addr) (bk : List BE) (t : Addr) (o : Od) (nm : Str) (num now : Int), vs = [.int way, .ref D, .ref t, .str nm, .int num, .int now] ∧ H D = some (.dK (kvB bk)) ∧ BkH H bk ∧ (bk.map (·.nm)).Nodup ∧ H t = some (.tup (odV o)) ∧ bk.length ≤ 900 ∧ (way < 4 → o.n ∉ bk.map (·.nm) ∧ ∀ (H' : Hp) (t2 : Addr), SmD D H H' → H' D = some (.dK (kvB (bk ++ [⟨o.n, t2, t, o, now⟩]))) → BkH H' (bk ++ [⟨o.n, t2, t, o, now⟩]) → Q (.int o.l) H') ∧ (¬ way < 4 → ∃ e ∈ bk, e.nm = nm ∧ e.od.n = nm ∧ (way < 6 → OkO e.od ∧ 1 ≤ num ∧ num ≤ e.od.sh ∧ ∀ (H' : Hp) (bk' : List BE), SmD D H H' → H' D = some (.dK (kvB bk')) → BkH H' bk' → (e.od.l = num → bk' = outB bk nm) → (e.od.l ≠ num → ∃ t a, bk' = outB bk nm ++ [⟨nm, t, a, behO e.od num, sinB e.od e.si num now⟩]) → Q (.int (-num)) H') ∧ (way = 6 → ∀ H' : Hp, SmD D H H' → H' D = some (.dK (kvB (outB bk nm))) → BkH H' (outB bk nm) → Q (.int (-e.od.l)) H') ∧ (¬ way < 6 → ¬ way = 6 → ∀ (H' : Hp) (t a : Addr), SmD D H H' → H' D = some (.dK (kvB (putB bk ⟨nm, t, a, lessO e.od num, e.si⟩))) → BkH H' (putB bk ⟨nm, t, a, lessO e.od num, e.si⟩) → Q (.int (num - e.od.l)) H'))
theorem ok__law_deed_in (d__law_deed_in : Dv K mg "_law_deed_in" (top 58) ["way", "book", "order", "name", "number", "now"]) (B : Bl mg) (C : Co mg) (R : Er K mg) (d__law_serve_in : Dv K mg "_law_serve_in" (top 57) ["book", "name", "amount", "now"]) (G__law_serve_in : FnOk P w K mg base CX0 1 d__law_serve_in.f d__law_serve_in.fd ["book", "name", "amount", "now"] (sp__law_serve_in K)) : FnOk P w K mg base CX0 2 d__law_deed_in.f d__law_deed_in.fd ["way", "book", "order", "name", "number", "now"] (sp__law_deed_in K) := by
  refine d__law_deed_in.F.ok sc__law_deed_in (fun vs H Q E h => ?_) (fun cdv A outer s H vs Q E hr h => ?_)
  · refine Classical.byContradiction fun hnzq => ?_; obtain ⟨_, _, _, _, _, _, _, _, rfl, _⟩ := h; refine hnzq ?_; clear hnzq; rfl
  refine Classical.byContradiction fun hnzq => ?_; obtain ⟨way, D, bk, t, o, nm, num, now, rfl, hD, hB, nd, ht, hl, qj, qs⟩ := h
  refine hnzq ?_; clear hnzq
  refine ⟨_, (pss_cons (ps_if (pt_cmpR op_lt (pv 0) pe_int (nomark _)) (pss_cons (ps_dput (hu1 hr.units) (pv 1) (pe_ix ix_tup (pv 2) pe_int (fun _ _ => rfl)) (pe_tup (pa_cons (pv 2) (pa_cons (pv 5) pa_nil))) rfl) (pss_one (ps_ret (pe_ix ix_tup (pv 2) pe_int (fun _ _ => rfl))))) pss_nil) (pss_cons (ps_set (i := 6) sc__law_deed_in.nd rfl (Or.inl rfl) (pe_ix ix_tup (pe_dget (hu1 hr.units) (pv 1) (pv 3) (fun _ _ => rfl)) pe_int (fun _ _ => rfl))) (pss_cons (ps_if (pt_cmpR op_lt (pv 0) pe_int (nomark _)) (pss_cons (ps_expr (pe_call G__law_serve_in (hr.mono (by decide)) rfl d__law_serve_in.m d__law_serve_in.F.kp d__law_serve_in.b .nil pass0 (pa_cons (pv 1) (pa_cons (pv 3) (pa_cons (pv 4) (pa_cons (pv 5) pa_nil)))))) (pss_one (ps_ret (pe_un un_neg (pv 4))))) pss_nil) (pss_cons (ps_if (pt_cmpR op_eq (pv 0) pe_int (nomark _)) (pss_cons (ps_expr (pe_dpop1 (pv 1) (pv 3) ⟨rfl, rfl, rfl, rfl⟩)) (pss_one (ps_ret (pe_un un_neg (pe_ix ix_tup (pv 6) pe_int (fun _ _ => rfl)))))) pss_nil) (pss_cons (ps_dput (hu1 hr.units) (pv 1) (pv 3) (pe_tup (pa_cons (pe_op op_catT (pe_slice sl_tup (pv 6) po_none (po_some pe_int)) (pe_tup (pa_cons (pv 4) (pa_cons (pe_callB (call_min2 rfl) rfl B.b_min PyProof.Rows.boot_min (pa_cons (pe_ix ix_tup (pv 6) pe_int (fun _ _ => rfl)) (pa_cons (pv 4) pa_nil))) (pa_cons (pe_ix ix_tup (pv 6) pe_int (fun _ _ => rfl)) pa_nil))))) (pa_cons (pe_ix ix_tup (pe_dget (hu1 hr.units) (pv 1) (pv 3) (fun _ _ => rfl)) pe_int (fun _ _ => rfl)) pa_nil))) rfl) (pss_one (ps_ret (pe_op op_sub (pv 4) (pe_ix ix_tup (pv 6) pe_int (fun _ _ => rfl)))))))))), ?_⟩
  refine ⟨_, rfl, _, _, rfl, rfl, _, rfl, ?_⟩
  refine ite2 (fun c => ?_) (fun c => ?_)
  · refine Classical.byContradiction fun hnzq => ?_; obtain ⟨hn, qj⟩ := qj (of_decide_eq_true c)
    refine hnzq ?_; clear hnzq
    refine ⟨_, rfl, _, rfl, by (first | exact szOk (Nat.le_of_ble_eq_true rfl) | exact szLt (Nat.le_of_ble_eq_true rfl) | omega), fun t2 ht2 => ?_⟩
    have s1 := same_upd (u := .tup [V.ref t, V.int now]) ht2
    have k1 : upd H t2 (.tup [V.ref t, V.int now]) t2 = some (.tup [V.ref t, V.int now]) := upd_same
    have hD1 := s1 _ _ hD
    have hB1 := hB.same s1
    have ht1 := s1 _ _ ht
    generalize upd H t2 (.tup [V.ref t, V.int now]) = H1 at s1 k1 hD1 hB1 ht1
    refine ⟨_, rfl, _, rfl, t, _, _, _, rfl, rfl, .inl (.inl ht1), rfl, D, _, rfl, .inl ⟨kvB bk, Sum.inr o.n, hD1, rfl, szLt (by unfold kvB; rw [List.length_map]; lia), rfl⟩, ?_⟩
    rw [show putK (kvB bk) (Sum.inr o.n) (V.ref t2) = kvB (bk ++ [⟨o.n, t2, t, o, now⟩]) from kvB_new (e := ⟨o.n, t2, t, o, now⟩) hn]
    have ht2' : upd H1 D (.dK (kvB (bk ++ [⟨o.n, t2, t, o, now⟩]))) t = some (.tup (odV o)) := tupD hD1 SmD.put ht1
    refine ⟨_, rfl, t, _, _, _, rfl, rfl, .inl (.inl ht2'), rfl, qj _ t2 ((SmD.of s1).trans SmD.put) upd_same fun y hy => ?_⟩
    rcases List.mem_append.mp hy with hy | hy
    · exact bkD hD1 SmD.put hB1 y hy
    · rw [List.mem_singleton.mp hy]
      exact ⟨tupD hD1 SmD.put k1, tupD hD1 SmD.put ht1⟩
  refine Classical.byContradiction fun hnzq => ?_; obtain ⟨e, he, en, eo, q1, q2, q3⟩ := qs fun z => c (decide_eq_true z)
  refine hnzq ?_; clear hnzq
  refine Classical.byContradiction fun hnzq => ?_; obtain ⟨h1, h2⟩ := hB e he
  refine hnzq ?_; clear hnzq
  refine ⟨_, rfl, _, rfl, D, V.ref e.t, rfl, .inl ⟨kvB bk, Sum.inr nm, .inl hD, rfl, (kvB_val nd he en).symm⟩, e.t, _, _, _, rfl, rfl, .inl (.inl h1), rfl, ?_⟩
  refine ⟨_, rfl, _, _, rfl, rfl, _, rfl, ?_⟩
  refine ite2 (fun c2 => ?_) (fun c2 => ?_)
  · refine Classical.byContradiction fun hnzq => ?_; obtain ⟨hok, n1, n2, q1⟩ := q1 (of_decide_eq_true c2)
    refine hnzq ?_; clear hnzq
    refine ⟨_, rfl, _, rfl, _, rfl, _, rfl, D, bk, e, nm, num, now, rfl, hD, hB, nd, he, en, eo, hok, n1, n2, by (exact Nat.le_add_left_of_le (by assumption)), fun H' bk' a b c d f => ?_⟩
    exact ⟨_, rfl, _, rfl, q1 H' bk' a b c d f⟩
  refine ⟨_, rfl, rfl, _, rfl, ?_⟩
  refine ite2 (fun c3 => ?_) (fun c3 => ?_)
  · have w6 : way = 6 := by simpa using c3
    refine ⟨_, rfl, D, rfl, .inl ⟨_, .inl hD⟩, _, rfl, kvB bk, Sum.inr nm, V.ref e.t, hD, rfl, kvB_val nd he en, ?_⟩
    rw [kvB_drop]
    have h2' : upd H D (.dK (kvB (outB bk nm))) e.a = some (.tup (odV e.od)) := tupD hD SmD.put h2
    exact ⟨_, rfl, e.a, _, _, _, rfl, rfl, .inl (.inl h2'), rfl, _, rfl, q2 w6 _ SmD.put upd_same fun y hy => bkD hD SmD.put hB y (outB_mem hy)⟩
  have w6 : ¬ way = 6 := by simpa using c3
  refine ⟨_, rfl, _, rfl, e.a, _, rfl, .inl (.inl h2), od_cut _, fun p4 hp4 => ?_⟩
  refine ⟨_, rfl, _, rfl, e.a, _, _, _, rfl, rfl, .inl (.inl (at_upd h2 hp4)), rfl, _, rfl, _, _, rfl, _, rfl, e.a, _, _, _, rfl, rfl, .inl (.inl (at_upd h2 hp4)), rfl, by (first | exact szOk (Nat.le_of_ble_eq_true rfl) | exact szLt (Nat.le_of_ble_eq_true rfl) | omega), fun t2 ht2 => ?_⟩
  refine ⟨p4, t2, _, _, rfl, rfl, .inl (.inl (at_upd upd_same ht2)), .inl (.inl upd_same), (by intro z; cases z), by (first | exact szOk (Nat.le_of_ble_eq_true rfl) | exact szLt (Nat.le_of_ble_eq_true rfl) | omega), (by intro z; cases z), fun _ t5 ht5 => ?_⟩
  have s5 := same_upd' (u := .tup (cutV (odV e.od) none (some 4) ++ [V.int num, V.int (if num < e.od.sh then num else e.od.sh), V.int e.od.pk])) (same_upd' (same_upd hp4) ht2) ht5
  have k5 : upd (upd (upd H p4 (.tup (cutV (odV e.od) none (some 4)))) t2 (.tup [V.int num, V.int (if num < e.od.sh then num else e.od.sh), V.int e.od.pk])) t5 (.tup (cutV (odV e.od) none (some 4) ++ [V.int num, V.int (if num < e.od.sh then num else e.od.sh), V.int e.od.pk])) t5 = some (.tup (odV (lessO e.od num))) := by rw [upd_same]; rfl
  have hD5 := s5 _ _ hD
  have hB5 := hB.same s5
  have h15 := s5 _ _ h1
  have h25 := s5 _ _ h2
  generalize upd (upd (upd H p4 (.tup (cutV (odV e.od) none (some 4)))) t2 (.tup [V.int num, V.int (if num < e.od.sh then num else e.od.sh), V.int e.od.pk])) t5 (.tup (cutV (odV e.od) none (some 4) ++ [V.int num, V.int (if num < e.od.sh then num else e.od.sh), V.int e.od.pk])) = H5 at s5 k5 hD5 hB5 h15 h25
  refine ⟨_, rfl, _, rfl, D, V.ref e.t, rfl, .inl ⟨kvB bk, Sum.inr nm, .inl hD5, rfl, (kvB_val nd he en).symm⟩, e.t, _, _, _, rfl, rfl, .inl (.inl h15), rfl, by (first | exact szOk (Nat.le_of_ble_eq_true rfl) | exact szLt (Nat.le_of_ble_eq_true rfl) | omega), fun t6 ht6 => ?_⟩
  have s6 := same_upd (u := .tup [V.ref t5, V.int e.si]) ht6
  have k6 : upd H5 t6 (.tup [V.ref t5, V.int e.si]) t6 = some (.tup [V.ref t5, V.int e.si]) := upd_same
  have k5 := s6 _ _ k5
  have hD6 := s6 _ _ hD5
  have hB6 := hB5.same s6
  have h26 := s6 _ _ h25
  generalize upd H5 t6 (.tup [V.ref t5, V.int e.si]) = H6 at s6 k6 k5 hD6 hB6 h26
  refine ⟨_, rfl, _, rfl, D, _, rfl, .inl ⟨kvB bk, Sum.inr nm, hD6, rfl, szLt (by unfold kvB; rw [List.length_map]; omega), rfl⟩, ?_⟩
  rw [show putK (kvB bk) (Sum.inr nm) (V.ref t6) = kvB (putB bk ⟨nm, t6, t5, lessO e.od num, e.si⟩) from kvB_put (e := ⟨nm, t6, t5, lessO e.od num, e.si⟩) (List.mem_map.mpr ⟨e, he, en⟩)]
  have h27 : upd H6 D (.dK (kvB (putB bk ⟨nm, t6, t5, lessO e.od num, e.si⟩))) e.a = some (.tup (odV e.od)) := tupD hD6 SmD.put h26
  refine ⟨_, rfl, _, rfl, e.a, _, _, _, rfl, rfl, .inl (.inl h27), rfl, _, _, rfl, rfl, q3 (fun z => c2 (decide_eq_true z)) w6 _ t6 t5 ((SmD.of (s5.trans s6)).trans SmD.put) upd_same fun y hy => ?_⟩
  rcases putB_mem hy with rfl | hy
  · exact ⟨tupD hD6 SmD.put k6, tupD hD6 SmD.put k5⟩
  · exact bkD hD6 SmD.put hB6 y hy
theorem sc__law_number_by : FnScope ["way", "line", "book", "name", "more"] ["way", "line", "book", "name", "more"] (defScope (top 59)) := ⟨rfl, rfl, rfl, by decide +kernel, rfl, by decide +kernel, by decide +kernel⟩
noncomputable def sp__law_number_by (K : PySem.W.Frag) : Sp := fun vs H Q _ => ∃ (way : Int) (p : Addr) (ps : List AO) (D : Addr) (bk : List BE) (nm : Str) (more : Int), vs = [.int way, .ref p, .ref D, .str nm, .int more] ∧ H p = some (.lst (ps.map rf)) ∧ Ords H ps ∧ H D = some (.dK (kvB bk)) ∧ BkH H bk ∧ (bk.map (·.nm)).Nodup ∧ (∀ x ∈ ps, OkO x.2) ∧ (∀ e ∈ bk, OkO e.od) ∧ ∀ (H' : Hp) (num : Int), Same H H' → (way < 6 → ∀ x r, ps = x :: r → 1 ≤ num ∧ num ≤ x.2.sh) → (way = 7 → ∀ e ∈ bk, e.nm = nm → 1 ≤ num ∧ num ≤ e.od.l) → Q (.int num) H'
theorem ok__law_number_by (d__law_number_by : Dv K mg "_law_number_by" (top 59) ["way", "line", "book", "name", "more"]) (B : Bl mg) (C : Co mg) (R : Er K mg)  : FnOk P w K mg base CX0 1 d__law_number_by.f d__law_number_by.fd ["way", "line", "book", "name", "more"] (sp__law_number_by K) := by
  refine d__law_number_by.F.ok sc__law_number_by (fun vs H Q E h => ?_) (fun cdv A outer s H vs Q E hr h => ?_)
  · refine Classical.byContradiction fun hnzq => ?_; obtain ⟨_, _, _, _, _, _, _, rfl, _⟩ := h; refine hnzq ?_; clear hnzq; rfl
  refine Classical.byContradiction fun hnzq => ?_; obtain ⟨way, p, ps, D, bk, nm, more, rfl, hp, hO, hD, hB, nd, ok1, ok2, q⟩ := h
  refine hnzq ?_; clear hnzq
  refine ⟨_, (pss_cut (ps_if (PW.pt (pw_and (pt_cmpR op_lt (pv 0) pe_int (nomark _)) (pw_and1 (pt_cmpR (op_neD hr.units) (pv 1) (pe_lst pa_nil) (nomark _))))) (pss_one (ps_ret (pe_ix ix_list (pe_lst (pa_cons (pe_ix ix_tup (pe_ix ix_list (pv 1) pe_int (fun _ _ => rfl)) pe_int (fun _ _ => rfl)) (pa_cons (pe_op op_add pe_int (pe_op op_mod (pv 4) (pe_ix ix_tup (pe_ix ix_list (pv 1) pe_int (fun _ _ => rfl)) pe_int (fun _ _ => rfl)))) pa_nil))) (pe_op op_mod (pv 0) pe_int) (fun _ _ => rfl)))) pss_nil) (pss_cons (ps_if (PW.pt (pw_and (pt_cmpR op_eq (pv 0) pe_int (nomark _)) (pw_and1 (pt_cmp (pc_din (hu1 hr.units) (pv 3) (pv 2)))))) (pss_one (ps_ret (pe_op op_add pe_int (pe_op op_mod (pv 4) (pe_ix ix_tup (pe_ix ix_tup (pe_dget (hu1 hr.units) (pv 2) (pv 3) (fun _ _ => rfl)) pe_int (fun _ _ => rfl)) pe_int (fun _ _ => rfl)))))) pss_nil) (pss_one (ps_ret pe_int)))), ?_⟩
  refine ⟨fun σ' H' => σ' = [some (.int way), some (.ref p), some (.ref D), some (.str nm), some (.int more)] ∧ Same H H' ∧ (way < 6 → ps = []), ?_, ?_⟩
  · refine ⟨_, rfl, _, _, rfl, rfl, _, rfl, ?_⟩
    refine ite2 (fun c => ?_) (fun c => iteF ⟨rfl, Same.refl _, fun z => absurd (decide_eq_true z) c⟩)
    refine ⟨_, rfl, by (first | exact szOk (Nat.le_of_ble_eq_true rfl) | exact szLt (Nat.le_of_ble_eq_true rfl) | omega), fun l1 hl1 => eqs_nil true (at_upd hp hl1) upd_same ⟨_, rfl, ?_⟩⟩
    have s1 := same_upd (u := .lst []) hl1
    cases ps with
    | nil => exact iteF ⟨rfl, s1, fun _ => rfl⟩
    | cons x r =>
      have hp1 := s1 _ _ hp
      have hx1 := s1 _ _ (hO x List.mem_cons_self)
      refine Classical.byContradiction fun hnzq => ?_; obtain ⟨o1, o2, o3, o4⟩ := ok1 x List.mem_cons_self
      refine hnzq ?_; clear hnzq
      generalize upd H l1 (.lst []) = H1 at s1 hp1 hx1
      refine iteT ⟨_, rfl, p, _, _, _, rfl, rfl, .inl (.inl hp1), at_zero x r, x.1, _, _, _, rfl, rfl, .inl (.inl hx1), rfl, _, rfl, _, rfl, p, _, _, _, rfl, rfl, .inl (.inl hp1), at_zero x r, x.1, _, _, _, rfl, rfl, .inl (.inl hx1), rfl, _, _, rfl, rfl, (by show (0 : Int) < _; lia), _, _, rfl, rfl, by (first | exact szOk (Nat.le_of_ble_eq_true rfl) | exact szLt (Nat.le_of_ble_eq_true rfl) | omega), fun lw hlw => ?_⟩
      have m0 := Int.emod_nonneg more (show x.2.sh ≠ 0 by (exact Int.ne_of_gt (by assumption)))
      have m1 := Int.emod_lt_of_pos more (show 0 < x.2.sh by (clear B hr hD hB nd ok2 c hl1 hp hO ok1 q o2 o3 o4 s1 hp1 hx1 hlw m0; omega))
      refine Classical.byContradiction fun hnzq => ?_; obtain ⟨num, atn, n1, n2⟩ : ∃ num, atI [V.int x.2.sh, V.int (1 + more % x.2.sh)] (way % 2) = some (V.int num) ∧ 1 ≤ num ∧ num ≤ x.2.sh := by
        have : way % 2 = 0 ∨ way % 2 = 1 := by lia
        rcases this with e | e
        · exact ⟨x.2.sh, by rw [e]; rfl, o1, Int.le_refl _⟩
        · exact ⟨1 + more % x.2.sh, by rw [e]; rfl, by lia, by lia⟩
      refine hnzq ?_; clear hnzq
      refine ⟨_, rfl, _, _, rfl, rfl, (by (first | (show (0 : Int) < _; decide) | exact ⟨by decide, by decide⟩ | exact ⟨by decide, by decide, by decide⟩ | exact .inl ⟨by decide, by decide⟩ | exact .inr ⟨by decide, by decide⟩ | omega)), lw, _, _, _, rfl, rfl, .inl (.inl upd_same), atn, ?_⟩
      exact q _ num (s1.trans (same_upd hlw)) (fun _ y r' e => by cases e; exact ⟨n1, n2⟩) fun z => absurd (of_decide_eq_true c) (by lia)
  rintro _ H1 zz
  refine Classical.byContradiction fun hnzq => ?_; obtain ⟨rfl, s1, hnil⟩ := zz
  refine hnzq ?_; clear hnzq
  refine ⟨_, rfl, rfl, _, rfl, ?_⟩
  refine ite2 (fun c => ?_) (fun c => ?_)
  · have w7 : way = 7 := by simpa using c
    by_cases hm : nm ∈ bk.map (·.nm)
    · refine Classical.byContradiction fun hnzq => ?_; obtain ⟨e, he, en⟩ := List.mem_map.mp hm
      refine hnzq ?_; clear hnzq
      have en : e.nm = nm := en
      refine Classical.byContradiction fun hnzq => ?_; obtain ⟨h1, h2⟩ := hB e he
      refine hnzq ?_; clear hnzq
      refine Classical.byContradiction fun hnzq => ?_; obtain ⟨o1, o2, o3, o4⟩ := ok2 e he
      refine hnzq ?_; clear hnzq
      refine ⟨_, rfl, _, rfl, D, some (V.ref e.t), rfl, .inl ⟨kvB bk, Sum.inr nm, .inl (s1 _ _ hD), rfl, (kvB_val nd he en).symm⟩, _, rfl, iteT ?_⟩
      refine ⟨_, rfl, _, rfl, _, rfl, D, V.ref e.t, rfl, .inl ⟨kvB bk, Sum.inr nm, .inl (s1 _ _ hD), rfl, (kvB_val nd he en).symm⟩, e.t, _, _, _, rfl, rfl, .inl (.inl (s1 _ _ h1)), rfl, e.a, _, _, _, rfl, rfl, .inl (.inl (s1 _ _ h2)), rfl, _, _, rfl, rfl, (by show (0 : Int) < _; (exact Int.lt_of_lt_of_le (by assumption) (by assumption))), _, _, rfl, rfl, ?_⟩
      have m0 := Int.emod_nonneg more (show e.od.l ≠ 0 by lia)
      have m1 := Int.emod_lt_of_pos more (show 0 < e.od.l by (exact Int.lt_of_lt_of_le (by assumption) (by assumption)))
      refine q _ _ s1 (fun z => by lia) fun _ y hy ey => ?_
      have : y = e := by
        refine Classical.byContradiction fun hnzq => ?_; obtain ⟨i, hi, rfl⟩ := List.mem_iff_getElem.mp hy
        refine hnzq ?_; clear hnzq
        refine Classical.byContradiction fun hnzq => ?_; obtain ⟨k, hk, rfl⟩ := List.mem_iff_getElem.mp he
        refine hnzq ?_; clear hnzq
        have pw := List.pairwise_iff_getElem.mp nd
        rcases Nat.lt_trichotomy i k with d | d | d
        · exact absurd (by rw [List.getElem_map, List.getElem_map, ey, en]) (pw i k (by rw [List.length_map]; exact hi) (by rw [List.length_map]; exact hk) d)
        · subst d; rfl
        · exact absurd (by rw [List.getElem_map, List.getElem_map, ey, en]) (pw k i (by rw [List.length_map]; exact hk) (by rw [List.length_map]; exact hi) d)
      rw [this]
      exact ⟨by lia, by lia⟩
    · refine ⟨_, rfl, _, rfl, D, none, rfl, .inl ⟨kvB bk, Sum.inr nm, .inl (s1 _ _ hD), rfl, (kvB_no hm).symm⟩, _, rfl, iteF ?_⟩
      exact q _ 1 s1 (fun z => by lia) fun _ y hy ey => absurd (List.mem_map.mpr ⟨y, hy, ey⟩) hm
  · have w7 : ¬ way = 7 := by simpa using c
    refine iteF (q _ 1 s1 (fun z x r e => ?_) fun z => absurd z w7)
    rw [hnil z] at e
    cases e
theorem sc__law_tried : FnScope ["way", "line", "order", "name", "number", "refusal", "found", "e"] ["way", "line", "order", "name", "number"] (defScope (top 55)) := ⟨rfl, rfl, rfl, by decide +kernel, rfl, by decide +kernel, by decide +kernel⟩
noncomputable def sp__law_tried (K : PySem.W.Frag) : Sp := fun vs H Q _ => ∃ (way : Int) (p : Addr) (ps : List AO) (t : Addr) (o : Od) (nm : Str) (num : Int), vs = [.int way, .ref p, .ref t, .str nm, .int num] ∧ H p = some (.lst (ps.map rf)) ∧ Ords H ps ∧ H t = some (.tup (odV o)) ∧ (ps.map fun x => x.2.n).Nodup ∧ ps.length ≤ 900 ∧ (way < 4 → (o.n ∈ ps.map (fun x => x.2.n) → (∀ (H' : Hp) (tt r : Addr), Same H H' → H' tt = some (.tup [.ref r, .non]) → H' r = some (.lst [.bl true, .bl false]) → Q (.ref tt) H')) ∧ (o.n ∉ ps.map (fun x => x.2.n) → ∀ (H' : Hp) (tt r l : Addr), Same H H' → H' tt = some (.tup [.ref r, .ref l]) → H' r = some (.lst []) → H l = none → H' l = some (.lst ((ins (t, o) ps).map rf)) → Q (.ref tt) H')) ∧ (¬ way < 4 → way < 6 → (ps = [] → (∀ (H' : Hp) (tt r : Addr), Same H H' → H' tt = some (.tup [.ref r, .non]) → H' r = some (.lst [.bl false, .bl true]) → Q (.ref tt) H')) ∧ ∀ x rr, ps = x :: rr → 1 ≤ num ∧ num ≤ x.2.sh ∧ ∀ (H' : Hp) (tt r l : Addr) (qs : List AO), Same H H' → H' tt = some (.tup [.ref r, .ref l]) → H' r = some (.lst []) → H l = none → H' l = some (.lst (qs.map rf)) → Ords H' qs → qs.map (·.2) = servedO (ps.map (·.2)) num → Q (.ref tt) H') ∧ (way = 6 → (nIdx nm ps = ps.length → (∀ (H' : Hp) (tt r : Addr), Same H H' → H' tt = some (.tup [.ref r, .non]) → H' r = some (.lst [.bl false, .bl true]) → Q (.ref tt) H')) ∧ (nIdx nm ps < ps.length → ∀ (H' : Hp) (tt r l : Addr), Same H H' → H' tt = some (.tup [.ref r, .ref l]) → H' r = some (.lst []) → H l = none → H' l = some (.lst ((outL ps (nIdx nm ps)).map rf)) → Q (.ref tt) H')) ∧ (¬ way < 6 → ¬ way = 6 → (nIdx nm ps = ps.length → (∀ (H' : Hp) (tt r : Addr), Same H H' → H' tt = some (.tup [.ref r, .non]) → H' r = some (.lst [.bl false, .bl true]) → Q (.ref tt) H')) ∧ ∀ h : nIdx nm ps < ps.length, 1 ≤ num ∧ num ≤ ps[nIdx nm ps].2.l ∧ ∀ (H' : Hp) (tt r l : Addr) (t2 : Addr), Same H H' → H' tt = some (.tup [.ref r, .ref l]) → H' r = some (.lst []) → H l = none → H' l = some (.lst ((putL ps (nIdx nm ps) (t2, lessO ps[nIdx nm ps].2 num)).map rf)) → H' t2 = some (.tup (odV (lessO ps[nIdx nm ps].2 num))) → Q (.ref tt) H')
theorem ok__law_tried (d__law_tried : Dv K mg "_law_tried" (top 55) ["way", "line", "order", "name", "number"]) (B : Bl mg) (C : Co mg) (R : Er K mg) (d_joined : Dv K mg "joined" (top 37) ["line", "order"]) (G_joined : FnOk P w K mg base (CXb P w) 3 d_joined.f d_joined.fd ["line", "order"] (sp_joined K R.c_Twice)) (d_served : Dv K mg "served" (top 41) ["line", "amount"]) (G_served : FnOk P w K mg base (CXb P w) 4 d_served.f d_served.fd ["line", "amount"] (sp_served K R.c_NoOrder R.c_BadNumber)) (d_without : Dv K mg "without" (top 39) ["line", "name"]) (G_without : FnOk P w K mg base (CXb P w) 2 d_without.f d_without.fd ["line", "name"] (sp_without K R.c_NoOrder)) (d_with_less : Dv K mg "with_less" (top 40) ["line", "name", "left"]) (G_with_less : FnOk P w K mg base (CXb P w) 3 d_with_less.f d_with_less.fd ["line", "name", "left"] (sp_with_less K R.c_NoOrder R.c_BadNumber)) : FnOk P w K mg base CX0 5 d__law_tried.f d__law_tried.fd ["way", "line", "order", "name", "number"] (sp__law_tried K) := by
  refine d__law_tried.F.ok sc__law_tried (fun vs H Q E h => ?_) (fun cdv A outer s H vs Q E hr h => ?_)
  · refine Classical.byContradiction fun hnzq => ?_; obtain ⟨_, _, _, _, _, _, _, rfl, _⟩ := h; refine hnzq ?_; clear hnzq; rfl
  refine Classical.byContradiction fun hnzq => ?_; obtain ⟨way, p, ps, t, o, nm, num, rfl, hp, hO, ht, nd, hl, q1, q2, q3, q4⟩ := h
  refine hnzq ?_; clear hnzq
  refine ⟨_, (pss_cons (ps_set (i := 5) sc__law_tried.nd rfl (Or.inl rfl) (pe_lst pa_nil)) (pss_cons (ps_set (i := 6) sc__law_tried.nd rfl (Or.inl rfl) pe_non) (pss_cut (ps_try (i := 7) rfl rfl sc__law_tried.nd rfl rfl rfl R.m_BourseError (pxs_one (px_if (pt_cmpR op_lt (pv 0) pe_int (nomark _)) (pxs_one (px_set (i := 6) sc__law_tried.nd rfl (Or.inl rfl) (pex_call G_joined (hr.mono (by decide)) rfl d_joined.m d_joined.F.kp d_joined.b .nil (pa_cons (pv 1) (pa_cons (pv 2) pa_nil))))) (pxs_one (px_if (pt_cmpR op_lt (pv 0) pe_int (nomark _)) (pxs_one (px_set (i := 6) sc__law_tried.nd rfl (Or.inl rfl) (pex_call G_served (hr.mono (by decide)) rfl d_served.m d_served.F.kp d_served.b .nil (pa_cons (pv 1) (pa_cons (pv 4) pa_nil))))) (pxs_one (px_if (pt_cmpR op_eq (pv 0) pe_int (nomark _)) (pxs_one (px_set (i := 6) sc__law_tried.nd rfl (Or.inl rfl) (pex_call G_without (hr.mono (by decide)) rfl d_without.m d_without.F.kp d_without.b .nil (pa_cons (pv 1) (pa_cons (pv 3) pa_nil))))) (pxs_one (px_set (i := 6) sc__law_tried.nd rfl (Or.inl rfl) (pex_call G_with_less (hr.mono (by decide)) rfl d_with_less.m d_with_less.F.kp d_with_less.b .nil (pa_cons (pv 1) (pa_cons (pv 3) (pa_cons (pv 4) pa_nil)))))))))))) (fun e_ oe_ => (pss_one (ps_set (i := 5) sc__law_tried.nd rfl (Or.inl rfl) (pe_lst (pa_cons (pe_callB call_isinst_exc rfl B.b_isinstance PyProof.Rows.boot_isinstance (pa_cons (pv 7) (pa_cons (pe_glob (v := .ref R.c_Twice) rfl R.m_Twice rfl) pa_nil))) (pa_cons (pe_callB call_isinst_exc rfl B.b_isinstance PyProof.Rows.boot_isinstance (pa_cons (pv 7) (pa_cons (pe_glob (v := .ref R.c_NoOrder) rfl R.m_NoOrder rfl) pa_nil))) pa_nil))))))) (pss_one (ps_ret (pe_tup (pa_cons (pv 5) (pa_cons (pv 6) pa_nil)))))))), ?_⟩
  refine ⟨by (first | exact szOk (Nat.le_of_ble_eq_true rfl) | exact szLt (Nat.le_of_ble_eq_true rfl) | omega), fun r0 hr0 => ?_⟩
  have s0 := same_upd (u := .lst []) hr0
  have k0 : upd H r0 (.lst []) r0 = some (.lst []) := upd_same
  generalize upd H r0 (.lst []) = H1 at s0 k0
  have hp1 := s0 _ _ hp
  have hO1 := hO.same s0
  have ht1 := s0 _ _ ht
  refine ⟨fun σ' H' => ∃ (r : Addr) (vf : V) (ve : Option V), σ' = [some (.int way), some (.ref p), some (.ref t), some (.str nm), some (.int num), some (.ref r), some vf, ve] ∧ ∀ (H'' : Hp) (tt : Addr), Same H' H'' → H'' tt = some (.tup [V.ref r, vf]) → Q (.ref tt) H'', ?_, ?_⟩
  · refine ⟨_, rfl, _, _, rfl, rfl, _, rfl, ?_⟩
    refine ite2 (fun c => ?_) (fun c => ?_)
    · refine Classical.byContradiction fun hnzq => ?_; obtain ⟨qa, qb⟩ := q1 (of_decide_eq_true c)
      refine hnzq ?_; clear hnzq
      refine ⟨_, rfl, _, rfl, p, ps, t, o, rfl, .inl (.inl hp1), hO1, ht1, by omega, fun hm H2 s2 => ?_, fun hm H2 l s2 fl kl => ?_⟩
      · refine ⟨R.e_Twice, fun e oe hcls he => ?_⟩
        refine ⟨_, rfl, _, _, _, _, _, _, rfl, List.mem_cons_self, hcls, R.k_Twice, rfl, R.i_Twice_Twice, ?_⟩
        refine ⟨_, rfl, _, _, _, _, _, _, rfl, List.mem_cons_self, hcls, R.k_Twice, rfl, R.i_Twice_NoOrder, by (first | exact szOk (Nat.le_of_ble_eq_true rfl) | exact szLt (Nat.le_of_ble_eq_true rfl) | omega), fun l2 hl2 => ?_⟩
        exact ⟨l2, _, _, rfl, fun H'' tt s k => qa hm H'' tt l2 ((s0.trans s2).trans ((same_upd hl2).trans s)) k (s _ _ upd_same)⟩
      · exact ⟨r0, _, _, rfl, fun H'' tt s k => qb hm H'' tt r0 l ((s0.trans s2).trans s) k (s _ _ (s2 _ _ k0)) (s0.free fl) (s _ _ kl)⟩
    refine ⟨_, rfl, _, _, rfl, rfl, _, rfl, ?_⟩
    refine ite2 (fun c2 => ?_) (fun c2 => ?_)
    · refine Classical.byContradiction fun hnzq => ?_; obtain ⟨qa, qb⟩ := q2 (fun z => c (decide_eq_true z)) (of_decide_eq_true c2)
      refine hnzq ?_; clear hnzq
      refine ⟨_, rfl, _, rfl, p, ps, num, rfl, .inl (.inl hp1), hO1, by omega, nd, fun hnil => ?_, fun x r exr hno H3 s3 => absurd ⟨(qb x r exr).1, (qb x r exr).2.1⟩ hno, fun x r exr n1 n2 H2 l qs s2 fl kl oq eq => ?_⟩
      · refine ⟨R.e_NoOrder, fun e oe hcls he => ?_⟩
        refine ⟨_, rfl, _, _, _, _, _, _, rfl, List.mem_cons_self, hcls, R.k_NoOrder, rfl, R.i_NoOrder_Twice, ?_⟩
        refine ⟨_, rfl, _, _, _, _, _, _, rfl, List.mem_cons_self, hcls, R.k_NoOrder, rfl, R.i_NoOrder_NoOrder, by (first | exact szOk (Nat.le_of_ble_eq_true rfl) | exact szLt (Nat.le_of_ble_eq_true rfl) | omega), fun l2 hl2 => ?_⟩
        exact ⟨l2, _, _, rfl, fun H'' tt s k => qa hnil H'' tt l2 (s0.trans ((same_upd hl2).trans s)) k (s _ _ upd_same)⟩
      · exact ⟨r0, _, _, rfl, fun H'' tt s k => (qb x r exr).2.2 H'' tt r0 l qs ((s0.trans s2).trans s) k (s _ _ (s2 _ _ k0)) (s0.free fl) (s _ _ kl) (oq.same s) eq⟩
    refine ⟨_, rfl, rfl, _, rfl, ?_⟩
    refine ite2 (fun c3 => ?_) (fun c3 => ?_)
    · refine Classical.byContradiction fun hnzq => ?_; obtain ⟨qa, qb⟩ := q3 (by simpa using c3)
      refine hnzq ?_; clear hnzq
      refine ⟨_, rfl, _, rfl, p, ps, nm, rfl, .inl (.inl hp1), hO1, by omega, fun hno => ?_, fun hin H2 l s2 fl kl => ?_⟩
      · refine ⟨R.e_NoOrder, fun e oe hcls he => ?_⟩
        refine ⟨_, rfl, _, _, _, _, _, _, rfl, List.mem_cons_self, hcls, R.k_NoOrder, rfl, R.i_NoOrder_Twice, ?_⟩
        refine ⟨_, rfl, _, _, _, _, _, _, rfl, List.mem_cons_self, hcls, R.k_NoOrder, rfl, R.i_NoOrder_NoOrder, by (first | exact szOk (Nat.le_of_ble_eq_true rfl) | exact szLt (Nat.le_of_ble_eq_true rfl) | omega), fun l2 hl2 => ?_⟩
        exact ⟨l2, _, _, rfl, fun H'' tt s k => qa hno H'' tt l2 (s0.trans ((same_upd hl2).trans s)) k (s _ _ upd_same)⟩
      · exact ⟨r0, _, _, rfl, fun H'' tt s k => qb hin H'' tt r0 l ((s0.trans s2).trans s) k (s _ _ (s2 _ _ k0)) (s0.free fl) (s _ _ kl)⟩
    · refine Classical.byContradiction fun hnzq => ?_; obtain ⟨qa, qb⟩ := q4 (fun z => c2 (decide_eq_true z)) (by simpa using c3)
      refine hnzq ?_; clear hnzq
      refine ⟨_, rfl, _, rfl, _, rfl, p, ps, nm, num, rfl, .inl (.inl hp1), hO1, by omega, fun hno => ?_, fun hin => ⟨fun hno => absurd ⟨(qb hin).1, (qb hin).2.1⟩ hno, fun n1 n2 H2 l t2 s2 fl kl kt => ?_⟩⟩
      · refine ⟨R.e_NoOrder, fun e oe hcls he => ?_⟩
        refine ⟨_, rfl, _, _, _, _, _, _, rfl, List.mem_cons_self, hcls, R.k_NoOrder, rfl, R.i_NoOrder_Twice, ?_⟩
        refine ⟨_, rfl, _, _, _, _, _, _, rfl, List.mem_cons_self, hcls, R.k_NoOrder, rfl, R.i_NoOrder_NoOrder, by (first | exact szOk (Nat.le_of_ble_eq_true rfl) | exact szLt (Nat.le_of_ble_eq_true rfl) | omega), fun l2 hl2 => ?_⟩
        exact ⟨l2, _, _, rfl, fun H'' tt s k => qa hno H'' tt l2 (s0.trans ((same_upd hl2).trans s)) k (s _ _ upd_same)⟩
      · exact ⟨r0, _, _, rfl, fun H'' tt s k => (qb hin).2.2 H'' tt r0 l t2 ((s0.trans s2).trans s) k (s _ _ (s2 _ _ k0)) (s0.free fl) (s _ _ kl) (s _ _ kt)⟩
  rintro _ H2 zz
  refine Classical.byContradiction fun hnzq => ?_; obtain ⟨r, vf, ve, rfl, out⟩ := zz
  refine hnzq ?_; clear hnzq
  exact ⟨_, rfl, _, rfl, by (first | exact szOk (Nat.le_of_ble_eq_true rfl) | exact szLt (Nat.le_of_ble_eq_true rfl) | omega), fun tt htt => out _ tt (same_upd htt) upd_same⟩
theorem sc_law : FnScope ["script", "side", "line", "book", "much", "at", "way", "more", "k", "order", "name", "number", "handed", "answer"] ["script"] (defScope (top 60)) := ⟨rfl, rfl, rfl, by decide +kernel, rfl, by decide +kernel, by decide +kernel⟩
noncomputable def sp_law (K : PySem.W.Frag) : Sp := fun vs H Q _ => ∃ (a : Addr) (ns : List Int), vs = [.ref a] ∧ SqL K H a (ns.map V.int) ∧ ns.length ≤ 63 ∧ ∀ H', Q (.bl true) H'
theorem ok_law (d_law : Dv K mg "law" (top 60) ["script"]) (B : Bl mg) (C : Co mg) (R : Er K mg) (d__law_cell_at : Dv K mg "_law_cell_at" (top 48) ["script", "k"]) (G__law_cell_at : FnOk P w K mg base CX0 1 d__law_cell_at.f d__law_cell_at.fd ["script", "k"] (sp__law_cell_at K)) (d__law_order_by : Dv K mg "_law_order_by" (top 54) ["script", "at", "k", "side"]) (G__law_order_by : FnOk P w K mg base CX0 4 d__law_order_by.f d__law_order_by.fd ["script", "at", "k", "side"] (sp__law_order_by K)) (d__law_number_by : Dv K mg "_law_number_by" (top 59) ["way", "line", "book", "name", "more"]) (G__law_number_by : FnOk P w K mg base CX0 1 d__law_number_by.f d__law_number_by.fd ["way", "line", "book", "name", "more"] (sp__law_number_by K)) (d__law_tried : Dv K mg "_law_tried" (top 55) ["way", "line", "order", "name", "number"]) (G__law_tried : FnOk P w K mg base CX0 5 d__law_tried.f d__law_tried.fd ["way", "line", "order", "name", "number"] (sp__law_tried K)) (d__law_line_alike : Dv K mg "_law_line_alike" (top 51) ["found", "due"]) (G__law_line_alike : FnOk P w K mg base CX0 3 d__law_line_alike.f d__law_line_alike.fd ["found", "due"] (sp__law_line_alike K)) (d__law_deed_in : Dv K mg "_law_deed_in" (top 58) ["way", "book", "order", "name", "number", "now"]) (G__law_deed_in : FnOk P w K mg base CX0 2 d__law_deed_in.f d__law_deed_in.fd ["way", "book", "order", "name", "number", "now"] (sp__law_deed_in K)) (d__law_lines_up : Dv K mg "_law_lines_up" (top 56) ["line", "book", "side"]) (G__law_lines_up : FnOk P w K mg base CX0 4 d__law_lines_up.f d__law_lines_up.fd ["line", "book", "side"] (sp__law_lines_up K)) (d_total : Dv K mg "total" (top 42) ["line"]) (G_total : FnOk P w K mg base CX0 1 d_total.f d_total.fd ["line"] (sp_total K)) : FnOk P w K mg base CX0 6 d_law.f d_law.fd ["script"] (sp_law K) := by
  refine d_law.F.ok sc_law (fun vs H Q E h => ?_) (fun cdv A outer s H vs Q E hr h => ?_)
  · refine Classical.byContradiction fun hnzq => ?_; obtain ⟨_, _, rfl, _⟩ := h; refine hnzq ?_; clear hnzq; rfl
  refine Classical.byContradiction fun hnzq => ?_; obtain ⟨a, ns, rfl, hS, h63, q⟩ := h
  refine hnzq ?_; clear hnzq
  refine ⟨_, (pss_cons (ps_set (i := 1) sc_law.nd rfl (Or.inl rfl) (pe_ix ix_list (pe_lst (pa_cons pe_str (pa_cons pe_str pa_nil))) (pe_op op_mod (pe_call G__law_cell_at (hr.mono (by decide)) rfl d__law_cell_at.m d__law_cell_at.F.kp d__law_cell_at.b .nil pass0 (pa_cons (pv 0) (pa_cons pe_int pa_nil))) pe_int) (fun _ _ => rfl))) (pss_cons (ps_set (i := 2) sc_law.nd rfl (Or.inl rfl) (pe_lst pa_nil)) (pss_cons (ps_set (i := 3) sc_law.nd rfl (Or.inl rfl) pe_dnewK) (pss_cons (ps_set (i := 4) sc_law.nd rfl (Or.inl rfl) pe_int) (pss_cons (ps_for PassesOwn.never rfl (pi_range3 rfl B.b_range (pa_cons pe_int (pa_cons (pe_callB (call_min2 rfl) rfl B.b_min PyProof.Rows.boot_min (pa_cons (pe_callB call_len_seq rfl B.b_len PySem.boot_len (pa_cons (pv 0) pa_nil)) (pa_cons pe_int pa_nil))) (pa_cons pe_int pa_nil)))) (pg_name (i := 5) sc_law.nd rfl (Or.inl rfl)) (pss_cons (ps_set (i := 6) sc_law.nd rfl (Or.inl rfl) (pe_op op_mod (pe_call G__law_cell_at (hr.mono (by decide)) rfl d__law_cell_at.m d__law_cell_at.F.kp d__law_cell_at.b .nil pass0 (pa_cons (pv 0) (pa_cons (pv 5) pa_nil))) pe_int)) (pss_cons (ps_set (i := 7) sc_law.nd rfl (Or.inl rfl) (pe_call G__law_cell_at (hr.mono (by decide)) rfl d__law_cell_at.m d__law_cell_at.F.kp d__law_cell_at.b .nil pass0 (pa_cons (pv 0) (pa_cons (pe_op op_add (pv 5) pe_int) pa_nil)))) (pss_cons (ps_set (i := 8) sc_law.nd rfl (Or.inl rfl) (pe_op op_fdiv (pv 5) pe_int)) (pss_cut (ps_if (PW.pt (pw_or (pt_cmpR op_eq (pv 6) pe_int (nomark _)) (pw_or1 (pt_cmpR op_gt (pv 6) pe_int (nomark _))))) (pss_one (ps_set (i := 8) sc_law.nd rfl (Or.inl rfl) (pe_op op_mod (pe_op op_fdiv (pv 7) pe_int) (pe_op op_add (pe_op op_fdiv (pv 5) pe_int) pe_int)))) pss_nil) (pss_cons (ps_set (i := 9) sc_law.nd rfl (Or.inl rfl) (pe_call G__law_order_by (hr.mono (by decide)) rfl d__law_order_by.m d__law_order_by.F.kp d__law_order_by.b .nil pass0 (pa_cons (pv 0) (pa_cons (pv 5) (pa_cons (pv 8) (pa_cons (pv 1) pa_nil)))))) (pss_cons (ps_set (i := 10) sc_law.nd rfl (Or.inl rfl) (pe_ix ix_tup (pv 9) pe_int (fun _ _ => rfl))) (pss_cut (ps_if (PW.pt (pw_and (pt_cmpR op_le pe_int (pv 6) (nomark _)) (pw_and (pt_cmpR op_lt (pv 6) pe_int (nomark _)) (pw_and1 (pt_cmpR (op_neD hr.units) (pv 2) (pe_lst pa_nil) (nomark _)))))) (pss_one (ps_set (i := 10) sc_law.nd rfl (Or.inl rfl) (pe_ix ix_tup (pe_ix ix_list (pv 2) pe_int (fun _ _ => rfl)) pe_int (fun _ _ => rfl)))) pss_nil) (pss_cons (ps_set (i := 11) sc_law.nd rfl (Or.inl rfl) (pe_call G__law_number_by (hr.mono (by decide)) rfl d__law_number_by.m d__law_number_by.F.kp d__law_number_by.b .nil pass0 (pa_cons (pv 6) (pa_cons (pv 2) (pa_cons (pv 3) (pa_cons (pv 10) (pa_cons (pe_op op_fdiv (pv 7) pe_int) pa_nil))))))) (pss_cons (ps_set (i := 12) sc_law.nd rfl (Or.inl rfl) (pe_callTy call_list_of rfl B.b_list PyProof.Rows.boot_list (pa_cons (pv 2) pa_nil))) (pss_cut (ps_set (i := 13) sc_law.nd rfl (Or.inl rfl) (pe_call G__law_tried (hr.mono (by decide)) rfl d__law_tried.m d__law_tried.F.kp d__law_tried.b .nil pass0 (pa_cons (pv 6) (pa_cons (pv 12) (pa_cons (pv 9) (pa_cons (pv 10) (pa_cons (pv 11) pa_nil))))))) (pss_cons (ps_if (pt_not (pt_val (pe_call G__law_line_alike (hr.mono (by decide)) rfl d__law_line_alike.m d__law_line_alike.F.kp d__law_line_alike.b .nil pass0 (pa_cons (pv 12) (pa_cons (pv 2) pa_nil))) (fun _ => rfl))) (pss_one (ps_ret pe_bl)) pss_nil) (pss_cut (ps_if (PW.pt (pw_and (pt_cmpR op_lt (pv 6) pe_int (nomark _)) (pw_and1 (pt_cmp (pc_din (hu1 hr.units) (pv 10) (pv 3)))))) (pss_one (ps_if (pt_cmpR (op_neL hr.units0) (pe_ix ix_tup (pv 13) pe_int (fun _ _ => rfl)) (pe_lst (pa_cons pe_bl (pa_cons pe_bl pa_nil))) (nomark _)) (pss_one (ps_ret pe_bl)) pss_nil)) (pss_one (ps_if (PW.pt (pw_and (pt_cmpR op_gt (pv 6) pe_int (nomark _)) (pw_and1 (pt_cmp (pc_dnotin (hu1 hr.units) (pv 10) (pv 3)))))) (pss_one (ps_if (pt_cmpR (op_neL hr.units0) (pe_ix ix_tup (pv 13) pe_int (fun _ _ => rfl)) (pe_lst (pa_cons pe_bl (pa_cons pe_bl pa_nil))) (nomark _)) (pss_one (ps_ret pe_bl)) pss_nil)) (pss_cut (ps_set (i := 4) sc_law.nd rfl (Or.inl rfl) (pe_op op_add (pv 4) (pe_call G__law_deed_in (hr.mono (by decide)) rfl d__law_deed_in.m d__law_deed_in.F.kp d__law_deed_in.b .nil pass0 (pa_cons (pv 6) (pa_cons (pv 3) (pa_cons (pv 9) (pa_cons (pv 10) (pa_cons (pv 11) (pa_cons (pv 5) pa_nil))))))))) (pss_cons (ps_set (i := 2) sc_law.nd rfl (Or.inl rfl) (pe_ix ix_tup (pv 13) pe_int (fun _ _ => rfl))) (pss_one (ps_if (PW.pt (pw_or (pt_cmpR (op_neD hr.units) (pe_ix ix_tup (pv 13) pe_int (fun _ _ => rfl)) (pe_lst pa_nil) (nomark _)) (pw_or1 (pt_not (pt_val (pe_call G__law_lines_up (hr.mono (by decide)) rfl d__law_lines_up.m d__law_lines_up.F.kp d__law_lines_up.b .nil pass0 (pa_cons (pv 2) (pa_cons (pv 3) (pa_cons (pv 1) pa_nil)))) (fun _ => rfl)))))) (pss_one (ps_ret pe_bl)) pss_nil))))))) (pss_one (ps_if (pt_cmpR op_ne (pe_call G_total (hr.mono (by decide)) rfl d_total.m d_total.F.kp d_total.b .nil pass0 (pa_cons (pv 2) pa_nil)) (pv 4) (nomark _)) (pss_one (ps_ret pe_bl)) pss_nil))))))))))))))) (pss_one (ps_ret pe_bl))))))), ?_⟩
  refine ⟨by (first | exact szOk (Nat.le_of_ble_eq_true rfl) | exact szLt (Nat.le_of_ble_eq_true rfl) | omega), fun l0 hl0 => ?_⟩
  refine Classical.byContradiction fun hnzq => ?_; obtain ⟨sd, hsd, atsd⟩ : ∃ sd : Str, sideB sd = true ∧ atI [V.str "buy", V.str "sell"] (cell ns 1 % 2) = some (.str sd) := by
    have : cell ns 1 % 2 = 0 ∨ cell ns 1 % 2 = 1 := by lia
    rcases this with e | e
    · exact ⟨"buy", by decide +kernel, by rw [e]; rfl⟩
    · exact ⟨"sell", by decide +kernel, by rw [e]; rfl⟩
  refine hnzq ?_; clear hnzq
  have s0 := same_upd (u := .lst [V.str "buy", V.str "sell"]) hl0
  have hS0 := s0.seq hS
  refine ⟨_, rfl, a, ns, _, rfl, hS0, by decide, _, _, rfl, rfl, (by (first | (show (0 : Int) < _; decide) | exact ⟨by decide, by decide⟩ | exact ⟨by decide, by decide, by decide⟩ | exact .inl ⟨by decide, by decide⟩ | exact .inr ⟨by decide, by decide⟩ | omega)), l0, _, _, _, rfl, rfl, .inl (.inl upd_same), atsd, ?_⟩
  refine ⟨by (first | exact szOk (Nat.le_of_ble_eq_true rfl) | exact szLt (Nat.le_of_ble_eq_true rfl) | omega), fun p0 hp0 => ?_⟩
  have s1 := same_upd' (u := .lst []) s0 hp0
  have kp0 : upd (upd H l0 (.lst [V.str "buy", V.str "sell"])) p0 (.lst []) p0 = some (.lst (([] : List AO).map rf)) := upd_same
  have hS1 := s1.seq hS
  generalize upd (upd H l0 (.lst [V.str "buy", V.str "sell"])) p0 (.lst []) = H1 at s1 kp0 hS1
  intro D hD0
  have s2 := same_upd (u := .dK []) hD0
  have kD0 : upd H1 D (.dK []) D = some (.dK (kvB [])) := upd_same
  have kp0 := s2 _ _ kp0
  have hS2 := s2.seq hS1
  generalize upd H1 D (.dK []) = H2 at s2 kD0 kp0 hS2
  have hlen : (((ns.map V.int).length : Nat) : Int) = ns.length := by rw [List.length_map]
  refine ⟨_, rfl, a, _, rfl, .inl hS2, _, _, rfl, _, _, _, rfl, by decide, by decide, ?_, ?_⟩
  · rw [hlen]
    have e : ∀ n : Nat, n ≤ 63 → Builtin.Range.small 2 (if (162 : Int) < (n : Int) then 162 else (n : Int)) 2 = true := by decide +kernel
    exact e _ h63
  have hrs : ∀ n : Nat, n ≤ 63 → (Builtin.Range.rangeSize 2 (if (162 : Int) < (n : Int) then 162 else (n : Int)) 2).toNat ≤ 31 := by decide +kernel
  have hrs2 := hrs _ h63
  rw [← hlen] at hrs2
  refine for_val (fun i σ H' => ∃ (p : Addr) (ps : List AO) (es : List OS) (bk : List BE) (v5 v6 v7 v8 v9 v10 v11 v12 v13 : Option V), σ = [some (.ref a), some (.str sd), some (.ref p), some (.ref D), some (.int (totO ps)), v5, v6, v7, v8, v9, v10, v11, v12, v13] ∧ SqL K H' a (ns.map V.int) ∧ H' p = some (.lst (ps.map rf)) ∧ Ords H' ps ∧ H' D = some (.dK (kvB bk)) ∧ BkH H' bk ∧ LB sd (2 + (i : Int) * 2) ps es bk ∧ ps.length ≤ i)
    ⟨p0, [], [], [], none, none, none, none, none, none, none, none, none, rfl, hS2, kp0, (fun _ z => by cases z), kD0, (fun _ z => by cases z), ⟨⟨(fun _ z => by cases z), (fun _ z => by cases z), List.nodup_nil, List.Pairwise.nil⟩, rfl, List.Pairwise.nil, List.Perm.nil, (fun _ z => by cases z), fun _ z => by cases z⟩, Nat.le_refl _⟩ (fun i σ H' hi z => ?_) (fun σ H' z => q _)
  refine Classical.byContradiction fun hnzq => ?_; obtain ⟨p, ps, es, bk, v5, v6, v7, v8, v9, v10, v11, v12, v13, rfl, hSa, hp, hO, hD, hB, lb, hc⟩ := z
  refine hnzq ?_; clear hnzq
  have hi' : i < 31 := by (exact Nat.lt_of_lt_of_le (by assumption) (by assumption))
  have hl := lb.len
  refine ⟨_, rfl, _, rfl, a, ns, _, rfl, hSa, by show 0 ≤ 2 + (i : Int) * 2; (exact Int.ofNat_nonneg _), _, _, rfl, rfl, (by (first | (show (0 : Int) < _; decide) | exact ⟨by decide, by decide⟩ | exact ⟨by decide, by decide, by decide⟩ | exact .inl ⟨by decide, by decide⟩ | exact .inr ⟨by decide, by decide⟩ | omega)), ?_⟩
  refine ⟨_, rfl, _, rfl, _, _, rfl, rfl, a, ns, _, rfl, hSa, by show 0 ≤ 2 + (i : Int) * 2 + 1; (exact Int.ofNat_nonneg _), ?_⟩
  have w0 : 0 ≤ cell ns (2 + (i : Int) * 2) % 8 := by lia
  have w8 : cell ns (2 + (i : Int) * 2) % 8 < 8 := by lia
  dsimp only
  generalize cell ns (2 + (i : Int) * 2) % 8 = way at w0 w8 ⊢
  generalize cell ns (2 + (i : Int) * 2 + 1) = more
  refine ⟨_, rfl, _, _, rfl, rfl, ⟨by decide, by decide⟩, ?_⟩
  refine ⟨fun σ' H3 => ∃ k : Int, σ' = [some (.ref a), some (.str sd), some (.ref p), some (.ref D), some (.int (totO ps)), some (.int (2 + (i : Int) * 2)), some (.int way), some (.int more), some (.int k), v9, v10, v11, v12, v13] ∧ H' = H3, ?_, ?_⟩
  · have body : ∀ z : Int, 0 < (2 + (i : Int) * 2) / 2 + 1 := fun _ => by lia
    refine ⟨_, rfl, rfl, _, rfl, ?_⟩
    refine ite2 (fun _ => iteT ?_) (fun _ => ?_)
    · exact ⟨_, rfl, _, _, rfl, rfl, ⟨by decide, by decide⟩, _, rfl, _, _, rfl, rfl, ⟨by decide, by decide⟩, _, _, rfl, rfl, _, _, rfl, rfl, body 0, _, rfl, rfl⟩
    · refine ⟨_, rfl, _, _, rfl, rfl, _, rfl, ?_⟩
      refine ite2 (fun _ => ?_) (fun _ => ⟨_, rfl, rfl⟩)
      exact ⟨_, rfl, _, _, rfl, rfl, ⟨by decide, by decide⟩, _, rfl, _, _, rfl, rfl, ⟨by decide, by decide⟩, _, _, rfl, rfl, _, _, rfl, rfl, body 0, _, rfl, rfl⟩
  rintro _ _ zz
  refine Classical.byContradiction fun hnzq => ?_; obtain ⟨k, rfl, rfl⟩ := zz
  refine hnzq ?_; clear hnzq
  refine ⟨_, rfl, _, rfl, _, rfl, _, rfl, a, ns, _, k, sd, rfl, hSa, by show 0 ≤ 2 + (i : Int) * 2; (exact Int.ofNat_nonneg _), hsd, fun H3 t o s3 ht hn hs hk hpr1 hpr2 hl1 => ?_⟩
  have hSa := s3.seq hSa
  have hp := s3 _ _ hp
  have hO := hO.same s3
  have hD := s3 _ _ hD
  have hB := hB.same s3
  refine ⟨_, rfl, t, _, _, _, rfl, rfl, .inl (.inl ht), rfl, ?_⟩
  refine ⟨fun σ' H4 => ∃ nm : Str, σ' = [some (.ref a), some (.str sd), some (.ref p), some (.ref D), some (.int (totO ps)), some (.int (2 + (i : Int) * 2)), some (.int way), some (.int more), some (.int k), some (.ref t), some (.str nm), v11, v12, v13] ∧ Same H3 H4 ∧ (way < 4 → nm = o.n) ∧ (¬ way < 4 → way < 6 → ∀ x r, ps = x :: r → nm = x.2.n), ?_, ?_⟩
  · refine ⟨_, rfl, _, _, rfl, rfl, _, rfl, ?_⟩
    refine ite2 (fun c => ?_) (fun c => iteF ⟨o.n, rfl, Same.refl _, fun _ => rfl, fun z => absurd (decide_eq_true (show 4 ≤ way by (exact Int.le_of_not_gt (by assumption)))) c⟩)
    refine ⟨_, rfl, _, _, rfl, rfl, _, rfl, ?_⟩
    refine ite2 (fun c2 => ?_) (fun c2 => iteF ⟨o.n, rfl, Same.refl _, fun _ => rfl, fun _ z => absurd (decide_eq_true z) c2⟩)
    have c4 : 4 ≤ way := of_decide_eq_true c
    refine ⟨_, rfl, by (first | exact szOk (Nat.le_of_ble_eq_true rfl) | exact szLt (Nat.le_of_ble_eq_true rfl) | omega), fun l1 hl1 => eqs_nil true (at_upd hp hl1) upd_same ⟨_, rfl, ?_⟩⟩
    have sx := same_upd (u := .lst []) hl1
    cases ps with
    | nil => exact iteF ⟨o.n, rfl, sx, fun _ => rfl, fun _ _ x r e => by cases e⟩
    | cons x r => exact iteT ⟨_, rfl, p, _, _, _, rfl, rfl, .inl (.inl (sx _ _ hp)), at_zero x r, x.1, _, _, _, rfl, rfl, .inl (.inl (sx _ _ (hO x List.mem_cons_self))), rfl, x.2.n, rfl, sx, fun z => by lia, fun _ _ y r' e => by cases e; rfl⟩
  rintro _ H4 zz
  refine Classical.byContradiction fun hnzq => ?_; obtain ⟨nm, rfl, s4, nm4, nm6⟩ := zz
  refine hnzq ?_; clear hnzq
  have hSa := s4.seq hSa
  have hp := s4 _ _ hp
  have hO := hO.same s4
  have hD := s4 _ _ hD
  have hB := hB.same s4
  have ht := s4 _ _ ht
  have okb : ∀ e ∈ bk, OkO e.od := fun e he => by
    have : e.od ∈ ps.map (·.2) := by rw [lb.fst]; exact List.mem_map.mpr ⟨beP e, lb.perm.mem_iff.mp (List.mem_map.mpr ⟨e, he, rfl⟩), rfl⟩
    refine Classical.byContradiction fun hnzq => ?_; obtain ⟨x, hx, ex⟩ := List.mem_map.mp this
    refine hnzq ?_; clear hnzq
    rw [← ex]
    exact lb.line.ok x hx
  refine ⟨_, rfl, _, rfl, _, rfl, _, rfl, _, rfl, _, _, rfl, rfl, ⟨by decide, by decide⟩, way, p, ps, D, bk, nm, _, rfl, hp, hO, hD, hB, lb.nd, lb.line.ok, okb, fun H5 num s5 n6 n7 => ?_⟩
  have hSa := s5.seq hSa
  have hp := s5 _ _ hp
  have hO := hO.same s5
  have hD := s5 _ _ hD
  have hB := hB.same s5
  have ht := s5 _ _ ht
  refine ⟨_, rfl, p, _, rfl, .inl (.inl (.inl hp)), fun hd hhd => ?_⟩
  have s6 := same_upd (u := .lst (ps.map rf)) hhd
  have hSa := s6.seq hSa
  have hp := s6 _ _ hp
  have hO := hO.same s6
  have hD := s6 _ _ hD
  have hB := hB.same s6
  have ht := s6 _ _ ht
  have khd : upd H5 hd (.lst (ps.map rf)) hd = some (.lst (ps.map rf)) := upd_same
  generalize upd H5 hd (.lst (ps.map rf)) = H6 at s6 hSa hp hO hD hB ht khd
  have inN : ∀ hk : nIdx nm ps < ps.length, ∃ e ∈ bk, e.nm = nm ∧ e.od = (ps[nIdx nm ps]'hk).2 := fun hk => by
    refine Classical.byContradiction fun hnzq => ?_; obtain ⟨e, he, e1, e2, _⟩ := lb.at (x := ps[nIdx nm ps].2) (List.mem_map.mpr ⟨_, List.getElem_mem hk, rfl⟩)
    refine hnzq ?_; clear hnzq
    exact ⟨e, he, by rw [e1, nIdx_at hk], e2⟩
  refine ⟨fun σ' H7 => ∃ tt r : Addr, σ' = [some (.ref a), some (.str sd), some (.ref p), some (.ref D), some (.int (totO ps)), some (.int (2 + (i : Int) * 2)), some (.int way), some (.int more), some (.int k), some (.ref t), some (.str nm), some (.int num), some (.ref hd), some (.ref tt)] ∧ Same H6 H7 ∧ OutH ps way t o nm num tt r H7, ?_, ?_⟩
  · refine ⟨_, rfl, _, rfl, _, rfl, _, rfl, _, rfl, way, hd, ps, t, o, nm, num, rfl, khd, hO, ht, lb.line.nd, by lia, fun w => ⟨fun hm H7 tt r s7 k1 k2 => ?_, fun hm H7 tt r l s7 k1 k2 fl kl => ?_⟩, fun w w2 => ⟨fun hnil H7 tt r s7 k1 k2 => ?_, fun x rr exr => ⟨(n6 w2 x rr exr).1, (n6 w2 x rr exr).2, fun H7 tt r l qs s7 k1 k2 fl kl oq eq => ?_⟩⟩, fun w => ⟨fun hno H7 tt r s7 k1 k2 => ?_, fun hin H7 tt r l s7 k1 k2 fl kl => ?_⟩, fun w w2 => ⟨fun hno H7 tt r s7 k1 k2 => ?_, fun hin => ?_⟩⟩
    · exact ⟨tt, r, rfl, s7, .inl ⟨w, by rw [nm4 w]; exact hm, k1, k2⟩⟩
    · refine ⟨tt, r, rfl, s7, .inr (.inr ⟨l, _, k1, k2, kl, fun y hy => ?_, .inl ⟨w, nm4 w, hm, rfl⟩⟩)⟩
      rcases mem_ins hy with rfl | hy
      · exact s7 _ _ ht
      · exact s7 _ _ (hO y hy)
    · exact ⟨tt, r, rfl, s7, .inr (.inl ⟨w, by rw [hnil]; exact List.not_mem_nil, k1, k2⟩)⟩
    · subst exr
      exact ⟨tt, r, rfl, s7, .inr (.inr ⟨l, qs, k1, k2, kl, oq, .inr (.inl ⟨w, w2, x, rr, rfl, nm6 w w2 x rr rfl, (n6 w2 x rr rfl).1, (n6 w2 x rr rfl).2, eq⟩)⟩)⟩
    · exact ⟨tt, r, rfl, s7, .inr (.inl ⟨by lia, fun z => by refine Classical.byContradiction fun hnzq => ?_; obtain ⟨x, hx, ex⟩ := List.mem_map.mp z; refine hnzq ?_; clear hnzq; exact nIdx_no hno x hx ex, k1, k2⟩)⟩
    · exact ⟨tt, r, rfl, s7, .inr (.inr ⟨l, _, k1, k2, kl, (fun y hy => s7 _ _ (hO y (mem_outL hy))), .inr (.inr (.inl ⟨w, hin, rfl⟩))⟩)⟩
    · exact ⟨tt, r, rfl, s7, .inr (.inl ⟨by lia, fun z => by refine Classical.byContradiction fun hnzq => ?_; obtain ⟨x, hx, ex⟩ := List.mem_map.mp z; refine hnzq ?_; clear hnzq; exact nIdx_no hno x hx ex, k1, k2⟩)⟩
    · refine Classical.byContradiction fun hnzq => ?_; obtain ⟨e, he, en, eo⟩ := inN hin
      refine hnzq ?_; clear hnzq
      have nb := n7 (by lia) e he en
      rw [eo] at nb
      refine ⟨nb.1, nb.2, fun H7 tt r l t2 s7 k1 k2 fl kl kt => ?_⟩
      refine ⟨tt, r, rfl, s7, .inr (.inr ⟨l, _, k1, k2, kl, fun y hy => ?_, .inr (.inr (.inr ⟨w, w2, hin, t2, nb.1, nb.2, rfl⟩))⟩)⟩
      rcases mem_putL hy with rfl | hy
      · exact kt
      · exact s7 _ _ (hO y hy)
  rintro _ H7 zz
  refine Classical.byContradiction fun hnzq => ?_; obtain ⟨tt, r, rfl, s7, out⟩ := zz
  refine hnzq ?_; clear hnzq
  have hSa := s7.seq hSa
  have hp := s7 _ _ hp
  have hO := hO.same s7
  have hD := s7 _ _ hD
  have hB := hB.same s7
  have ht := s7 _ _ ht
  have khd := s7 _ _ khd
  refine ⟨_, rfl, _, rfl, hd, p, ps, ps, rfl, khd, hp, hO, hO, rfl, by lia, _, rfl, iteF ?_⟩
  have mem := fun z : Str => lb.names.mem_iff (a := z)
  refine ⟨fun σ' H8 => ∃ (p : Addr) (ps : List AO) (es : List OS) (bk : List BE), σ' = [some (.ref a), some (.str sd), some (.ref p), some (.ref D), some (.int (totO ps)), some (.int (2 + (i : Int) * 2)), some (.int way), some (.int more), some (.int k), some (.ref t), some (.str nm), some (.int num), some (.ref hd), some (.ref tt)] ∧ SqL K H8 a (ns.map V.int) ∧ H8 p = some (.lst (ps.map rf)) ∧ Ords H8 ps ∧ H8 D = some (.dK (kvB bk)) ∧ BkH H8 bk ∧ LB sd (2 + (i : Int) * 2 + 1) ps es bk ∧ ps.length ≤ i + 1, ?_, ?_⟩
  · rcases out with ⟨w, hm, k1, k2⟩ | ⟨w, hm, k1, k2⟩ | ⟨l, qs, k1, k2, kl, oq, oi⟩
    · refine Classical.byContradiction fun hnzq => ?_; obtain ⟨e, he, en⟩ := List.mem_map.mp ((mem nm).mpr hm)
      refine hnzq ?_; clear hnzq
      have en : e.nm = nm := en
      refine ⟨_, rfl, _, _, rfl, rfl, _, rfl, ?_⟩
      refine ite2 (fun c => ?_) (fun c => absurd (decide_eq_true w) c)
      refine ⟨_, rfl, _, rfl, D, some (V.ref e.t), rfl, .inl ⟨kvB bk, Sum.inr nm, .inl hD, rfl, (kvB_val lb.nd he en).symm⟩, _, rfl, iteT ?_⟩
      refine ⟨_, rfl, tt, _, _, _, rfl, rfl, .inl (.inl k1), rfl, by (first | exact szOk (Nat.le_of_ble_eq_true rfl) | exact szLt (Nat.le_of_ble_eq_true rfl) | omega), fun l3 hl3 => ?_⟩
      have s9 := same_upd (u := .lst [V.bl true, V.bl false]) hl3
      refine ⟨r, l3, _, _, rfl, rfl, .inl (.inl (s9 _ _ k2)), .inl (.inl upd_same), rfl, rfl, _, rfl, ?_⟩
      refine ite2 (fun z => absurd z (by rw [eqVs_refl (xs := [V.bl true, V.bl false]) rfl]; decide)) fun _ => ?_
      exact ⟨p, ps, es, bk, rfl, s9.seq hSa, s9 _ _ hp, hO.same s9, s9 _ _ hD, hB.same s9, lb.later (by lia), by (exact Nat.le_succ_of_le (by assumption))⟩
    · have nin : nm ∉ bk.map (·.nm) := fun z => hm ((mem nm).mp z)
      refine ⟨_, rfl, _, _, rfl, rfl, _, rfl, ?_⟩
      refine ite2 (fun c => absurd (of_decide_eq_true c) w) (fun c => iteF ?_)
      refine ⟨_, rfl, _, _, rfl, rfl, _, rfl, ?_⟩
      refine ite2 (fun c => ?_) (fun c => absurd (decide_eq_true (show 3 < way by (exact Int.le_of_not_gt (by assumption)))) c)
      refine ⟨_, rfl, _, rfl, D, none, rfl, .inl ⟨kvB bk, Sum.inr nm, .inl hD, rfl, (kvB_no nin).symm⟩, _, rfl, iteT ?_⟩
      refine ⟨_, rfl, tt, _, _, _, rfl, rfl, .inl (.inl k1), rfl, by (first | exact szOk (Nat.le_of_ble_eq_true rfl) | exact szLt (Nat.le_of_ble_eq_true rfl) | omega), fun l3 hl3 => ?_⟩
      have s9 := same_upd (u := .lst [V.bl false, V.bl true]) hl3
      refine ⟨r, l3, _, _, rfl, rfl, .inl (.inl (s9 _ _ k2)), .inl (.inl upd_same), rfl, rfl, _, rfl, ?_⟩
      refine ite2 (fun z => absurd z (by rw [eqVs_refl (xs := [V.bl false, V.bl true]) rfl]; decide)) fun _ => ?_
      exact ⟨p, ps, es, bk, rfl, s9.seq hSa, s9 _ _ hp, hO.same s9, s9 _ _ hD, hB.same s9, lb.later (by omega), by (exact Nat.le_succ_of_le (by assumption))⟩
    · refine' (show _ → _ from ?main) ?pf
      case main =>
        intro key
        by_cases w4 : way < 4
        · have nin : nm ∉ bk.map (·.nm) := fun z => (out_in oi).1 w4 ((mem nm).mp z)
          refine ⟨_, rfl, _, _, rfl, rfl, _, rfl, ?_⟩
          refine ite2 (fun c => ?_) (fun c => absurd (decide_eq_true w4) c)
          refine ⟨_, rfl, _, rfl, D, none, rfl, .inl ⟨kvB bk, Sum.inr nm, .inl hD, rfl, (kvB_no nin).symm⟩, _, rfl, iteF ?_⟩
          refine ⟨_, rfl, _, _, rfl, rfl, _, rfl, ?_⟩
          refine ite2 (fun c => absurd (of_decide_eq_true c) (by clear key; (exact Int.not_le.mpr (by assumption)))) (fun c => iteF ?_)
          exact key
        · refine Classical.byContradiction fun hnzq => ?_; obtain ⟨e, he, en⟩ := List.mem_map.mp ((mem nm).mpr ((out_in oi).2 w4))
          refine hnzq ?_; clear hnzq
          have en : e.nm = nm := en
          refine ⟨_, rfl, _, _, rfl, rfl, _, rfl, ?_⟩
          refine ite2 (fun c => absurd (of_decide_eq_true c) w4) (fun c => iteF ?_)
          refine ⟨_, rfl, _, _, rfl, rfl, _, rfl, ?_⟩
          refine ite2 (fun c => ?_) (fun c => absurd (decide_eq_true (show 3 < way by clear key; omega)) c)
          refine ⟨_, rfl, _, rfl, D, some (V.ref e.t), rfl, .inl ⟨kvB bk, Sum.inr nm, .inl hD, rfl, (kvB_val lb.nd he en).symm⟩, _, rfl, iteF ?_⟩
          exact key
      case pf =>
        refine ⟨fun σ' H8 => ∃ (es' : List OS) (bk' : List BE), σ' = [some (.ref a), some (.str sd), some (.ref p), some (.ref D), some (.int (totO qs)), some (.int (2 + (i : Int) * 2)), some (.int way), some (.int more), some (.int k), some (.ref t), some (.str nm), some (.int num), some (.ref hd), some (.ref tt)] ∧ SmD D H7 H8 ∧ H8 D = some (.dK (kvB bk')) ∧ BkH H8 bk' ∧ LB sd (2 + (i : Int) * 2 + 1) qs es' bk' ∧ bk'.length ≤ i + 1, ?_, ?_⟩
        · refine ⟨_, rfl, _, rfl, _, rfl, _, rfl, _, rfl, _, rfl, _, rfl, way, D, bk, t, o, nm, num, _, rfl, hD, hB, lb.nd, ht, by (clear B G__law_cell_at G__law_order_by G__law_number_by G__law_tried G__law_line_alike G__law_deed_in G__law_lines_up G_total hr hS h63 q hl0 hsd atsd s0 hS0 hp0 s1 hS1 hD0 s2 kD0 kp0 hS2 hlen hrs hrs2 hi lb w0 w8 s3 hn hs hk hpr1 hpr2 hl1 s4 nm4 nm6 okb s5 n6 n7 hhd s6 inN s7 hSa hp hO hD hB ht khd mem k1 k2 kl oq oi; omega), fun w => ?_, fun w => ?_⟩
          · refine Classical.byContradiction fun hnzq => ?_; obtain ⟨hno, eqs⟩ : o.n ∉ ps.map (fun x => x.2.n) ∧ qs = ins (t, o) ps := by
              rcases oi with ⟨_, _, x1, x2⟩ | ⟨z, _⟩ | ⟨z, _⟩ | ⟨z, _⟩
              · exact ⟨x1, x2⟩
              · exact absurd w z
              · lia
              · (clear B G__law_cell_at G__law_order_by G__law_number_by G__law_tried G__law_line_alike G__law_deed_in G__law_lines_up G_total hr hS h63 q hl0 hsd atsd s0 hS0 hp0 s1 hS1 hD0 s2 kD0 kp0 hS2 hlen hrs hrs2 hi lb hc hi' hl s3 hn hs hk hpr1 hpr2 hl1 s4 nm4 nm6 okb s5 n6 n7 hhd s6 inN s7 hSa hp hO hD hB ht khd mem k1 k2 kl oq hnzq; omega)
            refine hnzq ?_; clear hnzq
            refine ⟨fun z => hno ((mem _).mp z), fun H8 t2 sx kD kB => ?_⟩
            have et := lb.joinT (t := t) (o := o)
            rw [← eqs] at et
            exact ⟨_, _, rfl, rfl, _, _, by rw [et]; rfl, sx, kD, kB, lb.join hs hk (fun z => hno ((mem _).mp z)) eqs, by rw [List.length_append]; show _ + 1 ≤ _; lia⟩
          · refine Classical.byContradiction fun hnzq => ?_; obtain ⟨e, he, en⟩ := List.mem_map.mp ((mem nm).mpr ((out_in oi).2 w))
            refine hnzq ?_; clear hnzq
            have en : e.nm = nm := en
            have ko := lb.key e he
            refine ⟨e, he, en, by rw [ko, en], fun w6 => ?_, fun w6 => ?_, fun w6 w7 => ?_⟩
            · refine Classical.byContradiction fun hnzq => ?_; obtain ⟨x, rr, rfl, ex, n1, n2, eqs⟩ : ∃ x rr, ps = x :: rr ∧ nm = x.2.n ∧ 1 ≤ num ∧ num ≤ x.2.sh ∧ qs.map (·.2) = servedO (x.2 :: rr.map (·.2)) num := by
                rcases oi with ⟨z, _⟩ | ⟨_, _, z⟩ | ⟨z, _⟩ | ⟨z, _⟩
                · exact absurd z w
                · exact z
                · lia
                · exact absurd w6 z
              refine hnzq ?_; clear hnzq
              refine Classical.byContradiction fun hnzq => ?_; obtain ⟨e', he', e1, e2, _⟩ := lb.at (x := x.2) List.mem_cons_self
              refine hnzq ?_; clear hnzq
              have ee : e = e' := lb.uniq he he' (by rw [en, ex, e1])
              subst ee
              refine ⟨okb e he, n1, by rw [e2]; exact n2, fun H8 bk' sx kD kB c1 c2 => ?_⟩
              rw [← en] at c1 c2
              refine Classical.byContradiction fun hnzq => ?_; obtain ⟨⟨es', lb'⟩, et⟩ := lb.serve he e1 n1 n2 eqs c1 c2
              refine hnzq ?_; clear hnzq
              have lk : bk'.length ≤ i + 1 := by
                by_cases z : e.od.l = num
                · rw [c1 z]
                  have := List.length_filter_le (fun y : BE => decide (y.nm ≠ e.nm)) bk
                  unfold outB
                  lia
                · refine Classical.byContradiction fun hnzq => ?_; obtain ⟨_, _, eb⟩ := c2 z
                  refine hnzq ?_; clear hnzq
                  rw [eb, List.length_append]
                  have := List.length_filter_le (fun y : BE => decide (y.nm ≠ e.nm)) bk
                  unfold outB
                  show _ + 1 ≤ _
                  lia
              exact ⟨_, _, rfl, rfl, es', bk', by rw [et]; rfl, sx, kD, kB, lb', lk⟩
            · refine Classical.byContradiction fun hnzq => ?_; obtain ⟨hin, eqs⟩ : ∃ _ : nIdx nm ps < ps.length, qs = outL ps (nIdx nm ps) := by
                rcases oi with ⟨z, _⟩ | ⟨_, z, _⟩ | ⟨_, z⟩ | ⟨_, z, _⟩
                · exact absurd z w
                · lia
                · exact z
                · exact absurd w6 z
              refine hnzq ?_; clear hnzq
              intro H8 sx kD kB
              refine Classical.byContradiction fun hnzq => ?_; obtain ⟨⟨es', lb'⟩, et⟩ := lb.out hin he (by rw [en, nIdx_at hin])
              refine hnzq ?_; clear hnzq
              rw [en] at lb'
              rw [← eqs] at lb' et
              have := List.length_filter_le (fun y : BE => decide (y.nm ≠ nm)) bk
              exact ⟨_, _, rfl, rfl, es', _, by rw [et]; rfl, sx, kD, kB, lb', by unfold outB; lia⟩
            · refine Classical.byContradiction fun hnzq => ?_; obtain ⟨hin, t2, n1, n2, eqs⟩ : ∃ (h : nIdx nm ps < ps.length) (t2 : Addr), 1 ≤ num ∧ num ≤ ps[nIdx nm ps].2.l ∧ qs = putL ps (nIdx nm ps) (t2, lessO ps[nIdx nm ps].2 num) := by
                rcases oi with ⟨z, _⟩ | ⟨_, z, _⟩ | ⟨z, _⟩ | ⟨_, _, z⟩
                · exact absurd z w
                · exact absurd z w6
                · exact absurd z w7
                · exact z
              refine hnzq ?_; clear hnzq
              intro H8 t3 a3 sx kD kB
              refine Classical.byContradiction fun hnzq => ?_; obtain ⟨⟨es', lb'⟩, et⟩ := lb.less (t := t2) (t2 := t3) (a := a3) hin he (by rw [en, nIdx_at hin]) n1 n2
              refine hnzq ?_; clear hnzq
              rw [en] at lb'
              rw [← eqs] at lb' et
              exact ⟨_, _, rfl, rfl, es', _, by rw [et]; rfl, sx, kD, kB, lb', by unfold putB; rw [List.length_map]; lia⟩
        rintro _ H8 zz
        refine Classical.byContradiction fun hnzq => ?_; obtain ⟨es', bk', rfl, sx, kD, kB, lb', lk⟩ := zz
        refine hnzq ?_; clear hnzq
        have lq : qs.length ≤ i + 1 := by rw [← lb'.len]; exact lk
        have hSa := seqD hD sx hSa
        have k1 := tupD hD sx k1
        have k2 := lstD hD sx k2
        have kl := lstD hD sx kl
        have oq := ordsD hD sx oq
        refine ⟨_, rfl, tt, _, _, _, rfl, rfl, .inl (.inl k1), rfl, ?_⟩
        refine ⟨_, rfl, tt, _, _, _, rfl, rfl, .inl (.inl k1), rfl, by (first | exact szOk (Nat.le_of_ble_eq_true rfl) | exact szLt (Nat.le_of_ble_eq_true rfl) | omega), fun l3 hl3 => eqs_nil (ps := []) true (at_upd k2 hl3) upd_same ⟨_, rfl, ?_⟩⟩
        have s9 := same_upd (u := .lst []) hl3
        refine iteF ?_
        refine ⟨_, rfl, _, rfl, _, rfl, l, qs, D, es', bk', sd, rfl, s9 _ _ kl, oq.same s9, s9 _ _ kD, kB.same s9, ⟨_, lb'⟩, by (clear B G__law_cell_at G__law_order_by G__law_number_by G__law_tried G__law_line_alike G__law_deed_in G__law_lines_up G_total hr hS h63 q hl0 hsd atsd s0 hS0 hp0 s1 hS1 hD0 s2 kD0 kp0 hS2 hlen hrs hrs2 hi lb hc hl w0 w8 s3 hn hs hk hpr1 hpr2 hl1 s4 nm4 nm6 okb s5 n6 n7 hhd s6 inN s7 hp hO hD hB ht khd mem oi sx kD kB lb' lk hSa k1 k2 kl oq hl3 s9; omega), fun H10 s10 => ⟨_, rfl, iteF ?_⟩⟩
        have sz := s9.trans s10
        exact ⟨l, qs, es', bk', rfl, sz.seq hSa, sz _ _ kl, oq.same sz, sz _ _ kD, kB.same sz, lb', lq⟩
  rintro _ H8 zz
  refine Classical.byContradiction fun hnzq => ?_; obtain ⟨p, ps, es, bk, rfl, hSa, hp, hO, hD, hB, lb, hc⟩ := zz
  refine hnzq ?_; clear hnzq
  refine ⟨_, rfl, p, ps, rfl, .inl (.inl hp), hO, by (clear B G__law_cell_at G__law_order_by G__law_number_by G__law_tried G__law_line_alike G__law_deed_in G__law_lines_up G_total hr hS h63 q hl0 hsd atsd s0 hS0 hp0 s1 hS1 hD0 s2 kD0 kp0 hS2 hlen hrs hrs2 hi hl w0 w8 s3 hn hs hk hpr1 hpr2 hl1 s4 nm4 nm6 okb s5 n6 n7 hhd s6 inN s7 out ht khd mem hSa hp hO hD hB lb; omega), fun H9 s9 => ⟨_, rfl, rfl, _, rfl, iteNS (by simp) ?_⟩⟩
  exact ⟨p, ps, es, bk, _, _, _, _, _, _, _, _, _, rfl, s9.seq hSa, s9 _ _ hp, hO.same s9, s9 _ _ hD, hB.same s9, lb.later (by lia), hc⟩
end
theorem all_mk {l : PySem.W.OpenLaw} {w : World} {K : PySem.W.Frag} {h : Heap} {mg : Str → Option Value} {fa f_is_name f_checked_name f_checked_number f_checked_price f_checked_amount f_checked_side f_checked_peak f_shown_anew f_made f_with_parts f_fresh f_renews f_filled f_lessened f_ahead f_names_of f_joining_place f_joined f_place_of f_without f_with_less f_served f__law_cell_at f__law_whole f__law_alike f__law_line_alike f__law_name_of f__law_peak_by f__law_order_by f_total f_prices_in_order f_is_line f__law_lines_up f__law_serve_in f__law_deed_in f__law_number_by f__law_tried f_law c_BadName c_BadNumber c_BadSide c_BourseError c_NoOrder c_Twice : Addr} (X : K.In h) (G : h.Ns mainGlobals mg) (hfa : mg "law" = some (.ref fa))
    {od_is_name an_is_name od_checked_name an_checked_name od_checked_number an_checked_number od_checked_price an_checked_price od_checked_amount an_checked_amount od_checked_side an_checked_side od_checked_peak an_checked_peak od_shown_anew an_shown_anew od_made an_made od_with_parts an_with_parts od_fresh an_fresh od_renews an_renews od_filled an_filled od_lessened an_lessened od_ahead an_ahead od_names_of an_names_of od_joining_place an_joining_place od_joined an_joined od_place_of an_place_of od_without an_without od_with_less an_with_less od_served an_served od__law_cell_at an__law_cell_at od__law_whole an__law_whole od__law_alike an__law_alike od__law_line_alike an__law_line_alike od__law_name_of an__law_name_of od__law_peak_by an__law_peak_by od__law_order_by an__law_order_by od_total an_total od_prices_in_order an_prices_in_order od_is_line an_is_line od__law_lines_up an__law_lines_up od__law_serve_in an__law_serve_in od__law_deed_in an__law_deed_in od__law_number_by an__law_number_by od__law_tried an__law_tried od_law an_law : Option Addr} {sl_is_name sl_checked_name sl_checked_number sl_checked_price sl_checked_amount sl_checked_side sl_checked_peak sl_shown_anew sl_made sl_with_parts sl_fresh sl_renews sl_filled sl_lessened sl_ahead sl_names_of sl_joining_place sl_joined sl_place_of sl_without sl_with_less sl_served sl__law_cell_at sl__law_whole sl__law_alike sl__law_line_alike sl__law_name_of sl__law_peak_by sl__law_order_by sl_total sl_prices_in_order sl_is_line sl__law_lines_up sl__law_serve_in sl__law_deed_in sl__law_number_by sl__law_tried sl_law : Array (Option Value)} {oc_is_name kV_is_name dc_is_name pm_is_name cd_is_name ct_is_name oc_checked_name kV_checked_name dc_checked_name pm_checked_name cd_checked_name ct_checked_name oc_checked_number kV_checked_number dc_checked_number pm_checked_number cd_checked_number ct_checked_number oc_checked_price kV_checked_price dc_checked_price pm_checked_price cd_checked_price ct_checked_price oc_checked_amount kV_checked_amount dc_checked_amount pm_checked_amount cd_checked_amount ct_checked_amount oc_checked_side kV_checked_side dc_checked_side pm_checked_side cd_checked_side ct_checked_side oc_checked_peak kV_checked_peak dc_checked_peak pm_checked_peak cd_checked_peak ct_checked_peak oc_shown_anew kV_shown_anew dc_shown_anew pm_shown_anew cd_shown_anew ct_shown_anew oc_made kV_made dc_made pm_made cd_made ct_made oc_with_parts kV_with_parts dc_with_parts pm_with_parts cd_with_parts ct_with_parts oc_fresh kV_fresh dc_fresh pm_fresh cd_fresh ct_fresh oc_renews kV_renews dc_renews pm_renews cd_renews ct_renews oc_filled kV_filled dc_filled pm_filled cd_filled ct_filled oc_lessened kV_lessened dc_lessened pm_lessened cd_lessened ct_lessened oc_ahead kV_ahead dc_ahead pm_ahead cd_ahead ct_ahead oc_names_of kV_names_of dc_names_of pm_names_of cd_names_of ct_names_of oc_joining_place kV_joining_place dc_joining_place pm_joining_place cd_joining_place ct_joining_place oc_joined kV_joined dc_joined pm_joined cd_joined ct_joined oc_place_of kV_place_of dc_place_of pm_place_of cd_place_of ct_place_of oc_without kV_without dc_without pm_without cd_without ct_without oc_with_less kV_with_less dc_with_less pm_with_less cd_with_less ct_with_less oc_served kV_served dc_served pm_served cd_served ct_served oc__law_cell_at kV__law_cell_at dc__law_cell_at pm__law_cell_at cd__law_cell_at ct__law_cell_at oc__law_whole kV__law_whole dc__law_whole pm__law_whole cd__law_whole ct__law_whole oc__law_alike kV__law_alike dc__law_alike pm__law_alike cd__law_alike ct__law_alike oc__law_line_alike kV__law_line_alike dc__law_line_alike pm__law_line_alike cd__law_line_alike ct__law_line_alike oc__law_name_of kV__law_name_of dc__law_name_of pm__law_name_of cd__law_name_of ct__law_name_of oc__law_peak_by kV__law_peak_by dc__law_peak_by pm__law_peak_by cd__law_peak_by ct__law_peak_by oc__law_order_by kV__law_order_by dc__law_order_by pm__law_order_by cd__law_order_by ct__law_order_by oc_total kV_total dc_total pm_total cd_total ct_total oc_prices_in_order kV_prices_in_order dc_prices_in_order pm_prices_in_order cd_prices_in_order ct_prices_in_order oc_is_line kV_is_line dc_is_line pm_is_line cd_is_line ct_is_line oc__law_lines_up kV__law_lines_up dc__law_lines_up pm__law_lines_up cd__law_lines_up ct__law_lines_up oc__law_serve_in kV__law_serve_in dc__law_serve_in pm__law_serve_in cd__law_serve_in ct__law_serve_in oc__law_deed_in kV__law_deed_in dc__law_deed_in pm__law_deed_in cd__law_deed_in ct__law_deed_in oc__law_number_by kV__law_number_by dc__law_number_by pm__law_number_by cd__law_number_by ct__law_number_by oc__law_tried kV__law_tried dc__law_tried pm__law_tried cd__law_tried ct__law_tried oc_law kV_law dc_law pm_law cd_law ct_law : Value} {t_GREATEST_AMOUNT t_GREATEST_PRICE t_LEFT t_LETTERS t_LETTERS_AND_FIGURES t_LONGEST_NAME t_MOST_PEAKS t_NAME t_PEAK t_PRICE t_SHOWN t_SIDE : Tok} {xc_BadName xc_BadNumber xc_BadSide xc_NoOrder xc_Twice : ClassData} {dt_made : Addr} {do_made : Value} {dd_made : Option Addr} {dn_made : Nat} {dsl_made : Array (Option Value)} {dk_made_0 : Tok}
    (a_is_name : PySem.W.nsIn K mainGlobals "is_name" = some (some (.ref f_is_name)))
    (l_is_name : K.lookup f_is_name = some ⟨oc_is_name, od_is_name, .func (PySem.W.fnOf "is_name" "is_name" (defArgs (top 13)) (defBody (top 13)) (defScope (top 13)) .none kV_is_name dc_is_name pm_is_name an_is_name cd_is_name ct_is_name), sl_is_name⟩)
    (q_is_name : PySem.W.codeIn K cd_is_name "is_name" = true)
    (k_is_name : PySem.W.keepIn K (.ref f_is_name) = true)
    (a_checked_name : PySem.W.nsIn K mainGlobals "checked_name" = some (some (.ref f_checked_name)))
    (l_checked_name : K.lookup f_checked_name = some ⟨oc_checked_name, od_checked_name, .func (PySem.W.fnOf "checked_name" "checked_name" (defArgs (top 14)) (defBody (top 14)) (defScope (top 14)) .none kV_checked_name dc_checked_name pm_checked_name an_checked_name cd_checked_name ct_checked_name), sl_checked_name⟩)
    (q_checked_name : PySem.W.codeIn K cd_checked_name "checked_name" = true)
    (k_checked_name : PySem.W.keepIn K (.ref f_checked_name) = true)
    (a_checked_number : PySem.W.nsIn K mainGlobals "checked_number" = some (some (.ref f_checked_number)))
    (l_checked_number : K.lookup f_checked_number = some ⟨oc_checked_number, od_checked_number, .func (PySem.W.fnOf "checked_number" "checked_number" (defArgs (top 15)) (defBody (top 15)) (defScope (top 15)) .none kV_checked_number dc_checked_number pm_checked_number an_checked_number cd_checked_number ct_checked_number), sl_checked_number⟩)
    (q_checked_number : PySem.W.codeIn K cd_checked_number "checked_number" = true)
    (k_checked_number : PySem.W.keepIn K (.ref f_checked_number) = true)
    (a_checked_price : PySem.W.nsIn K mainGlobals "checked_price" = some (some (.ref f_checked_price)))
    (l_checked_price : K.lookup f_checked_price = some ⟨oc_checked_price, od_checked_price, .func (PySem.W.fnOf "checked_price" "checked_price" (defArgs (top 16)) (defBody (top 16)) (defScope (top 16)) .none kV_checked_price dc_checked_price pm_checked_price an_checked_price cd_checked_price ct_checked_price), sl_checked_price⟩)
    (q_checked_price : PySem.W.codeIn K cd_checked_price "checked_price" = true)
    (k_checked_price : PySem.W.keepIn K (.ref f_checked_price) = true)
    (a_checked_amount : PySem.W.nsIn K mainGlobals "checked_amount" = some (some (.ref f_checked_amount)))
    (l_checked_amount : K.lookup f_checked_amount = some ⟨oc_checked_amount, od_checked_amount, .func (PySem.W.fnOf "checked_amount" "checked_amount" (defArgs (top 17)) (defBody (top 17)) (defScope (top 17)) .none kV_checked_amount dc_checked_amount pm_checked_amount an_checked_amount cd_checked_amount ct_checked_amount), sl_checked_amount⟩)
    (q_checked_amount : PySem.W.codeIn K cd_checked_amount "checked_amount" = true)
    (k_checked_amount : PySem.W.keepIn K (.ref f_checked_amount) = true)
    (a_checked_side : PySem.W.nsIn K mainGlobals "checked_side" = some (some (.ref f_checked_side)))
    (l_checked_side : K.lookup f_checked_side = some ⟨oc_checked_side, od_checked_side, .func (PySem.W.fnOf "checked_side" "checked_side" (defArgs (top 18)) (defBody (top 18)) (defScope (top 18)) .none kV_checked_side dc_checked_side pm_checked_side an_checked_side cd_checked_side ct_checked_side), sl_checked_side⟩)
    (q_checked_side : PySem.W.codeIn K cd_checked_side "checked_side" = true)
    (k_checked_side : PySem.W.keepIn K (.ref f_checked_side) = true)
    (a_checked_peak : PySem.W.nsIn K mainGlobals "checked_peak" = some (some (.ref f_checked_peak)))
    (l_checked_peak : K.lookup f_checked_peak = some ⟨oc_checked_peak, od_checked_peak, .func (PySem.W.fnOf "checked_peak" "checked_peak" (defArgs (top 33)) (defBody (top 33)) (defScope (top 33)) .none kV_checked_peak dc_checked_peak pm_checked_peak an_checked_peak cd_checked_peak ct_checked_peak), sl_checked_peak⟩)
    (q_checked_peak : PySem.W.codeIn K cd_checked_peak "checked_peak" = true)
    (k_checked_peak : PySem.W.keepIn K (.ref f_checked_peak) = true)
    (a_shown_anew : PySem.W.nsIn K mainGlobals "shown_anew" = some (some (.ref f_shown_anew)))
    (l_shown_anew : K.lookup f_shown_anew = some ⟨oc_shown_anew, od_shown_anew, .func (PySem.W.fnOf "shown_anew" "shown_anew" (defArgs (top 34)) (defBody (top 34)) (defScope (top 34)) .none kV_shown_anew dc_shown_anew pm_shown_anew an_shown_anew cd_shown_anew ct_shown_anew), sl_shown_anew⟩)
    (q_shown_anew : PySem.W.codeIn K cd_shown_anew "shown_anew" = true)
    (k_shown_anew : PySem.W.keepIn K (.ref f_shown_anew) = true)
    (a_made : PySem.W.nsIn K mainGlobals "made" = some (some (.ref f_made)))
    (l_made : K.lookup f_made = some ⟨oc_made, od_made, .func (PySem.W.fnOf "made" "made" (defArgs (top 27)) (defBody (top 27)) (defScope (top 27)) (.ref dt_made) kV_made dc_made pm_made an_made cd_made ct_made), sl_made⟩)
    (dl_made : K.lookup dt_made = some ⟨do_made, dd_made, .seq #[.int 0 dk_made_0] dn_made, dsl_made⟩)
    (q_made : PySem.W.codeIn K cd_made "made" = true)
    (k_made : PySem.W.keepIn K (.ref f_made) = true)
    (a_with_parts : PySem.W.nsIn K mainGlobals "with_parts" = some (some (.ref f_with_parts)))
    (l_with_parts : K.lookup f_with_parts = some ⟨oc_with_parts, od_with_parts, .func (PySem.W.fnOf "with_parts" "with_parts" (defArgs (top 35)) (defBody (top 35)) (defScope (top 35)) .none kV_with_parts dc_with_parts pm_with_parts an_with_parts cd_with_parts ct_with_parts), sl_with_parts⟩)
    (q_with_parts : PySem.W.codeIn K cd_with_parts "with_parts" = true)
    (k_with_parts : PySem.W.keepIn K (.ref f_with_parts) = true)
    (a_fresh : PySem.W.nsIn K mainGlobals "fresh" = some (some (.ref f_fresh)))
    (l_fresh : K.lookup f_fresh = some ⟨oc_fresh, od_fresh, .func (PySem.W.fnOf "fresh" "fresh" (defArgs (top 28)) (defBody (top 28)) (defScope (top 28)) .none kV_fresh dc_fresh pm_fresh an_fresh cd_fresh ct_fresh), sl_fresh⟩)
    (q_fresh : PySem.W.codeIn K cd_fresh "fresh" = true)
    (k_fresh : PySem.W.keepIn K (.ref f_fresh) = true)
    (a_renews : PySem.W.nsIn K mainGlobals "renews" = some (some (.ref f_renews)))
    (l_renews : K.lookup f_renews = some ⟨oc_renews, od_renews, .func (PySem.W.fnOf "renews" "renews" (defArgs (top 30)) (defBody (top 30)) (defScope (top 30)) .none kV_renews dc_renews pm_renews an_renews cd_renews ct_renews), sl_renews⟩)
    (q_renews : PySem.W.codeIn K cd_renews "renews" = true)
    (k_renews : PySem.W.keepIn K (.ref f_renews) = true)
    (a_filled : PySem.W.nsIn K mainGlobals "filled" = some (some (.ref f_filled)))
    (l_filled : K.lookup f_filled = some ⟨oc_filled, od_filled, .func (PySem.W.fnOf "filled" "filled" (defArgs (top 29)) (defBody (top 29)) (defScope (top 29)) .none kV_filled dc_filled pm_filled an_filled cd_filled ct_filled), sl_filled⟩)
    (q_filled : PySem.W.codeIn K cd_filled "filled" = true)
    (k_filled : PySem.W.keepIn K (.ref f_filled) = true)
    (a_lessened : PySem.W.nsIn K mainGlobals "lessened" = some (some (.ref f_lessened)))
    (l_lessened : K.lookup f_lessened = some ⟨oc_lessened, od_lessened, .func (PySem.W.fnOf "lessened" "lessened" (defArgs (top 31)) (defBody (top 31)) (defScope (top 31)) .none kV_lessened dc_lessened pm_lessened an_lessened cd_lessened ct_lessened), sl_lessened⟩)
    (q_lessened : PySem.W.codeIn K cd_lessened "lessened" = true)
    (k_lessened : PySem.W.keepIn K (.ref f_lessened) = true)
    (a_ahead : PySem.W.nsIn K mainGlobals "ahead" = some (some (.ref f_ahead)))
    (l_ahead : K.lookup f_ahead = some ⟨oc_ahead, od_ahead, .func (PySem.W.fnOf "ahead" "ahead" (defArgs (top 32)) (defBody (top 32)) (defScope (top 32)) .none kV_ahead dc_ahead pm_ahead an_ahead cd_ahead ct_ahead), sl_ahead⟩)
    (q_ahead : PySem.W.codeIn K cd_ahead "ahead" = true)
    (k_ahead : PySem.W.keepIn K (.ref f_ahead) = true)
    (a_names_of : PySem.W.nsIn K mainGlobals "names_of" = some (some (.ref f_names_of)))
    (l_names_of : K.lookup f_names_of = some ⟨oc_names_of, od_names_of, .func (PySem.W.fnOf "names_of" "names_of" (defArgs (top 44)) (defBody (top 44)) (defScope (top 44)) .none kV_names_of dc_names_of pm_names_of an_names_of cd_names_of ct_names_of), sl_names_of⟩)
    (q_names_of : PySem.W.codeIn K cd_names_of "names_of" = true)
    (k_names_of : PySem.W.keepIn K (.ref f_names_of) = true)
    (a_joining_place : PySem.W.nsIn K mainGlobals "joining_place" = some (some (.ref f_joining_place)))
    (l_joining_place : K.lookup f_joining_place = some ⟨oc_joining_place, od_joining_place, .func (PySem.W.fnOf "joining_place" "joining_place" (defArgs (top 45)) (defBody (top 45)) (defScope (top 45)) .none kV_joining_place dc_joining_place pm_joining_place an_joining_place cd_joining_place ct_joining_place), sl_joining_place⟩)
    (q_joining_place : PySem.W.codeIn K cd_joining_place "joining_place" = true)
    (k_joining_place : PySem.W.keepIn K (.ref f_joining_place) = true)
    (a_joined : PySem.W.nsIn K mainGlobals "joined" = some (some (.ref f_joined)))
    (l_joined : K.lookup f_joined = some ⟨oc_joined, od_joined, .func (PySem.W.fnOf "joined" "joined" (defArgs (top 37)) (defBody (top 37)) (defScope (top 37)) .none kV_joined dc_joined pm_joined an_joined cd_joined ct_joined), sl_joined⟩)
    (q_joined : PySem.W.codeIn K cd_joined "joined" = true)
    (k_joined : PySem.W.keepIn K (.ref f_joined) = true)
    (a_place_of : PySem.W.nsIn K mainGlobals "place_of" = some (some (.ref f_place_of)))
    (l_place_of : K.lookup f_place_of = some ⟨oc_place_of, od_place_of, .func (PySem.W.fnOf "place_of" "place_of" (defArgs (top 38)) (defBody (top 38)) (defScope (top 38)) .none kV_place_of dc_place_of pm_place_of an_place_of cd_place_of ct_place_of), sl_place_of⟩)
    (q_place_of : PySem.W.codeIn K cd_place_of "place_of" = true)
    (k_place_of : PySem.W.keepIn K (.ref f_place_of) = true)
    (a_without : PySem.W.nsIn K mainGlobals "without" = some (some (.ref f_without)))
    (l_without : K.lookup f_without = some ⟨oc_without, od_without, .func (PySem.W.fnOf "without" "without" (defArgs (top 39)) (defBody (top 39)) (defScope (top 39)) .none kV_without dc_without pm_without an_without cd_without ct_without), sl_without⟩)
    (q_without : PySem.W.codeIn K cd_without "without" = true)
    (k_without : PySem.W.keepIn K (.ref f_without) = true)
    (a_with_less : PySem.W.nsIn K mainGlobals "with_less" = some (some (.ref f_with_less)))
    (l_with_less : K.lookup f_with_less = some ⟨oc_with_less, od_with_less, .func (PySem.W.fnOf "with_less" "with_less" (defArgs (top 40)) (defBody (top 40)) (defScope (top 40)) .none kV_with_less dc_with_less pm_with_less an_with_less cd_with_less ct_with_less), sl_with_less⟩)
    (q_with_less : PySem.W.codeIn K cd_with_less "with_less" = true)
    (k_with_less : PySem.W.keepIn K (.ref f_with_less) = true)
    (a_served : PySem.W.nsIn K mainGlobals "served" = some (some (.ref f_served)))
    (l_served : K.lookup f_served = some ⟨oc_served, od_served, .func (PySem.W.fnOf "served" "served" (defArgs (top 41)) (defBody (top 41)) (defScope (top 41)) .none kV_served dc_served pm_served an_served cd_served ct_served), sl_served⟩)
    (q_served : PySem.W.codeIn K cd_served "served" = true)
    (k_served : PySem.W.keepIn K (.ref f_served) = true)
    (a__law_cell_at : PySem.W.nsIn K mainGlobals "_law_cell_at" = some (some (.ref f__law_cell_at)))
    (l__law_cell_at : K.lookup f__law_cell_at = some ⟨oc__law_cell_at, od__law_cell_at, .func (PySem.W.fnOf "_law_cell_at" "_law_cell_at" (defArgs (top 48)) (defBody (top 48)) (defScope (top 48)) .none kV__law_cell_at dc__law_cell_at pm__law_cell_at an__law_cell_at cd__law_cell_at ct__law_cell_at), sl__law_cell_at⟩)
    (q__law_cell_at : PySem.W.codeIn K cd__law_cell_at "_law_cell_at" = true)
    (k__law_cell_at : PySem.W.keepIn K (.ref f__law_cell_at) = true)
    (a__law_whole : PySem.W.nsIn K mainGlobals "_law_whole" = some (some (.ref f__law_whole)))
    (l__law_whole : K.lookup f__law_whole = some ⟨oc__law_whole, od__law_whole, .func (PySem.W.fnOf "_law_whole" "_law_whole" (defArgs (top 49)) (defBody (top 49)) (defScope (top 49)) .none kV__law_whole dc__law_whole pm__law_whole an__law_whole cd__law_whole ct__law_whole), sl__law_whole⟩)
    (q__law_whole : PySem.W.codeIn K cd__law_whole "_law_whole" = true)
    (k__law_whole : PySem.W.keepIn K (.ref f__law_whole) = true)
    (a__law_alike : PySem.W.nsIn K mainGlobals "_law_alike" = some (some (.ref f__law_alike)))
    (l__law_alike : K.lookup f__law_alike = some ⟨oc__law_alike, od__law_alike, .func (PySem.W.fnOf "_law_alike" "_law_alike" (defArgs (top 50)) (defBody (top 50)) (defScope (top 50)) .none kV__law_alike dc__law_alike pm__law_alike an__law_alike cd__law_alike ct__law_alike), sl__law_alike⟩)
    (q__law_alike : PySem.W.codeIn K cd__law_alike "_law_alike" = true)
    (k__law_alike : PySem.W.keepIn K (.ref f__law_alike) = true)
    (a__law_line_alike : PySem.W.nsIn K mainGlobals "_law_line_alike" = some (some (.ref f__law_line_alike)))
    (l__law_line_alike : K.lookup f__law_line_alike = some ⟨oc__law_line_alike, od__law_line_alike, .func (PySem.W.fnOf "_law_line_alike" "_law_line_alike" (defArgs (top 51)) (defBody (top 51)) (defScope (top 51)) .none kV__law_line_alike dc__law_line_alike pm__law_line_alike an__law_line_alike cd__law_line_alike ct__law_line_alike), sl__law_line_alike⟩)
    (q__law_line_alike : PySem.W.codeIn K cd__law_line_alike "_law_line_alike" = true)
    (k__law_line_alike : PySem.W.keepIn K (.ref f__law_line_alike) = true)
    (a__law_name_of : PySem.W.nsIn K mainGlobals "_law_name_of" = some (some (.ref f__law_name_of)))
    (l__law_name_of : K.lookup f__law_name_of = some ⟨oc__law_name_of, od__law_name_of, .func (PySem.W.fnOf "_law_name_of" "_law_name_of" (defArgs (top 52)) (defBody (top 52)) (defScope (top 52)) .none kV__law_name_of dc__law_name_of pm__law_name_of an__law_name_of cd__law_name_of ct__law_name_of), sl__law_name_of⟩)
    (q__law_name_of : PySem.W.codeIn K cd__law_name_of "_law_name_of" = true)
    (k__law_name_of : PySem.W.keepIn K (.ref f__law_name_of) = true)
    (a__law_peak_by : PySem.W.nsIn K mainGlobals "_law_peak_by" = some (some (.ref f__law_peak_by)))
    (l__law_peak_by : K.lookup f__law_peak_by = some ⟨oc__law_peak_by, od__law_peak_by, .func (PySem.W.fnOf "_law_peak_by" "_law_peak_by" (defArgs (top 53)) (defBody (top 53)) (defScope (top 53)) .none kV__law_peak_by dc__law_peak_by pm__law_peak_by an__law_peak_by cd__law_peak_by ct__law_peak_by), sl__law_peak_by⟩)
    (q__law_peak_by : PySem.W.codeIn K cd__law_peak_by "_law_peak_by" = true)
    (k__law_peak_by : PySem.W.keepIn K (.ref f__law_peak_by) = true)
    (a__law_order_by : PySem.W.nsIn K mainGlobals "_law_order_by" = some (some (.ref f__law_order_by)))
    (l__law_order_by : K.lookup f__law_order_by = some ⟨oc__law_order_by, od__law_order_by, .func (PySem.W.fnOf "_law_order_by" "_law_order_by" (defArgs (top 54)) (defBody (top 54)) (defScope (top 54)) .none kV__law_order_by dc__law_order_by pm__law_order_by an__law_order_by cd__law_order_by ct__law_order_by), sl__law_order_by⟩)
    (q__law_order_by : PySem.W.codeIn K cd__law_order_by "_law_order_by" = true)
    (k__law_order_by : PySem.W.keepIn K (.ref f__law_order_by) = true)
    (a_total : PySem.W.nsIn K mainGlobals "total" = some (some (.ref f_total)))
    (l_total : K.lookup f_total = some ⟨oc_total, od_total, .func (PySem.W.fnOf "total" "total" (defArgs (top 42)) (defBody (top 42)) (defScope (top 42)) .none kV_total dc_total pm_total an_total cd_total ct_total), sl_total⟩)
    (q_total : PySem.W.codeIn K cd_total "total" = true)
    (k_total : PySem.W.keepIn K (.ref f_total) = true)
    (a_prices_in_order : PySem.W.nsIn K mainGlobals "prices_in_order" = some (some (.ref f_prices_in_order)))
    (l_prices_in_order : K.lookup f_prices_in_order = some ⟨oc_prices_in_order, od_prices_in_order, .func (PySem.W.fnOf "prices_in_order" "prices_in_order" (defArgs (top 46)) (defBody (top 46)) (defScope (top 46)) .none kV_prices_in_order dc_prices_in_order pm_prices_in_order an_prices_in_order cd_prices_in_order ct_prices_in_order), sl_prices_in_order⟩)
    (q_prices_in_order : PySem.W.codeIn K cd_prices_in_order "prices_in_order" = true)
    (k_prices_in_order : PySem.W.keepIn K (.ref f_prices_in_order) = true)
    (a_is_line : PySem.W.nsIn K mainGlobals "is_line" = some (some (.ref f_is_line)))
    (l_is_line : K.lookup f_is_line = some ⟨oc_is_line, od_is_line, .func (PySem.W.fnOf "is_line" "is_line" (defArgs (top 43)) (defBody (top 43)) (defScope (top 43)) .none kV_is_line dc_is_line pm_is_line an_is_line cd_is_line ct_is_line), sl_is_line⟩)
    (q_is_line : PySem.W.codeIn K cd_is_line "is_line" = true)
    (k_is_line : PySem.W.keepIn K (.ref f_is_line) = true)
    (a__law_lines_up : PySem.W.nsIn K mainGlobals "_law_lines_up" = some (some (.ref f__law_lines_up)))
    (l__law_lines_up : K.lookup f__law_lines_up = some ⟨oc__law_lines_up, od__law_lines_up, .func (PySem.W.fnOf "_law_lines_up" "_law_lines_up" (defArgs (top 56)) (defBody (top 56)) (defScope (top 56)) .none kV__law_lines_up dc__law_lines_up pm__law_lines_up an__law_lines_up cd__law_lines_up ct__law_lines_up), sl__law_lines_up⟩)
    (q__law_lines_up : PySem.W.codeIn K cd__law_lines_up "_law_lines_up" = true)
    (k__law_lines_up : PySem.W.keepIn K (.ref f__law_lines_up) = true)
    (a__law_serve_in : PySem.W.nsIn K mainGlobals "_law_serve_in" = some (some (.ref f__law_serve_in)))
    (l__law_serve_in : K.lookup f__law_serve_in = some ⟨oc__law_serve_in, od__law_serve_in, .func (PySem.W.fnOf "_law_serve_in" "_law_serve_in" (defArgs (top 57)) (defBody (top 57)) (defScope (top 57)) .none kV__law_serve_in dc__law_serve_in pm__law_serve_in an__law_serve_in cd__law_serve_in ct__law_serve_in), sl__law_serve_in⟩)
    (q__law_serve_in : PySem.W.codeIn K cd__law_serve_in "_law_serve_in" = true)
    (k__law_serve_in : PySem.W.keepIn K (.ref f__law_serve_in) = true)
    (a__law_deed_in : PySem.W.nsIn K mainGlobals "_law_deed_in" = some (some (.ref f__law_deed_in)))
    (l__law_deed_in : K.lookup f__law_deed_in = some ⟨oc__law_deed_in, od__law_deed_in, .func (PySem.W.fnOf "_law_deed_in" "_law_deed_in" (defArgs (top 58)) (defBody (top 58)) (defScope (top 58)) .none kV__law_deed_in dc__law_deed_in pm__law_deed_in an__law_deed_in cd__law_deed_in ct__law_deed_in), sl__law_deed_in⟩)
    (q__law_deed_in : PySem.W.codeIn K cd__law_deed_in "_law_deed_in" = true)
    (k__law_deed_in : PySem.W.keepIn K (.ref f__law_deed_in) = true)
    (a__law_number_by : PySem.W.nsIn K mainGlobals "_law_number_by" = some (some (.ref f__law_number_by)))
    (l__law_number_by : K.lookup f__law_number_by = some ⟨oc__law_number_by, od__law_number_by, .func (PySem.W.fnOf "_law_number_by" "_law_number_by" (defArgs (top 59)) (defBody (top 59)) (defScope (top 59)) .none kV__law_number_by dc__law_number_by pm__law_number_by an__law_number_by cd__law_number_by ct__law_number_by), sl__law_number_by⟩)
    (q__law_number_by : PySem.W.codeIn K cd__law_number_by "_law_number_by" = true)
    (k__law_number_by : PySem.W.keepIn K (.ref f__law_number_by) = true)
    (a__law_tried : PySem.W.nsIn K mainGlobals "_law_tried" = some (some (.ref f__law_tried)))
    (l__law_tried : K.lookup f__law_tried = some ⟨oc__law_tried, od__law_tried, .func (PySem.W.fnOf "_law_tried" "_law_tried" (defArgs (top 55)) (defBody (top 55)) (defScope (top 55)) .none kV__law_tried dc__law_tried pm__law_tried an__law_tried cd__law_tried ct__law_tried), sl__law_tried⟩)
    (q__law_tried : PySem.W.codeIn K cd__law_tried "_law_tried" = true)
    (k__law_tried : PySem.W.keepIn K (.ref f__law_tried) = true)
    (a_law : PySem.W.nsIn K mainGlobals "law" = some (some (.ref f_law)))
    (l_law : K.lookup f_law = some ⟨oc_law, od_law, .func (PySem.W.fnOf "law" "law" (defArgs (top 60)) (defBody (top 60)) (defScope (top 60)) .none kV_law dc_law pm_law an_law cd_law ct_law), sl_law⟩)
    (q_law : PySem.W.codeIn K cd_law "law" = true)
    (k_law : PySem.W.keepIn K (.ref f_law) = true)
    (z_all : PySem.W.nsIn K mainGlobals "all" = some none)
    (z_any : PySem.W.nsIn K mainGlobals "any" = some none)
    (z_bool : PySem.W.nsIn K mainGlobals "bool" = some none)
    (z_int : PySem.W.nsIn K mainGlobals "int" = some none)
    (z_isinstance : PySem.W.nsIn K mainGlobals "isinstance" = some none)
    (z_len : PySem.W.nsIn K mainGlobals "len" = some none)
    (z_list : PySem.W.nsIn K mainGlobals "list" = some none)
    (z_min : PySem.W.nsIn K mainGlobals "min" = some none)
    (z_range : PySem.W.nsIn K mainGlobals "range" = some none)
    (z_set : PySem.W.nsIn K mainGlobals "set" = some none)
    (z_sorted : PySem.W.nsIn K mainGlobals "sorted" = some none)
    (z_str : PySem.W.nsIn K mainGlobals "str" = some none)
    (z_sum : PySem.W.nsIn K mainGlobals "sum" = some none)
    (z_tuple : PySem.W.nsIn K mainGlobals "tuple" = some none)
    (u_GREATEST_AMOUNT : PySem.W.nsIn K mainGlobals "GREATEST_AMOUNT" = some (some (.int 1000000000 t_GREATEST_AMOUNT)))
    (u_GREATEST_PRICE : PySem.W.nsIn K mainGlobals "GREATEST_PRICE" = some (some (.int 1000000000 t_GREATEST_PRICE)))
    (u_LEFT : PySem.W.nsIn K mainGlobals "LEFT" = some (some (.int 4 t_LEFT)))
    (u_LETTERS : PySem.W.nsIn K mainGlobals "LETTERS" = some (some (.str "abcdefghijklmnopqrstuvwxyz" t_LETTERS)))
    (u_LETTERS_AND_FIGURES : PySem.W.nsIn K mainGlobals "LETTERS_AND_FIGURES" = some (some (.str "abcdefghijklmnopqrstuvwxyz0123456789" t_LETTERS_AND_FIGURES)))
    (u_LONGEST_NAME : PySem.W.nsIn K mainGlobals "LONGEST_NAME" = some (some (.int 12 t_LONGEST_NAME)))
    (u_MOST_PEAKS : PySem.W.nsIn K mainGlobals "MOST_PEAKS" = some (some (.int 16 t_MOST_PEAKS)))
    (u_NAME : PySem.W.nsIn K mainGlobals "NAME" = some (some (.int 0 t_NAME)))
    (u_PEAK : PySem.W.nsIn K mainGlobals "PEAK" = some (some (.int 6 t_PEAK)))
    (u_PRICE : PySem.W.nsIn K mainGlobals "PRICE" = some (some (.int 3 t_PRICE)))
    (u_SHOWN : PySem.W.nsIn K mainGlobals "SHOWN" = some (some (.int 5 t_SHOWN)))
    (u_SIDE : PySem.W.nsIn K mainGlobals "SIDE" = some (some (.int 2 t_SIDE)))
    (y_BadName : PySem.W.nsIn K mainGlobals "BadName" = some (some (.ref c_BadName)))
    (y_BadNumber : PySem.W.nsIn K mainGlobals "BadNumber" = some (some (.ref c_BadNumber)))
    (y_BadSide : PySem.W.nsIn K mainGlobals "BadSide" = some (some (.ref c_BadSide)))
    (y_BourseError : PySem.W.nsIn K mainGlobals "BourseError" = some (some (.ref c_BourseError)))
    (y_NoOrder : PySem.W.nsIn K mainGlobals "NoOrder" = some (some (.ref c_NoOrder)))
    (y_Twice : PySem.W.nsIn K mainGlobals "Twice" = some (some (.ref c_Twice)))
    (w_x_BadName : PySem.W.excIn K c_BadName [.type "ValueError", .type "Exception", .type "BaseException", .type "object"] "ValueError.__new__" = true)
    (w_e_BadName : PySem.W.exmOne K (.ref c_BadName) (.ref c_BourseError) = some true)
    (w_i_BadName_BadName : PySem.W.kitOne K (.ref c_BadName) (.ref c_BadName) = some true)
    (w_i_BadName_BadNumber : PySem.W.kitOne K (.ref c_BadName) (.ref c_BadNumber) = some false)
    (w_i_BadName_BadSide : PySem.W.kitOne K (.ref c_BadName) (.ref c_BadSide) = some false)
    (w_i_BadName_BourseError : PySem.W.kitOne K (.ref c_BadName) (.ref c_BourseError) = some true)
    (w_i_BadName_NoOrder : PySem.W.kitOne K (.ref c_BadName) (.ref c_NoOrder) = some false)
    (w_i_BadName_Twice : PySem.W.kitOne K (.ref c_BadName) (.ref c_Twice) = some false)
    (w_x_BadNumber : PySem.W.excIn K c_BadNumber [.type "ValueError", .type "Exception", .type "BaseException", .type "object"] "ValueError.__new__" = true)
    (w_e_BadNumber : PySem.W.exmOne K (.ref c_BadNumber) (.ref c_BourseError) = some true)
    (w_i_BadNumber_BadName : PySem.W.kitOne K (.ref c_BadNumber) (.ref c_BadName) = some false)
    (w_i_BadNumber_BadNumber : PySem.W.kitOne K (.ref c_BadNumber) (.ref c_BadNumber) = some true)
    (w_i_BadNumber_BadSide : PySem.W.kitOne K (.ref c_BadNumber) (.ref c_BadSide) = some false)
    (w_i_BadNumber_BourseError : PySem.W.kitOne K (.ref c_BadNumber) (.ref c_BourseError) = some true)
    (w_i_BadNumber_NoOrder : PySem.W.kitOne K (.ref c_BadNumber) (.ref c_NoOrder) = some false)
    (w_i_BadNumber_Twice : PySem.W.kitOne K (.ref c_BadNumber) (.ref c_Twice) = some false)
    (w_x_BadSide : PySem.W.excIn K c_BadSide [.type "ValueError", .type "Exception", .type "BaseException", .type "object"] "ValueError.__new__" = true)
    (w_e_BadSide : PySem.W.exmOne K (.ref c_BadSide) (.ref c_BourseError) = some true)
    (w_i_BadSide_BadName : PySem.W.kitOne K (.ref c_BadSide) (.ref c_BadName) = some false)
    (w_i_BadSide_BadNumber : PySem.W.kitOne K (.ref c_BadSide) (.ref c_BadNumber) = some false)
    (w_i_BadSide_BadSide : PySem.W.kitOne K (.ref c_BadSide) (.ref c_BadSide) = some true)
    (w_i_BadSide_BourseError : PySem.W.kitOne K (.ref c_BadSide) (.ref c_BourseError) = some true)
    (w_i_BadSide_NoOrder : PySem.W.kitOne K (.ref c_BadSide) (.ref c_NoOrder) = some false)
    (w_i_BadSide_Twice : PySem.W.kitOne K (.ref c_BadSide) (.ref c_Twice) = some false)
    (w_x_NoOrder : PySem.W.excIn K c_NoOrder [.type "ValueError", .type "Exception", .type "BaseException", .type "object"] "ValueError.__new__" = true)
    (w_e_NoOrder : PySem.W.exmOne K (.ref c_NoOrder) (.ref c_BourseError) = some true)
    (w_i_NoOrder_BadName : PySem.W.kitOne K (.ref c_NoOrder) (.ref c_BadName) = some false)
    (w_i_NoOrder_BadNumber : PySem.W.kitOne K (.ref c_NoOrder) (.ref c_BadNumber) = some false)
    (w_i_NoOrder_BadSide : PySem.W.kitOne K (.ref c_NoOrder) (.ref c_BadSide) = some false)
    (w_i_NoOrder_BourseError : PySem.W.kitOne K (.ref c_NoOrder) (.ref c_BourseError) = some true)
    (w_i_NoOrder_NoOrder : PySem.W.kitOne K (.ref c_NoOrder) (.ref c_NoOrder) = some true)
    (w_i_NoOrder_Twice : PySem.W.kitOne K (.ref c_NoOrder) (.ref c_Twice) = some false)
    (w_x_Twice : PySem.W.excIn K c_Twice [.type "ValueError", .type "Exception", .type "BaseException", .type "object"] "ValueError.__new__" = true)
    (w_e_Twice : PySem.W.exmOne K (.ref c_Twice) (.ref c_BourseError) = some true)
    (w_i_Twice_BadName : PySem.W.kitOne K (.ref c_Twice) (.ref c_BadName) = some false)
    (w_i_Twice_BadNumber : PySem.W.kitOne K (.ref c_Twice) (.ref c_BadNumber) = some false)
    (w_i_Twice_BadSide : PySem.W.kitOne K (.ref c_Twice) (.ref c_BadSide) = some false)
    (w_i_Twice_BourseError : PySem.W.kitOne K (.ref c_Twice) (.ref c_BourseError) = some true)
    (w_i_Twice_NoOrder : PySem.W.kitOne K (.ref c_Twice) (.ref c_NoOrder) = some false)
    (w_i_Twice_Twice : PySem.W.kitOne K (.ref c_Twice) (.ref c_Twice) = some true)
    (v_BadName_cls : PySem.W.clsIn K c_BadName = some xc_BadName)
    (v_BadName_ga : PySem.W.findIn K (.ref c_BadName) "__getattribute__" = some (some (.builtin "BaseException.__getattribute__")))
    (v_BadName_gt : PySem.W.findIn K (.ref c_BadName) "__getattr__" = some none)
    (v_BadName_at_ : PySem.W.findIn K (.ref c_BadName) "__class__" = some (some (.builtin "object.__class__")))
    (v_BadName_get : PySem.W.specialIn K (.builtin "object.__class__") "__get__" = some (some (.builtin "getset_descriptor.__get__")))
    (v_BadName_tk : PySem.W.takesIn K (.builtin "object.__class__") = some true)
    (v_BadName_obj : PySem.W.mroIn K c_BadName (.type "object") = some true)
    (v_BadName_exc : PySem.W.mroIn K c_BadName (.type "BaseException") = some true)
    (v_BadNumber_cls : PySem.W.clsIn K c_BadNumber = some xc_BadNumber)
    (v_BadNumber_ga : PySem.W.findIn K (.ref c_BadNumber) "__getattribute__" = some (some (.builtin "BaseException.__getattribute__")))
    (v_BadNumber_gt : PySem.W.findIn K (.ref c_BadNumber) "__getattr__" = some none)
    (v_BadNumber_at_ : PySem.W.findIn K (.ref c_BadNumber) "__class__" = some (some (.builtin "object.__class__")))
    (v_BadNumber_get : PySem.W.specialIn K (.builtin "object.__class__") "__get__" = some (some (.builtin "getset_descriptor.__get__")))
    (v_BadNumber_tk : PySem.W.takesIn K (.builtin "object.__class__") = some true)
    (v_BadNumber_obj : PySem.W.mroIn K c_BadNumber (.type "object") = some true)
    (v_BadNumber_exc : PySem.W.mroIn K c_BadNumber (.type "BaseException") = some true)
    (v_BadSide_cls : PySem.W.clsIn K c_BadSide = some xc_BadSide)
    (v_BadSide_ga : PySem.W.findIn K (.ref c_BadSide) "__getattribute__" = some (some (.builtin "BaseException.__getattribute__")))
    (v_BadSide_gt : PySem.W.findIn K (.ref c_BadSide) "__getattr__" = some none)
    (v_BadSide_at_ : PySem.W.findIn K (.ref c_BadSide) "__class__" = some (some (.builtin "object.__class__")))
    (v_BadSide_get : PySem.W.specialIn K (.builtin "object.__class__") "__get__" = some (some (.builtin "getset_descriptor.__get__")))
    (v_BadSide_tk : PySem.W.takesIn K (.builtin "object.__class__") = some true)
    (v_BadSide_obj : PySem.W.mroIn K c_BadSide (.type "object") = some true)
    (v_BadSide_exc : PySem.W.mroIn K c_BadSide (.type "BaseException") = some true)
    (v_NoOrder_cls : PySem.W.clsIn K c_NoOrder = some xc_NoOrder)
    (v_NoOrder_ga : PySem.W.findIn K (.ref c_NoOrder) "__getattribute__" = some (some (.builtin "BaseException.__getattribute__")))
    (v_NoOrder_gt : PySem.W.findIn K (.ref c_NoOrder) "__getattr__" = some none)
    (v_NoOrder_at_ : PySem.W.findIn K (.ref c_NoOrder) "__class__" = some (some (.builtin "object.__class__")))
    (v_NoOrder_get : PySem.W.specialIn K (.builtin "object.__class__") "__get__" = some (some (.builtin "getset_descriptor.__get__")))
    (v_NoOrder_tk : PySem.W.takesIn K (.builtin "object.__class__") = some true)
    (v_NoOrder_obj : PySem.W.mroIn K c_NoOrder (.type "object") = some true)
    (v_NoOrder_exc : PySem.W.mroIn K c_NoOrder (.type "BaseException") = some true)
    (v_Twice_cls : PySem.W.clsIn K c_Twice = some xc_Twice)
    (v_Twice_ga : PySem.W.findIn K (.ref c_Twice) "__getattribute__" = some (some (.builtin "BaseException.__getattribute__")))
    (v_Twice_gt : PySem.W.findIn K (.ref c_Twice) "__getattr__" = some none)
    (v_Twice_at_ : PySem.W.findIn K (.ref c_Twice) "__class__" = some (some (.builtin "object.__class__")))
    (v_Twice_get : PySem.W.specialIn K (.builtin "object.__class__") "__get__" = some (some (.builtin "getset_descriptor.__get__")))
    (v_Twice_tk : PySem.W.takesIn K (.builtin "object.__class__") = some true)
    (v_Twice_obj : PySem.W.mroIn K c_Twice (.type "object") = some true)
    (v_Twice_exc : PySem.W.mroIn K c_Twice (.type "BaseException") = some true)
    : ∃ fd : FuncData, (∀ (s : Shared) (v : Value), BindsTo s fd ⟨[v], []⟩ [("script", v)]) ∧ ∀ base : Heap, K.In base → base.Ns mainGlobals mg → FnOk l.prog w K mg base CX0 6 fa fd ["script"] (sp_law K) := by
  have e := hfa.symm.trans (PySem.W.mg_of X G a_law)
  cases e
  have B : Bl mg := ⟨PySem.W.mg_none_of X G z_all, PySem.W.mg_none_of X G z_any, PySem.W.mg_none_of X G z_bool, PySem.W.mg_none_of X G z_int, PySem.W.mg_none_of X G z_isinstance, PySem.W.mg_none_of X G z_len, PySem.W.mg_none_of X G z_list, PySem.W.mg_none_of X G z_min, PySem.W.mg_none_of X G z_range, PySem.W.mg_none_of X G z_set, PySem.W.mg_none_of X G z_sorted, PySem.W.mg_none_of X G z_str, PySem.W.mg_none_of X G z_sum, PySem.W.mg_none_of X G z_tuple⟩
  let C : Co mg := ⟨_, _, _, _, _, _, _, _, _, _, _, _, PySem.W.mg_of X G u_GREATEST_AMOUNT, PySem.W.mg_of X G u_GREATEST_PRICE, PySem.W.mg_of X G u_LEFT, PySem.W.mg_of X G u_LETTERS, PySem.W.mg_of X G u_LETTERS_AND_FIGURES, PySem.W.mg_of X G u_LONGEST_NAME, PySem.W.mg_of X G u_MOST_PEAKS, PySem.W.mg_of X G u_NAME, PySem.W.mg_of X G u_PEAK, PySem.W.mg_of X G u_PRICE, PySem.W.mg_of X G u_SHOWN, PySem.W.mg_of X G u_SIDE⟩
  let R : Er K mg := ⟨c_BadName, c_BadNumber, c_BadSide, c_BourseError, c_NoOrder, c_Twice, PySem.W.mg_of X G y_BadName, PySem.W.mg_of X G y_BadNumber, PySem.W.mg_of X G y_BadSide, PySem.W.mg_of X G y_BourseError, PySem.W.mg_of X G y_NoOrder, PySem.W.mg_of X G y_Twice, w_x_BadName, w_e_BadName, w_i_BadName_BadName, w_i_BadName_BadNumber, w_i_BadName_BadSide, w_i_BadName_BourseError, w_i_BadName_NoOrder, w_i_BadName_Twice, w_x_BadNumber, w_e_BadNumber, w_i_BadNumber_BadName, w_i_BadNumber_BadNumber, w_i_BadNumber_BadSide, w_i_BadNumber_BourseError, w_i_BadNumber_NoOrder, w_i_BadNumber_Twice, w_x_BadSide, w_e_BadSide, w_i_BadSide_BadName, w_i_BadSide_BadNumber, w_i_BadSide_BadSide, w_i_BadSide_BourseError, w_i_BadSide_NoOrder, w_i_BadSide_Twice, w_x_NoOrder, w_e_NoOrder, w_i_NoOrder_BadName, w_i_NoOrder_BadNumber, w_i_NoOrder_BadSide, w_i_NoOrder_BourseError, w_i_NoOrder_NoOrder, w_i_NoOrder_Twice, w_x_Twice, w_e_Twice, w_i_Twice_BadName, w_i_Twice_BadNumber, w_i_Twice_BadSide, w_i_Twice_BourseError, w_i_Twice_NoOrder, w_i_Twice_Twice, ⟨(by rw [v_BadName_cls]; rfl), v_BadName_ga, v_BadName_gt, v_BadName_at_, v_BadName_get, v_BadName_tk, v_BadName_obj, v_BadName_exc⟩, ⟨(by rw [v_BadNumber_cls]; rfl), v_BadNumber_ga, v_BadNumber_gt, v_BadNumber_at_, v_BadNumber_get, v_BadNumber_tk, v_BadNumber_obj, v_BadNumber_exc⟩, ⟨(by rw [v_BadSide_cls]; rfl), v_BadSide_ga, v_BadSide_gt, v_BadSide_at_, v_BadSide_get, v_BadSide_tk, v_BadSide_obj, v_BadSide_exc⟩, ⟨(by rw [v_NoOrder_cls]; rfl), v_NoOrder_ga, v_NoOrder_gt, v_NoOrder_at_, v_NoOrder_get, v_NoOrder_tk, v_NoOrder_obj, v_NoOrder_exc⟩, ⟨(by rw [v_Twice_cls]; rfl), v_Twice_ga, v_Twice_gt, v_Twice_at_, v_Twice_get, v_Twice_tk, v_Twice_obj, v_Twice_exc⟩⟩
  let d_is_name : Dv K mg "is_name" (top 13) ["text"] := ⟨f_is_name, _, fun_mk (st := top 13) l_is_name q_is_name k_is_name, (fun_mk (st := top 13) l_is_name q_is_name k_is_name).binds fun _ _ _ _ _ _ us hl => ln1 us (fun _ => rfl) hl, PySem.W.mg_of X G a_is_name⟩
  let d_checked_name : Dv K mg "checked_name" (top 14) ["text"] := ⟨f_checked_name, _, fun_mk (st := top 14) l_checked_name q_checked_name k_checked_name, (fun_mk (st := top 14) l_checked_name q_checked_name k_checked_name).binds fun _ _ _ _ _ _ us hl => ln1 us (fun _ => rfl) hl, PySem.W.mg_of X G a_checked_name⟩
  let d_checked_number : Dv K mg "checked_number" (top 15) ["number", "low", "high"] := ⟨f_checked_number, _, fun_mk (st := top 15) l_checked_number q_checked_number k_checked_number, (fun_mk (st := top 15) l_checked_number q_checked_number k_checked_number).binds fun _ _ _ _ _ _ us hl => ln3 us (fun _ _ _ => rfl) hl, PySem.W.mg_of X G a_checked_number⟩
  let d_checked_price : Dv K mg "checked_price" (top 16) ["price"] := ⟨f_checked_price, _, fun_mk (st := top 16) l_checked_price q_checked_price k_checked_price, (fun_mk (st := top 16) l_checked_price q_checked_price k_checked_price).binds fun _ _ _ _ _ _ us hl => ln1 us (fun _ => rfl) hl, PySem.W.mg_of X G a_checked_price⟩
  let d_checked_amount : Dv K mg "checked_amount" (top 17) ["amount"] := ⟨f_checked_amount, _, fun_mk (st := top 17) l_checked_amount q_checked_amount k_checked_amount, (fun_mk (st := top 17) l_checked_amount q_checked_amount k_checked_amount).binds fun _ _ _ _ _ _ us hl => ln1 us (fun _ => rfl) hl, PySem.W.mg_of X G a_checked_amount⟩
  let d_checked_side : Dv K mg "checked_side" (top 18) ["side"] := ⟨f_checked_side, _, fun_mk (st := top 18) l_checked_side q_checked_side k_checked_side, (fun_mk (st := top 18) l_checked_side q_checked_side k_checked_side).binds fun _ _ _ _ _ _ us hl => ln1 us (fun _ => rfl) hl, PySem.W.mg_of X G a_checked_side⟩
  let d_checked_peak : Dv K mg "checked_peak" (top 33) ["peak", "amount"] := ⟨f_checked_peak, _, fun_mk (st := top 33) l_checked_peak q_checked_peak k_checked_peak, (fun_mk (st := top 33) l_checked_peak q_checked_peak k_checked_peak).binds fun _ _ _ _ _ _ us hl => ln2 us (fun _ _ => rfl) hl, PySem.W.mg_of X G a_checked_peak⟩
  let d_shown_anew : Dv K mg "shown_anew" (top 34) ["left", "peak"] := ⟨f_shown_anew, _, fun_mk (st := top 34) l_shown_anew q_shown_anew k_shown_anew, (fun_mk (st := top 34) l_shown_anew q_shown_anew k_shown_anew).binds fun _ _ _ _ _ _ us hl => ln2 us (fun _ _ => rfl) hl, PySem.W.mg_of X G a_shown_anew⟩
  let d_made : DvD K mg "made" (top 27) ["name", "who", "side", "price", "amount", "peak"] [.int 0] := ⟨f_made, _, _, [.int 0 dk_made_0], fun_mkD (st := top 27) l_made q_made k_made, fun _ us KX hl => (fun (hx : us.length = 6) => ln6 us (fun _ _ _ _ _ _ => .of_defaults rfl (KX _ _ dl_made) rfl rfl rfl) hx) (by simpa using hl), fun _ us KX hl => (fun (hx : us.length = 5) => ln5 us (fun _ _ _ _ _ => .of_defaults rfl (KX _ _ dl_made) rfl rfl rfl) hx) (by simpa using hl), .cons ⟨_, rfl⟩ .nil, PySem.W.mg_of X G a_made⟩
  let d_with_parts : Dv K mg "with_parts" (top 35) ["order", "left", "shown"] := ⟨f_with_parts, _, fun_mk (st := top 35) l_with_parts q_with_parts k_with_parts, (fun_mk (st := top 35) l_with_parts q_with_parts k_with_parts).binds fun _ _ _ _ _ _ us hl => ln3 us (fun _ _ _ => rfl) hl, PySem.W.mg_of X G a_with_parts⟩
  let d_fresh : Dv K mg "fresh" (top 28) ["order", "left"] := ⟨f_fresh, _, fun_mk (st := top 28) l_fresh q_fresh k_fresh, (fun_mk (st := top 28) l_fresh q_fresh k_fresh).binds fun _ _ _ _ _ _ us hl => ln2 us (fun _ _ => rfl) hl, PySem.W.mg_of X G a_fresh⟩
  let d_renews : Dv K mg "renews" (top 30) ["order", "amount"] := ⟨f_renews, _, fun_mk (st := top 30) l_renews q_renews k_renews, (fun_mk (st := top 30) l_renews q_renews k_renews).binds fun _ _ _ _ _ _ us hl => ln2 us (fun _ _ => rfl) hl, PySem.W.mg_of X G a_renews⟩
  let d_filled : Dv K mg "filled" (top 29) ["order", "amount"] := ⟨f_filled, _, fun_mk (st := top 29) l_filled q_filled k_filled, (fun_mk (st := top 29) l_filled q_filled k_filled).binds fun _ _ _ _ _ _ us hl => ln2 us (fun _ _ => rfl) hl, PySem.W.mg_of X G a_filled⟩
  let d_lessened : Dv K mg "lessened" (top 31) ["order", "left"] := ⟨f_lessened, _, fun_mk (st := top 31) l_lessened q_lessened k_lessened, (fun_mk (st := top 31) l_lessened q_lessened k_lessened).binds fun _ _ _ _ _ _ us hl => ln2 us (fun _ _ => rfl) hl, PySem.W.mg_of X G a_lessened⟩
  let d_ahead : Dv K mg "ahead" (top 32) ["side", "price", "other"] := ⟨f_ahead, _, fun_mk (st := top 32) l_ahead q_ahead k_ahead, (fun_mk (st := top 32) l_ahead q_ahead k_ahead).binds fun _ _ _ _ _ _ us hl => ln3 us (fun _ _ _ => rfl) hl, PySem.W.mg_of X G a_ahead⟩
  let d_names_of : Dv K mg "names_of" (top 44) ["orders"] := ⟨f_names_of, _, fun_mk (st := top 44) l_names_of q_names_of k_names_of, (fun_mk (st := top 44) l_names_of q_names_of k_names_of).binds fun _ _ _ _ _ _ us hl => ln1 us (fun _ => rfl) hl, PySem.W.mg_of X G a_names_of⟩
  let d_joining_place : Dv K mg "joining_place" (top 45) ["line", "order"] := ⟨f_joining_place, _, fun_mk (st := top 45) l_joining_place q_joining_place k_joining_place, (fun_mk (st := top 45) l_joining_place q_joining_place k_joining_place).binds fun _ _ _ _ _ _ us hl => ln2 us (fun _ _ => rfl) hl, PySem.W.mg_of X G a_joining_place⟩
  let d_joined : Dv K mg "joined" (top 37) ["line", "order"] := ⟨f_joined, _, fun_mk (st := top 37) l_joined q_joined k_joined, (fun_mk (st := top 37) l_joined q_joined k_joined).binds fun _ _ _ _ _ _ us hl => ln2 us (fun _ _ => rfl) hl, PySem.W.mg_of X G a_joined⟩
  let d_place_of : Dv K mg "place_of" (top 38) ["line", "name"] := ⟨f_place_of, _, fun_mk (st := top 38) l_place_of q_place_of k_place_of, (fun_mk (st := top 38) l_place_of q_place_of k_place_of).binds fun _ _ _ _ _ _ us hl => ln2 us (fun _ _ => rfl) hl, PySem.W.mg_of X G a_place_of⟩
  let d_without : Dv K mg "without" (top 39) ["line", "name"] := ⟨f_without, _, fun_mk (st := top 39) l_without q_without k_without, (fun_mk (st := top 39) l_without q_without k_without).binds fun _ _ _ _ _ _ us hl => ln2 us (fun _ _ => rfl) hl, PySem.W.mg_of X G a_without⟩
  let d_with_less : Dv K mg "with_less" (top 40) ["line", "name", "left"] := ⟨f_with_less, _, fun_mk (st := top 40) l_with_less q_with_less k_with_less, (fun_mk (st := top 40) l_with_less q_with_less k_with_less).binds fun _ _ _ _ _ _ us hl => ln3 us (fun _ _ _ => rfl) hl, PySem.W.mg_of X G a_with_less⟩
  let d_served : Dv K mg "served" (top 41) ["line", "amount"] := ⟨f_served, _, fun_mk (st := top 41) l_served q_served k_served, (fun_mk (st := top 41) l_served q_served k_served).binds fun _ _ _ _ _ _ us hl => ln2 us (fun _ _ => rfl) hl, PySem.W.mg_of X G a_served⟩
  let d__law_cell_at : Dv K mg "_law_cell_at" (top 48) ["script", "k"] := ⟨f__law_cell_at, _, fun_mk (st := top 48) l__law_cell_at q__law_cell_at k__law_cell_at, (fun_mk (st := top 48) l__law_cell_at q__law_cell_at k__law_cell_at).binds fun _ _ _ _ _ _ us hl => ln2 us (fun _ _ => rfl) hl, PySem.W.mg_of X G a__law_cell_at⟩
  let d__law_whole : Dv K mg "_law_whole" (top 49) ["found"] := ⟨f__law_whole, _, fun_mk (st := top 49) l__law_whole q__law_whole k__law_whole, (fun_mk (st := top 49) l__law_whole q__law_whole k__law_whole).binds fun _ _ _ _ _ _ us hl => ln1 us (fun _ => rfl) hl, PySem.W.mg_of X G a__law_whole⟩
  let d__law_alike : Dv K mg "_law_alike" (top 50) ["found", "due"] := ⟨f__law_alike, _, fun_mk (st := top 50) l__law_alike q__law_alike k__law_alike, (fun_mk (st := top 50) l__law_alike q__law_alike k__law_alike).binds fun _ _ _ _ _ _ us hl => ln2 us (fun _ _ => rfl) hl, PySem.W.mg_of X G a__law_alike⟩
  let d__law_line_alike : Dv K mg "_law_line_alike" (top 51) ["found", "due"] := ⟨f__law_line_alike, _, fun_mk (st := top 51) l__law_line_alike q__law_line_alike k__law_line_alike, (fun_mk (st := top 51) l__law_line_alike q__law_line_alike k__law_line_alike).binds fun _ _ _ _ _ _ us hl => ln2 us (fun _ _ => rfl) hl, PySem.W.mg_of X G a__law_line_alike⟩
  let d__law_name_of : Dv K mg "_law_name_of" (top 52) ["k", "how"] := ⟨f__law_name_of, _, fun_mk (st := top 52) l__law_name_of q__law_name_of k__law_name_of, (fun_mk (st := top 52) l__law_name_of q__law_name_of k__law_name_of).binds fun _ _ _ _ _ _ us hl => ln2 us (fun _ _ => rfl) hl, PySem.W.mg_of X G a__law_name_of⟩
  let d__law_peak_by : Dv K mg "_law_peak_by" (top 53) ["cell", "amount"] := ⟨f__law_peak_by, _, fun_mk (st := top 53) l__law_peak_by q__law_peak_by k__law_peak_by, (fun_mk (st := top 53) l__law_peak_by q__law_peak_by k__law_peak_by).binds fun _ _ _ _ _ _ us hl => ln2 us (fun _ _ => rfl) hl, PySem.W.mg_of X G a__law_peak_by⟩
  let d__law_order_by : Dv K mg "_law_order_by" (top 54) ["script", "at", "k", "side"] := ⟨f__law_order_by, _, fun_mk (st := top 54) l__law_order_by q__law_order_by k__law_order_by, (fun_mk (st := top 54) l__law_order_by q__law_order_by k__law_order_by).binds fun _ _ _ _ _ _ us hl => ln4 us (fun _ _ _ _ => rfl) hl, PySem.W.mg_of X G a__law_order_by⟩
  let d_total : Dv K mg "total" (top 42) ["line"] := ⟨f_total, _, fun_mk (st := top 42) l_total q_total k_total, (fun_mk (st := top 42) l_total q_total k_total).binds fun _ _ _ _ _ _ us hl => ln1 us (fun _ => rfl) hl, PySem.W.mg_of X G a_total⟩
  let d_prices_in_order : Dv K mg "prices_in_order" (top 46) ["prices", "side"] := ⟨f_prices_in_order, _, fun_mk (st := top 46) l_prices_in_order q_prices_in_order k_prices_in_order, (fun_mk (st := top 46) l_prices_in_order q_prices_in_order k_prices_in_order).binds fun _ _ _ _ _ _ us hl => ln2 us (fun _ _ => rfl) hl, PySem.W.mg_of X G a_prices_in_order⟩
  let d_is_line : Dv K mg "is_line" (top 43) ["orders", "side"] := ⟨f_is_line, _, fun_mk (st := top 43) l_is_line q_is_line k_is_line, (fun_mk (st := top 43) l_is_line q_is_line k_is_line).binds fun _ _ _ _ _ _ us hl => ln2 us (fun _ _ => rfl) hl, PySem.W.mg_of X G a_is_line⟩
  let d__law_lines_up : Dv K mg "_law_lines_up" (top 56) ["line", "book", "side"] := ⟨f__law_lines_up, _, fun_mk (st := top 56) l__law_lines_up q__law_lines_up k__law_lines_up, (fun_mk (st := top 56) l__law_lines_up q__law_lines_up k__law_lines_up).binds fun _ _ _ _ _ _ us hl => ln3 us (fun _ _ _ => rfl) hl, PySem.W.mg_of X G a__law_lines_up⟩
  let d__law_serve_in : Dv K mg "_law_serve_in" (top 57) ["book", "name", "amount", "now"] := ⟨f__law_serve_in, _, fun_mk (st := top 57) l__law_serve_in q__law_serve_in k__law_serve_in, (fun_mk (st := top 57) l__law_serve_in q__law_serve_in k__law_serve_in).binds fun _ _ _ _ _ _ us hl => ln4 us (fun _ _ _ _ => rfl) hl, PySem.W.mg_of X G a__law_serve_in⟩
  let d__law_deed_in : Dv K mg "_law_deed_in" (top 58) ["way", "book", "order", "name", "number", "now"] := ⟨f__law_deed_in, _, fun_mk (st := top 58) l__law_deed_in q__law_deed_in k__law_deed_in, (fun_mk (st := top 58) l__law_deed_in q__law_deed_in k__law_deed_in).binds fun _ _ _ _ _ _ us hl => ln6 us (fun _ _ _ _ _ _ => rfl) hl, PySem.W.mg_of X G a__law_deed_in⟩
  let d__law_number_by : Dv K mg "_law_number_by" (top 59) ["way", "line", "book", "name", "more"] := ⟨f__law_number_by, _, fun_mk (st := top 59) l__law_number_by q__law_number_by k__law_number_by, (fun_mk (st := top 59) l__law_number_by q__law_number_by k__law_number_by).binds fun _ _ _ _ _ _ us hl => ln5 us (fun _ _ _ _ _ => rfl) hl, PySem.W.mg_of X G a__law_number_by⟩
  let d__law_tried : Dv K mg "_law_tried" (top 55) ["way", "line", "order", "name", "number"] := ⟨f__law_tried, _, fun_mk (st := top 55) l__law_tried q__law_tried k__law_tried, (fun_mk (st := top 55) l__law_tried q__law_tried k__law_tried).binds fun _ _ _ _ _ _ us hl => ln5 us (fun _ _ _ _ _ => rfl) hl, PySem.W.mg_of X G a__law_tried⟩
  let d_law : Dv K mg "law" (top 60) ["script"] := ⟨_, _, fun_mk (st := top 60) l_law q_law k_law, (fun_mk (st := top 60) l_law q_law k_law).binds fun _ _ _ _ _ _ us hl => ln1 us (fun _ => rfl) hl, PySem.W.mg_of X G a_law⟩
  refine ⟨d_law.fd, fun s v => .of_eq rfl, fun base _ _ => ?_⟩
  have G_is_name := ok_is_name (P := l.prog) (w := w) (base := base) d_is_name B C R
  have G_checked_name := ok_checked_name (P := l.prog) (w := w) (base := base) d_checked_name B C R d_is_name G_is_name
  have G_checked_number := ok_checked_number (P := l.prog) (w := w) (base := base) d_checked_number B C R
  have G_checked_price := ok_checked_price (P := l.prog) (w := w) (base := base) d_checked_price B C R d_checked_number G_checked_number
  have G_checked_amount := ok_checked_amount (P := l.prog) (w := w) (base := base) d_checked_amount B C R d_checked_number G_checked_number
  have G_checked_side := ok_checked_side (P := l.prog) (w := w) (base := base) d_checked_side B C R
  have G_checked_peak := ok_checked_peak (P := l.prog) (w := w) (base := base) d_checked_peak B C R d_checked_number G_checked_number
  have G_shown_anew := ok_shown_anew (P := l.prog) (w := w) (base := base) d_shown_anew B C R
  have G_made := ok_made (P := l.prog) (w := w) (base := base) d_made B C R d_checked_name G_checked_name d_checked_side G_checked_side d_checked_price G_checked_price d_checked_amount G_checked_amount d_checked_peak G_checked_peak d_shown_anew G_shown_anew
  have G_with_parts := ok_with_parts (P := l.prog) (w := w) (base := base) d_with_parts B C R
  have G_fresh := ok_fresh (P := l.prog) (w := w) (base := base) d_fresh B C R d_with_parts G_with_parts d_shown_anew G_shown_anew
  have G_renews := ok_renews (P := l.prog) (w := w) (base := base) d_renews B C R
  have G_filled := ok_filled (P := l.prog) (w := w) (base := base) d_filled B C R d_checked_number G_checked_number d_renews G_renews d_fresh G_fresh d_with_parts G_with_parts
  have G_lessened := ok_lessened (P := l.prog) (w := w) (base := base) d_lessened B C R d_checked_number G_checked_number d_with_parts G_with_parts
  have G_ahead := ok_ahead (P := l.prog) (w := w) (base := base) d_ahead B C R
  have G_names_of := ok_names_of (P := l.prog) (w := w) (base := base) d_names_of B C R
  have G_joining_place := ok_joining_place (P := l.prog) (w := w) (base := base) d_joining_place B C R d_ahead G_ahead
  have G_joined := ok_joined (P := l.prog) (w := w) (base := base) d_joined B C R d_names_of G_names_of d_joining_place G_joining_place
  have G_place_of := ok_place_of (P := l.prog) (w := w) (base := base) d_place_of B C R
  have G_without := ok_without (P := l.prog) (w := w) (base := base) d_without B C R d_place_of G_place_of
  have G_with_less := ok_with_less (P := l.prog) (w := w) (base := base) d_with_less B C R d_place_of G_place_of d_lessened G_lessened
  have G_served := ok_served (P := l.prog) (w := w) (base := base) d_served B C R d_filled G_filled d_renews G_renews d_joined G_joined
  have G__law_cell_at := ok__law_cell_at (P := l.prog) (w := w) (base := base) d__law_cell_at B C R
  have G__law_whole := ok__law_whole (P := l.prog) (w := w) (base := base) d__law_whole B C R
  have G__law_alike := ok__law_alike (P := l.prog) (w := w) (base := base) d__law_alike B C R d__law_whole G__law_whole
  have G__law_line_alike := ok__law_line_alike (P := l.prog) (w := w) (base := base) d__law_line_alike B C R d__law_alike G__law_alike
  have G__law_name_of := ok__law_name_of (P := l.prog) (w := w) (base := base) d__law_name_of B C R
  have G__law_peak_by := ok__law_peak_by (P := l.prog) (w := w) (base := base) d__law_peak_by B C R
  have G__law_order_by := ok__law_order_by (P := l.prog) (w := w) (base := base) d__law_order_by B C R d__law_cell_at G__law_cell_at d_made G_made d__law_peak_by G__law_peak_by d__law_name_of G__law_name_of
  have G_total := ok_total (P := l.prog) (w := w) (base := base) d_total B C R
  have G_prices_in_order := ok_prices_in_order (P := l.prog) (w := w) (base := base) d_prices_in_order B C R d_ahead G_ahead
  have G_is_line := ok_is_line (P := l.prog) (w := w) (base := base) d_is_line B C R d_names_of G_names_of d_prices_in_order G_prices_in_order
  have G__law_lines_up := ok__law_lines_up (P := l.prog) (w := w) (base := base) d__law_lines_up B C R d_is_line G_is_line d__law_line_alike G__law_line_alike
  have G__law_serve_in := ok__law_serve_in (P := l.prog) (w := w) (base := base) d__law_serve_in B C R
  have G__law_deed_in := ok__law_deed_in (P := l.prog) (w := w) (base := base) d__law_deed_in B C R d__law_serve_in G__law_serve_in
  have G__law_number_by := ok__law_number_by (P := l.prog) (w := w) (base := base) d__law_number_by B C R
  have G__law_tried := ok__law_tried (P := l.prog) (w := w) (base := base) d__law_tried B C R d_joined G_joined d_served G_served d_without G_without d_with_less G_with_less
  exact ok_law d_law B C R d__law_cell_at G__law_cell_at d__law_order_by G__law_order_by d__law_number_by G__law_number_by d__law_tried G__law_tried d__law_line_alike G__law_line_alike d__law_deed_in G__law_deed_in d__law_lines_up G__law_lines_up d_total G_total
theorem walk {l : PySem.W.OpenLaw} {q : Program} {loose : List Str} {XP : (Str → Option Value) → Heap → Prop} {YP : World → Heap → Prop} {d : DefRec} {K : Params → PySem.W.Frag} (hn : l.most = some 63) (hdf : d.params.defaults = [])
    (hY : ∀ (w : World) (h : Heap), YP w h → (K w.params).In h)
    (F : ∀ (w : World) (mg : Str → Option Value) (fa : Addr) (h : Heap), (K w.params).In h → h.Ns mainGlobals mg → mg d.name = some (.ref fa) →
      ∃ fd : FuncData, (∀ (s : Shared) (u : Value), BindsTo s fd ⟨[u], []⟩ [("script", u)]) ∧ ∀ base : Heap, (K w.params).In base → base.Ns mainGlobals mg → FnOk l.prog w (K w.params) mg base CX0 6 fa fd ["script"] (sp_law (K w.params))) :
    PySem.W.WalkO q loose XP YP l.row.toRowW d [] (fun f vs => PySem.call f vs) :=
  L2.walk_of (n := 63) (k := 6) (x := "script") (CX := fun _ => CX0) (sp := fun w => sp_law (K w.params)) hn (by decide) hdf ⟨rfl, by decide, by decide⟩ hY F (fun _ _ a ns hl _ hS => ⟨a, ns, rfl, hS, hl, fun _ => rfl⟩) fun _ _ _ _ _ z => z
end K15
open PySem PySem.W PyProof.Rows
set_option maxRecDepth 100000 in
set_option maxHeartbeats 0 in
theorem PySem.Challenge.cw_bellbook_k15_whole_line_first_come_holds : PySem.Challenge.rw_bellbook_k15_whole_line_first_come.Holds := by
  w_on; o_law; k_head; (case hw => w_witness2)
  k_fill
  refine K15.walk (l := PySem.Challenge.rw_bellbook_k15_whole_line_first_come) rfl rfl (fun w h Y => PySem.W.kIn_of Y) ?F
  case F =>
    intro w mg fa h KX G hmg
    refine' K15.all_mk KX G hmg ?a_is_name ?l_is_name ?q_is_name ?k_is_name ?a_checked_name ?l_checked_name ?q_checked_name ?k_checked_name ?a_checked_number ?l_checked_number ?q_checked_number ?k_checked_number ?a_checked_price ?l_checked_price ?q_checked_price ?k_checked_price ?a_checked_amount ?l_checked_amount ?q_checked_amount ?k_checked_amount ?a_checked_side ?l_checked_side ?q_checked_side ?k_checked_side ?a_checked_peak ?l_checked_peak ?q_checked_peak ?k_checked_peak ?a_shown_anew ?l_shown_anew ?q_shown_anew ?k_shown_anew ?a_made ?l_made ?dl_made ?q_made ?k_made ?a_with_parts ?l_with_parts ?q_with_parts ?k_with_parts ?a_fresh ?l_fresh ?q_fresh ?k_fresh ?a_renews ?l_renews ?q_renews ?k_renews ?a_filled ?l_filled ?q_filled ?k_filled ?a_lessened ?l_lessened ?q_lessened ?k_lessened ?a_ahead ?l_ahead ?q_ahead ?k_ahead ?a_names_of ?l_names_of ?q_names_of ?k_names_of ?a_joining_place ?l_joining_place ?q_joining_place ?k_joining_place ?a_joined ?l_joined ?q_joined ?k_joined ?a_place_of ?l_place_of ?q_place_of ?k_place_of ?a_without ?l_without ?q_without ?k_without ?a_with_less ?l_with_less ?q_with_less ?k_with_less ?a_served ?l_served ?q_served ?k_served ?a__law_cell_at ?l__law_cell_at ?q__law_cell_at ?k__law_cell_at ?a__law_whole ?l__law_whole ?q__law_whole ?k__law_whole ?a__law_alike ?l__law_alike ?q__law_alike ?k__law_alike ?a__law_line_alike ?l__law_line_alike ?q__law_line_alike ?k__law_line_alike ?a__law_name_of ?l__law_name_of ?q__law_name_of ?k__law_name_of ?a__law_peak_by ?l__law_peak_by ?q__law_peak_by ?k__law_peak_by ?a__law_order_by ?l__law_order_by ?q__law_order_by ?k__law_order_by ?a_total ?l_total ?q_total ?k_total ?a_prices_in_order ?l_prices_in_order ?q_prices_in_order ?k_prices_in_order ?a_is_line ?l_is_line ?q_is_line ?k_is_line ?a__law_lines_up ?l__law_lines_up ?q__law_lines_up ?k__law_lines_up ?a__law_serve_in ?l__law_serve_in ?q__law_serve_in ?k__law_serve_in ?a__law_deed_in ?l__law_deed_in ?q__law_deed_in ?k__law_deed_in ?a__law_number_by ?l__law_number_by ?q__law_number_by ?k__law_number_by ?a__law_tried ?l__law_tried ?q__law_tried ?k__law_tried ?a_law ?l_law ?q_law ?k_law ?z_all ?z_any ?z_bool ?z_int ?z_isinstance ?z_len ?z_list ?z_min ?z_range ?z_set ?z_sorted ?z_str ?z_sum ?z_tuple ?u_GREATEST_AMOUNT ?u_GREATEST_PRICE ?u_LEFT ?u_LETTERS ?u_LETTERS_AND_FIGURES ?u_LONGEST_NAME ?u_MOST_PEAKS ?u_NAME ?u_PEAK ?u_PRICE ?u_SHOWN ?u_SIDE ?y_BadName ?y_BadNumber ?y_BadSide ?y_BourseError ?y_NoOrder ?y_Twice ?w_x_BadName ?w_e_BadName ?w_i_BadName_BadName ?w_i_BadName_BadNumber ?w_i_BadName_BadSide ?w_i_BadName_BourseError ?w_i_BadName_NoOrder ?w_i_BadName_Twice ?w_x_BadNumber ?w_e_BadNumber ?w_i_BadNumber_BadName ?w_i_BadNumber_BadNumber ?w_i_BadNumber_BadSide ?w_i_BadNumber_BourseError ?w_i_BadNumber_NoOrder ?w_i_BadNumber_Twice ?w_x_BadSide ?w_e_BadSide ?w_i_BadSide_BadName ?w_i_BadSide_BadNumber ?w_i_BadSide_BadSide ?w_i_BadSide_BourseError ?w_i_BadSide_NoOrder ?w_i_BadSide_Twice ?w_x_NoOrder ?w_e_NoOrder ?w_i_NoOrder_BadName ?w_i_NoOrder_BadNumber ?w_i_NoOrder_BadSide ?w_i_NoOrder_BourseError ?w_i_NoOrder_NoOrder ?w_i_NoOrder_Twice ?w_x_Twice ?w_e_Twice ?w_i_Twice_BadName ?w_i_Twice_BadNumber ?w_i_Twice_BadSide ?w_i_Twice_BourseError ?w_i_Twice_NoOrder ?w_i_Twice_Twice ?v_BadName_cls ?v_BadName_ga ?v_BadName_gt ?v_BadName_at_ ?v_BadName_get ?v_BadName_tk ?v_BadName_obj ?v_BadName_exc ?v_BadNumber_cls ?v_BadNumber_ga ?v_BadNumber_gt ?v_BadNumber_at_ ?v_BadNumber_get ?v_BadNumber_tk ?v_BadNumber_obj ?v_BadNumber_exc ?v_BadSide_cls ?v_BadSide_ga ?v_BadSide_gt ?v_BadSide_at_ ?v_BadSide_get ?v_BadSide_tk ?v_BadSide_obj ?v_BadSide_exc ?v_NoOrder_cls ?v_NoOrder_ga ?v_NoOrder_gt ?v_NoOrder_at_ ?v_NoOrder_get ?v_NoOrder_tk ?v_NoOrder_obj ?v_NoOrder_exc ?v_Twice_cls ?v_Twice_ga ?v_Twice_gt ?v_Twice_at_ ?v_Twice_get ?v_Twice_tk ?v_Twice_obj ?v_Twice_exc
    (case a_is_name => k_is)
    (case l_is_name => k_is)
    (case q_is_name => k_is)
    (case k_is_name => k_is)
    (case a_checked_name => k_is)
    (case l_checked_name => k_is)
    (case q_checked_name => k_is)
    (case k_checked_name => k_is)
    (case a_checked_number => k_is)
    (case l_checked_number => k_is)
    (case q_checked_number => k_is)
    (case k_checked_number => k_is)
    (case a_checked_price => k_is)
    (case l_checked_price => k_is)
    (case q_checked_price => k_is)
    (case k_checked_price => k_is)
    (case a_checked_amount => k_is)
    (case l_checked_amount => k_is)
    (case q_checked_amount => k_is)
    (case k_checked_amount => k_is)
    (case a_checked_side => k_is)
    (case l_checked_side => k_is)
    (case q_checked_side => k_is)
    (case k_checked_side => k_is)
    (case a_checked_peak => k_is)
    (case l_checked_peak => k_is)
    (case q_checked_peak => k_is)
    (case k_checked_peak => k_is)
    (case a_shown_anew => k_is)
    (case l_shown_anew => k_is)
    (case q_shown_anew => k_is)
    (case k_shown_anew => k_is)
    (case a_made => k_is)
    (case l_made => k_is)
    (case dl_made => k_is)
    (case q_made => k_is)
    (case k_made => k_is)
    (case a_with_parts => k_is)
    (case l_with_parts => k_is)
    (case q_with_parts => k_is)
    (case k_with_parts => k_is)
    (case a_fresh => k_is)
    (case l_fresh => k_is)
    (case q_fresh => k_is)
    (case k_fresh => k_is)
    (case a_renews => k_is)
    (case l_renews => k_is)
    (case q_renews => k_is)
    (case k_renews => k_is)
    (case a_filled => k_is)
    (case l_filled => k_is)
    (case q_filled => k_is)
    (case k_filled => k_is)
    (case a_lessened => k_is)
    (case l_lessened => k_is)
    (case q_lessened => k_is)
    (case k_lessened => k_is)
    (case a_ahead => k_is)
    (case l_ahead => k_is)
    (case q_ahead => k_is)
    (case k_ahead => k_is)
    (case a_names_of => k_is)
    (case l_names_of => k_is)
    (case q_names_of => k_is)
    (case k_names_of => k_is)
    (case a_joining_place => k_is)
    (case l_joining_place => k_is)
    (case q_joining_place => k_is)
    (case k_joining_place => k_is)
    (case a_joined => k_is)
    (case l_joined => k_is)
    (case q_joined => k_is)
    (case k_joined => k_is)
    (case a_place_of => k_is)
    (case l_place_of => k_is)
    (case q_place_of => k_is)
    (case k_place_of => k_is)
    (case a_without => k_is)
    (case l_without => k_is)
    (case q_without => k_is)
    (case k_without => k_is)
    (case a_with_less => k_is)
    (case l_with_less => k_is)
    (case q_with_less => k_is)
    (case k_with_less => k_is)
    (case a_served => k_is)
    (case l_served => k_is)
    (case q_served => k_is)
    (case k_served => k_is)
    (case a__law_cell_at => k_is)
    (case l__law_cell_at => k_is)
    (case q__law_cell_at => k_is)
    (case k__law_cell_at => k_is)
    (case a__law_whole => k_is)
    (case l__law_whole => k_is)
    (case q__law_whole => k_is)
    (case k__law_whole => k_is)
    (case a__law_alike => k_is)
    (case l__law_alike => k_is)
    (case q__law_alike => k_is)
    (case k__law_alike => k_is)
    (case a__law_line_alike => k_is)
    (case l__law_line_alike => k_is)
    (case q__law_line_alike => k_is)
    (case k__law_line_alike => k_is)
    (case a__law_name_of => k_is)
    (case l__law_name_of => k_is)
    (case q__law_name_of => k_is)
    (case k__law_name_of => k_is)
    (case a__law_peak_by => k_is)
    (case l__law_peak_by => k_is)
    (case q__law_peak_by => k_is)
    (case k__law_peak_by => k_is)
    (case a__law_order_by => k_is)
    (case l__law_order_by => k_is)
    (case q__law_order_by => k_is)
    (case k__law_order_by => k_is)
    (case a_total => k_is)
    (case l_total => k_is)
    (case q_total => k_is)
    (case k_total => k_is)
    (case a_prices_in_order => k_is)
    (case l_prices_in_order => k_is)
    (case q_prices_in_order => k_is)
    (case k_prices_in_order => k_is)
    (case a_is_line => k_is)
    (case l_is_line => k_is)
    (case q_is_line => k_is)
    (case k_is_line => k_is)
    (case a__law_lines_up => k_is)
    (case l__law_lines_up => k_is)
    (case q__law_lines_up => k_is)
    (case k__law_lines_up => k_is)
    (case a__law_serve_in => k_is)
    (case l__law_serve_in => k_is)
    (case q__law_serve_in => k_is)
    (case k__law_serve_in => k_is)
    (case a__law_deed_in => k_is)
    (case l__law_deed_in => k_is)
    (case q__law_deed_in => k_is)
    (case k__law_deed_in => k_is)
    (case a__law_number_by => k_is)
    (case l__law_number_by => k_is)
    (case q__law_number_by => k_is)
    (case k__law_number_by => k_is)
    (case a__law_tried => k_is)
    (case l__law_tried => k_is)
    (case q__law_tried => k_is)
    (case k__law_tried => k_is)
    (case a_law => k_is)
    (case l_law => k_is)
    (case q_law => k_is)
    (case k_law => k_is)
    (case z_all => k_is)
    (case z_any => k_is)
    (case z_bool => k_is)
    (case z_int => k_is)
    (case z_isinstance => k_is)
    (case z_len => k_is)
    (case z_list => k_is)
    (case z_min => k_is)
    (case z_range => k_is)
    (case z_set => k_is)
    (case z_sorted => k_is)
    (case z_str => k_is)
    (case z_sum => k_is)
    (case z_tuple => k_is)
    (case u_GREATEST_AMOUNT => k_is)
    (case u_GREATEST_PRICE => k_is)
    (case u_LEFT => k_is)
    (case u_LETTERS => k_is)
    (case u_LETTERS_AND_FIGURES => k_is)
    (case u_LONGEST_NAME => k_is)
    (case u_MOST_PEAKS => k_is)
    (case u_NAME => k_is)
    (case u_PEAK => k_is)
    (case u_PRICE => k_is)
    (case u_SHOWN => k_is)
    (case u_SIDE => k_is)
    (case y_BadName => k_is)
    (case y_BadNumber => k_is)
    (case y_BadSide => k_is)
    (case y_BourseError => k_is)
    (case y_NoOrder => k_is)
    (case y_Twice => k_is)
    (case w_x_BadName => k_exc)
    (case w_e_BadName => kts_exm)
    (case w_i_BadName_BadName => kit_is)
    (case w_i_BadName_BadNumber => kit_is)
    (case w_i_BadName_BadSide => kit_is)
    (case w_i_BadName_BourseError => kit_is)
    (case w_i_BadName_NoOrder => kit_is)
    (case w_i_BadName_Twice => kit_is)
    (case w_x_BadNumber => k_exc)
    (case w_e_BadNumber => kts_exm)
    (case w_i_BadNumber_BadName => kit_is)
    (case w_i_BadNumber_BadNumber => kit_is)
    (case w_i_BadNumber_BadSide => kit_is)
    (case w_i_BadNumber_BourseError => kit_is)
    (case w_i_BadNumber_NoOrder => kit_is)
    (case w_i_BadNumber_Twice => kit_is)
    (case w_x_BadSide => k_exc)
    (case w_e_BadSide => kts_exm)
    (case w_i_BadSide_BadName => kit_is)
    (case w_i_BadSide_BadNumber => kit_is)
    (case w_i_BadSide_BadSide => kit_is)
    (case w_i_BadSide_BourseError => kit_is)
    (case w_i_BadSide_NoOrder => kit_is)
    (case w_i_BadSide_Twice => kit_is)
    (case w_x_NoOrder => k_exc)
    (case w_e_NoOrder => kts_exm)
    (case w_i_NoOrder_BadName => kit_is)
    (case w_i_NoOrder_BadNumber => kit_is)
    (case w_i_NoOrder_BadSide => kit_is)
    (case w_i_NoOrder_BourseError => kit_is)
    (case w_i_NoOrder_NoOrder => kit_is)
    (case w_i_NoOrder_Twice => kit_is)
    (case w_x_Twice => k_exc)
    (case w_e_Twice => kts_exm)
    (case w_i_Twice_BadName => kit_is)
    (case w_i_Twice_BadNumber => kit_is)
    (case w_i_Twice_BadSide => kit_is)
    (case w_i_Twice_BourseError => kit_is)
    (case w_i_Twice_NoOrder => kit_is)
    (case w_i_Twice_Twice => kit_is)
    (case v_BadName_cls => k_is)
    (case v_BadName_ga => k_is)
    (case v_BadName_gt => k_is)
    (case v_BadName_at_ => k_is)
    (case v_BadName_get => k_is)
    (case v_BadName_tk => k_is)
    (case v_BadName_obj => k_is)
    (case v_BadName_exc => k_is)
    (case v_BadNumber_cls => k_is)
    (case v_BadNumber_ga => k_is)
    (case v_BadNumber_gt => k_is)
    (case v_BadNumber_at_ => k_is)
    (case v_BadNumber_get => k_is)
    (case v_BadNumber_tk => k_is)
    (case v_BadNumber_obj => k_is)
    (case v_BadNumber_exc => k_is)
    (case v_BadSide_cls => k_is)
    (case v_BadSide_ga => k_is)
    (case v_BadSide_gt => k_is)
    (case v_BadSide_at_ => k_is)
    (case v_BadSide_get => k_is)
    (case v_BadSide_tk => k_is)
    (case v_BadSide_obj => k_is)
    (case v_BadSide_exc => k_is)
    (case v_NoOrder_cls => k_is)
    (case v_NoOrder_ga => k_is)
    (case v_NoOrder_gt => k_is)
    (case v_NoOrder_at_ => k_is)
    (case v_NoOrder_get => k_is)
    (case v_NoOrder_tk => k_is)
    (case v_NoOrder_obj => k_is)
    (case v_NoOrder_exc => k_is)
    (case v_Twice_cls => k_is)
    (case v_Twice_ga => k_is)
    (case v_Twice_gt => k_is)
    (case v_Twice_at_ => k_is)
    (case v_Twice_get => k_is)
    (case v_Twice_tk => k_is)
    (case v_Twice_obj => k_is)
    (case v_Twice_exc => k_is)
