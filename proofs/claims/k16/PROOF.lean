import PyProof.Rows.All
import Wide.All
import OpenK.AllK
import Wide.FinOn
import Lean
import PyProof.EqAt
import PyProof.EqKinds
import PyProof.TupleCall
import KE.KIsAll
import PyProof.ExcArgsOwn
import PyProof.ExcAttrAll.ValueError
import KE.KTryMore
import PyProof.NeKinds
import PyProof.Rows.CallKwBuiltin
import KE.KUnpack
import PySem.Challenge.RW_bellbook_k16_kinds
set_option Elab.async false
set_option linter.all false
set_option maxRecDepth 100000
namespace L2
open PySem PySem.Spec PyProof.Rows
end L2
namespace L2
open PySem PySem.Spec PyProof.Rows
inductive V where
  | non | bl (b : Bool) | int (i : Int) | str (x : Str) | byt (b : Array UInt8) | flt (b : UInt64) | ref (a : Addr) | ty (n : String)
noncomputable instance instDecidableEqV : DecidableEq V := fun _ _ => Classical.propDecidable _
noncomputable def RelV : V → Value → Prop
  | .non, u => u = Value.none
  | .bl b, u => u = Value.bool b
  | .int i, u => ∃ t, u = Value.int i t
  | .str x, u => ∃ t, u = Value.str x t
  | .byt b, u => ∃ t, u = Value.bytes b t
  | .flt b, u => ∃ t, u = Value.float b t
  | .ref a, u => u = Value.ref a
  | .ty n, u => u = Value.type n
noncomputable abbrev Vals : List V → List Value → Prop := Paired RelV
theorem Vals.length {xs : List V} {us : List Value} (r : Vals xs us) : xs.length = us.length := Paired.length r
theorem Vals.get {xs : List V} {us : List Value} {i : Nat} {x : V} (r : Vals xs us) : xs[i]? = some x → ∃ u, us[i]? = some u ∧ RelV x u := by
  unfold Vals at r
  induction r generalizing i with
  | nil => intro e; rw [List.getElem?_nil] at e; cases e
  | cons r t ih =>
    intro e
    cases i with
    | zero => cases Option.some.inj e; exact ⟨_, rfl, r⟩
    | succ i => exact ih e
theorem Vals.append {xs ys : List V} {us ws : List Value} (r : Vals xs us) (s : Vals ys ws) : Vals (xs ++ ys) (us ++ ws) := by
  unfold Vals at r
  induction r with
  | nil => exact s
  | cons r t ih => exact .cons r ih
theorem Vals.take {xs : List V} {us : List Value} (n : Nat) (r : Vals xs us) : Vals (xs.take n) (us.take n) := by
  unfold Vals at r
  induction r generalizing n with
  | nil => cases n <;> exact .nil
  | cons r t ih =>
    cases n with
    | zero => exact .nil
    | succ n => exact .cons r (ih n)
theorem Vals.drop {xs : List V} {us : List Value} (n : Nat) (r : Vals xs us) : Vals (xs.drop n) (us.drop n) := by
  unfold Vals at r
  induction r generalizing n with
  | nil => cases n <;> exact .nil
  | cons r t ih =>
    cases n with
    | zero => exact .cons r t
    | succ n => exact ih n
noncomputable def RelO : Option V → Option Value → Prop
  | some v, some u => RelV v u
  | none, none => True
  | _, _ => False
inductive HO where
  | lst (xs : List V)
  | tup (xs : List V)
  | ins (C dx : Addr) (fs : List (Str × V))
  | own (x : Addr)
  | frz (o : Obj) (u : HO)
  | tbl (ps : Array Value)
noncomputable abbrev Hp := Addr → Option HO
noncomputable def upd (H : Hp) (a : Addr) (o : HO) : Hp := fun b => if b = a then some o else H b
theorem upd_same {H : Hp} {a : Addr} {o : HO} : upd H a o a = some o := by unfold upd; rw [if_pos rfl]
theorem upd_ne {H : Hp} {a b : Addr} {o : HO} (h : b ≠ a) : upd H a o b = H b := by unfold upd; rw [if_neg h]
theorem ne_of_none {H : Hp} {a b : Addr} {o : HO} (h : H a = some o) (h' : H b = none) : a ≠ b := by
  intro e; subst e; rw [h] at h'; cases h'
section
variable (P : Program) (w : World)
noncomputable def ObjOk (P : Program) (w : World) (H : Hp) (h : Heap) (a : Addr) : HO → Prop
  | .lst xs => xs.length ≤ sizeLine ∧ ∃ (its : List Value) (n : Nat), Vals xs its ∧ h.get? a = some { cls := .type "list", data := .seq its.toArray n }
  | .tup xs => xs.length ≤ sizeLine ∧ ∃ its : List Value, Vals xs its ∧ IsTup h a its.toArray
  | .ins C dx fs => H dx = some (.own a) ∧ fs.length ≤ 1000 ∧ dx ≠ a ∧ h.get? a = some (PySem.W.instObj C dx) ∧
      ∃ mA, h.Ns1 dx mA ∧ (∀ f, RelO (fs.lookup f) (mA f)) ∧ PySem.Within mA (fs.map (·.1))
  | .own _ => ∃ o, h.get? a = some o
  | .frz o u => h.get? a = some o ∧ ObjOk P w H h a u
  | .tbl ps => h.get? a = some { cls := .none, data := .fields ps }
noncomputable def HOk (H : Hp) (h : Heap) : Prop := ∀ a o, H a = some o → ObjOk P w H h a o
end
section
variable {P : Program} {w : World} {H H' : Hp} {h h' : Heap} {a : Addr} {o : HO}
theorem ObjOk.lt (x : ObjOk P w H h a o) : a < h.objs.size := by
  cases o with
  | lst xs => refine Classical.byContradiction fun hnzq => ?_; obtain ⟨_, _, _, _, e⟩ := x; refine hnzq ?_; clear hnzq; exact Heap.lt_size e
  | tup xs => refine Classical.byContradiction fun hnzq => ?_; obtain ⟨_, _, _, p⟩ := x; refine hnzq ?_; clear hnzq; exact p.lt
  | ins C dx fs => refine Classical.byContradiction fun hnzq => ?_; obtain ⟨_, _, _, e, _⟩ := x; refine hnzq ?_; clear hnzq; exact Heap.lt_size e
  | own y => obtain ⟨_, e⟩ := x; exact Heap.lt_size e
  | frz ob u => obtain ⟨e, _⟩ := x; exact Heap.lt_size e
  | tbl ps => exact Heap.lt_size (show h.get? a = some _ from x)
theorem Paired.mapP {α β : Type} {F G : α → β → Prop} {l₁ : List α} {l₂ : List β} (r : Paired F l₁ l₂) (f : ∀ a b, F a b → G a b) : Paired G l₁ l₂ := by
  induction r with
  | nil => exact .nil
  | cons r t ih => exact .cons (f _ _ r) ih
theorem ObjOk.stay (x : ObjOk P w H h a o) (k : ∀ b u, (b = a ∨ H b = some (.own a)) → h.get? b = some u → h'.get? b = some u)
    (ho : ∀ b, H b = some (.own a) → H' b = some (.own a)) (ht : ∀ b xs, H b = some (.tup xs) → H' b = some (.tup xs)) : ObjOk P w H' h' a o := by
  induction o with
  | lst xs => refine Classical.byContradiction fun hnzq => ?_; obtain ⟨z, its, n, r, e⟩ := x; refine hnzq ?_; clear hnzq; exact ⟨z, its, n, r, k _ _ (.inl rfl) e⟩
  | tup xs => refine Classical.byContradiction fun hnzq => ?_; obtain ⟨z, its, r, ob, e, c⟩ := x; refine hnzq ?_; clear hnzq; exact ⟨z, its, r, ob, k _ _ (.inl rfl) e, c⟩
  | ins C dx fs =>
    refine Classical.byContradiction fun hnzq => ?_; obtain ⟨d, z, ne, e, mA, ⟨od, es, ep, e2, c⟩, r⟩ := x
    refine hnzq ?_; clear hnzq
    exact ⟨ho _ d, z, ne, k _ _ (.inl rfl) e, mA, ⟨od, es, ep, k _ _ (.inr d) e2, c⟩, r⟩
  | own y => obtain ⟨ob, e⟩ := x; exact ⟨ob, k _ _ (.inl rfl) e⟩
  | frz ob u ih => obtain ⟨e, q⟩ := x; exact ⟨k _ _ (.inl rfl) e, ih q⟩
  | tbl ps =>
    have e : h.get? a = some { cls := .none, data := .fields ps } := x
    show h'.get? a = some { cls := .none, data := .fields ps }
    exact k a _ (.inl rfl) e
theorem HOk.lt (x : HOk P w H h) (e : H a = some o) : a < h.objs.size := (x a o e).lt
theorem HOk.fresh (x : HOk P w H h) (e : h.objs.size ≤ a) : H a = none := by
  cases q : H a with
  | none => rfl
  | some u => exact absurd (Nat.lt_of_lt_of_le (x.lt q) e) (Nat.lt_irrefl _)
theorem HOk.kept (x : HOk P w H h) (k : ∀ b u, h.get? b = some u → h'.get? b = some u) : HOk P w H h' := fun a o e =>
  (x a o e).stay (fun b u _ q => k b u q) (fun _ q => q) fun _ _ q => q
theorem HOk.laid (x : HOk P w H h) (k : ∀ b u, h.get? b = some u → h'.get? b = some u) (hp : h.objs.size ≤ a) (new : ObjOk P w (upd H a o) h' a o) : HOk P w (upd H a o) h' := fun b u e => by
  have hn := x.fresh hp
  by_cases hb : b = a
  · subst hb; rw [upd_same] at e; cases e; exact new
  · rw [upd_ne hb] at e
    exact (x b u e).stay (fun c v _ q => k c v q) (fun c q => by rw [upd_ne (ne_of_none q hn)]; exact q) fun c xs q => by rw [upd_ne (ne_of_none q hn)]; exact q
end
set_option genInjectivity false in
set_option genSizeOf false in
set_option genSizeOfSpec false in
noncomputable def Rd (H : Hp) (a : Addr) (u : HO) : Prop := H a = some u ∨ ∃ o, H a = some (.frz o u)
theorem Rd.ok {P : Program} {w : World} {H : Hp} {h : Heap} {a : Addr} {u : HO} (r : Rd H a u) (x : HOk P w H h) : ObjOk P w H h a u := by
  rcases r with r | ⟨o, r⟩
  · exact x a u r
  · obtain ⟨_, q⟩ := x a _ r
    exact q
section
variable {P : Program} {w : World} {H : Hp} {h h' : Heap} {x e : Addr} {o' : HO}
end
structure Un (fs ex : List Addr) (H H' : Hp) (h h' : Heap) : Prop where
  keep : ∀ b o, h.get? b = some o → H b = none → b ∉ fs → b ∉ ex → h'.get? b = some o
  slot : ∀ b o, h.get? b = some o → H b = none → b ∈ fs → b ∉ ex → ∃ sl, h'.get? b = some { o with slots := sl }
  free : ∀ b o, h.get? b = some o → H b = none → b ∉ ex → H' b = none
  there : ∀ b o, h.get? b = some o → b ∉ ex → ∃ o', h'.get? b = some o'
  tups : ∀ b xs, H b = some (.tup xs) → H' b = some (.tup xs)
  frzs : ∀ b o u, H b = some (.frz o u) → H' b = some (.frz o u)
  tbls : ∀ b ps, H b = some (.tbl ps) → ∃ more, H' b = some (.tbl (ps ++ more))
section
variable {fs fs' ex ex' : List Addr} {H H1 H2 : Hp} {h h1 h2 h' : Heap} {a x e : Addr} {o : HO}
theorem Un.any (u : Un fs ex H H1 h h1) {b : Addr} {ob : Obj} (q : h.get? b = some ob) (n : H b = none) (hx : b ∉ ex) : ∃ sl, h1.get? b = some { ob with slots := sl } := by
  by_cases hb : b ∈ fs
  · exact u.slot b ob q n hb hx
  · exact ⟨ob.slots, u.keep b ob q n hb hx⟩
theorem Un.kept (k : ∀ b u, h.get? b = some u → h'.get? b = some u) : Un fs ex H H h h' :=
  ⟨fun b ob q _ _ _ => k b ob q, fun b ob q _ _ _ => ⟨ob.slots, k b ob q⟩, fun _ _ _ n _ => n, fun b ob q _ => ⟨ob, k b ob q⟩, fun _ _ q => q, fun _ _ _ q => q, fun _ ps q => ⟨#[], by rw [q]; simp⟩⟩
theorem Un.refl : Un fs ex H H h h := Un.kept fun _ _ q => q
theorem Un.laid (k : ∀ b u, h.get? b = some u → h'.get? b = some u) (hp : h.objs.size ≤ a) (hn : H a = none) : Un fs ex H (upd H a o) h h' where
  keep := fun b u q _ _ _ => k b u q
  slot := fun b u q _ _ _ => ⟨u.slots, k b u q⟩
  free := fun b u q n _ => by rw [upd_ne (Nat.ne_of_lt (Nat.lt_of_lt_of_le (Heap.lt_size q) hp))]; exact n
  there := fun b u q _ => ⟨u, k b u q⟩
  tups := fun b xs q => by rw [upd_ne (ne_of_none q hn)]; exact q
  frzs := fun b u xs q => by rw [upd_ne (ne_of_none q hn)]; exact q
  tbls := fun b ps q => ⟨#[], by rw [upd_ne (ne_of_none q hn), q]; simp⟩
end
noncomputable def trk (h : Heap) (H : Hp) : List Addr := (List.range h.objs.size).filter fun a => (H a).isSome
noncomputable def hidT (h : Heap) (H : Hp) : Heap := PySem.W.hideAll h (trk h H)
theorem hidT_size (h : Heap) (H : Hp) : (hidT h H).objs.size = h.objs.size := PySem.W.hideAll_size _ _
theorem hidT_get {h : Heap} {H : Hp} {b : Addr} {o : Obj} (e : h.get? b = some o) (n : H b = none) : (hidT h H).get? b = some o :=
  PySem.W.hideAll_get _ e fun hm => by
    have q : (H b).isSome = true := (List.mem_filter.mp hm).2
    rw [n] at q; simp at q
theorem of_hidT {h : Heap} {H : Hp} {b : Addr} {o : Obj} (e : (hidT h H).get? b = some o) : h.get? b = some o ∧ H b = none := by
  have e' : h.get? b = some o := PySem.W.of_hideAll (trk h H) e
  refine ⟨e', ?_⟩
  cases q : H b with
  | none => rfl
  | some x =>
    have hm : b ∈ trk h H := List.mem_filter.mpr ⟨List.mem_range.mpr (Heap.lt_size e'), by simp [q]⟩
    have z : (hidT h H).get? b = none := PySem.W.hideAll_none (trk h H) hm
    rw [z] at e; cases e
end L2
namespace L2
open PySem PySem.Spec PyProof.Rows
set_option genInjectivity false in
set_option genSizeOf false in
set_option genSizeOfSpec false in
structure Mod (K : PySem.W.Frag) (mg : Str → Option Value) (base : Heap) : Prop where
  kin : K.In base
  glob : base.Ns mainGlobals mg
  blt : ∃ mb, base.Ns builtinsNs mb ∧ ∀ x : Str, x ≠ "__name__" → mb x = bootBuiltins x
  nolimit : base.NoLimit
set_option genInjectivity false in
set_option genSizeOf false in
set_option genSizeOfSpec false in
structure Cx where
  prog : Program
  w : World
  K : PySem.W.Frag
  mg : Str → Option Value
  base : Heap
  A : Around
  N : List Str
  s₀ : Shared
  H₀ : Hp
  env : Env
  outer : List Env
  stack : List Env
  ex : List Addr
  fn : Str → Bool
  calm : Bool
  pn : List (Addr × Obj)
  xe : Value → Shared → Prop
noncomputable def frs (l : List Env) : List Addr := l.filterMap (·.frame)
noncomputable abbrev Cx.fs (X : Cx) : List Addr := frs X.outer
noncomputable def Vis (sc : Scope) (x : Str) : Prop := sc.names.lookup x = some .local ∨ sc.names.lookup x = some .cell ∨ sc.names.lookup x = some .free
noncomputable def Loc (sc : Scope) (x : Str) : Prop := sc.names.lookup x = some .local ∨ sc.names.lookup x = some .cell
noncomputable def Look (env : Env) (h : Heap) (m : Str → Option Value) (x : Str) (u : Value) : Prop :=
  (env.kindOf x = some .local ∧ m x = some u) ∨ ((env.kindOf x = some .cell ∨ env.kindOf x = some .free) ∧ ∃ c, env.cells.lookup x = some c ∧ h.IsCell c (some u))
set_option genInjectivity false in
set_option genSizeOf false in
set_option genSizeOfSpec false in
structure Cx.Ok (X : Cx) : Prop where
  mod : Mod X.K X.mg X.base
  kind : X.env.scope.kind = .function
  glob : X.env.globals = mainGlobals
  blt : X.env.builtins = builtinsNs
  above : X.s₀.heap.objs.size ≤ X.env.locals
  inj : ∀ x y c, X.env.cells.lookup x = some c → X.env.cells.lookup y = some c → x = y
  has : ∀ x, (X.env.kindOf x = some .cell ∨ X.env.kindOf x = some .free) → ∃ c, X.env.cells.lookup x = some c
  cab : ∀ x c, X.fn x = true → X.env.cells.lookup x = some c → X.s₀.heap.objs.size ≤ c
  hd : X.calm = true → X.A.handled = none
  frames : X.A.frames = some X.stack
  stk : X.stack = X.outer ∨ (X.stack = X.env :: X.outer ∧ X.env.frame = some X.env.locals)
  exf : ∀ b ∈ X.ex, b ≠ X.env.locals ∧ ∀ x c, X.env.cells.lookup x = some c → c ≠ b
  bs : ∀ b o, X.base.get? b = some o → X.s₀.heap.get? b = some o ∧ X.H₀ b = none
  bsz : X.base.objs.size ≤ X.s₀.heap.objs.size
  noex : ∀ b o, X.base.get? b = some o → b ∉ X.ex
  exfs : ∀ b ∈ X.ex, b ∉ X.fs
  funs : X.s₀.heap.FunFrames X.base X.outer
  frf : ∀ b ∈ X.fs, X.H₀ b = none
set_option genInjectivity false in
set_option genSizeOf false in
set_option genSizeOfSpec false in
structure Inv (X : Cx) (pins : List (Addr × Obj)) (σ : List (Option V)) (H : Hp) (s : Shared) : Prop where
  ok : X.Ok
  os : s.os = X.s₀.os
  bare : AllBare s.gens
  base : Un X.fs X.ex X.H₀ H X.s₀.heap s.heap
  loc : ∃ m, s.heap.Ns X.env.locals m ∧ ∀ (i : Nat) (x : Str) (v : V), X.N[i]? = some x → σ[i]? = some (some v) → Vis X.env.scope x → ∃ u, RelV v u ∧ Look X.env s.heap m x u
  cell : ∀ x c, X.env.cells.lookup x = some c → ∃ v, s.heap.IsCell c v
  free : H X.env.locals = none
  freeC : ∀ x c, X.env.cells.lookup x = some c → H c = none
  pin : ∀ p ∈ X.pn ++ pins, s.heap.get? p.1 = some p.2 ∧ H p.1 = none ∧ p.1 ≠ X.env.locals ∧ p.1 ∉ X.fs ∧ ∀ v, p.2.data ≠ .cell v
  hok : HOk X.prog X.w H s.heap
  len : σ.length = X.N.length
section
variable {X : Cx} {pins : List (Addr × Obj)} {σ : List (Option V)} {H H' : Hp} {s : Shared} {h' : Heap}
theorem Cx.Ok.nofr (ok : X.Ok) {b : Addr} {o : Obj} (e : X.base.get? b = some o) : b ∉ X.fs := fun hb => by
  have := (ok.funs.mem hb).1
  rw [e] at this; cases this
theorem Inv.bs (I : Inv X pins σ H s) : ∀ b o, X.base.get? b = some o → s.heap.get? b = some o ∧ H b = none := fun b o e =>
  ⟨I.base.keep b o (I.ok.bs b o e).1 (I.ok.bs b o e).2 (I.ok.nofr e) (I.ok.noex b o e), I.base.free b o (I.ok.bs b o e).1 (I.ok.bs b o e).2 (I.ok.noex b o e)⟩
theorem Inv.bk (I : Inv X pins σ H s) : ∀ b o, X.base.get? b = some o → s.heap.get? b = some o := fun b o e => (I.bs b o e).1
theorem Inv.mod (I : Inv X pins σ H s) : Mod X.K X.mg X.base := I.ok.mod
theorem Inv.kIn (I : Inv X pins σ H s) : X.K.In s.heap := I.ok.mod.kin.keeps I.bk
theorem Inv.lt (I : Inv X pins σ H s) : X.env.locals < s.heap.objs.size := let ⟨_, hn, _⟩ := I.loc; hn.lt
theorem Inv.sz (I : Inv X pins σ H s) : X.s₀.heap.objs.size ≤ s.heap.objs.size := Nat.le_trans I.ok.above (Nat.le_of_lt I.lt)
theorem Inv.nofs (I : Inv X pins σ H s) {a : Addr} (h : s.heap.objs.size ≤ a) : a ∉ X.fs := fun hb => by
  refine Classical.byContradiction fun hnzq => ?_; obtain ⟨_, o, ho, _⟩ := I.ok.funs.mem hb
  refine hnzq ?_; clear hnzq
  exact absurd (Nat.lt_of_lt_of_le (Heap.lt_size ho) (Nat.le_trans I.sz h)) (Nat.lt_irrefl _)
theorem Inv.cne (I : Inv X pins σ H s) : ∀ x c, X.env.cells.lookup x = some c → c ≠ X.env.locals := fun x c e z => by
  refine Classical.byContradiction fun hnzq => ?_; obtain ⟨v, o, ho, hd⟩ := I.cell x c e
  refine hnzq ?_; clear hnzq
  refine Classical.byContradiction fun hnzq => ?_; obtain ⟨m, ⟨o', es, ep, ho', hd', _⟩, _⟩ := I.loc
  refine hnzq ?_; clear hnzq
  rw [z, ho'] at ho; cases ho; rw [hd'] at hd; cases hd
theorem Inv.funs (I : Inv X pins σ H s) : s.heap.FunFrames X.base X.outer := by
  have all : ∀ (l : List Env), (∀ b ∈ frs l, b ∈ X.fs) → X.s₀.heap.FunFrames X.base l → s.heap.FunFrames X.base l := by
    intro l
    induction l with
    | nil => intro _ _; trivial
    | cons env r ih =>
      intro hs hl
      refine Classical.byContradiction fun hnzq => ?_; obtain ⟨hk, ⟨L, o, hf, hn, ho, hd⟩, hr⟩ := hl
      refine hnzq ?_; clear hnzq
      have hL : L ∈ X.fs := hs L (by unfold frs; rw [List.filterMap_cons, hf]; exact List.mem_cons_self)
      obtain ⟨sl, e⟩ := I.base.slot L o ho (I.ok.frf L hL) hL fun z => I.ok.exfs L z hL
      exact ⟨hk, ⟨L, _, hf, hn, e, hd⟩, ih (fun b hb => hs b (by unfold frs; rw [List.filterMap_cons, hf]; exact List.mem_cons_of_mem _ hb)) hr⟩
  exact all X.outer (fun _ hb => hb) I.ok.funs
theorem Inv.stack (I : Inv X pins σ H s) : s.heap.FunFrames X.base X.stack := by
  rcases I.ok.stk with e | ⟨e, hf⟩
  · rw [e]; exact I.funs
  · rw [e]
    refine Classical.byContradiction fun hnzq => ?_; obtain ⟨m, hn, _⟩ := I.loc
    refine hnzq ?_; clear hnzq
    refine .cons (by rw [I.ok.kind]; decide) hf hn ?_ I.funs
    exact Heap.get?_none_of_le (Nat.le_trans I.ok.bsz I.ok.above)
theorem Inv.stkSub (I : Inv X pins σ H s) : ∀ b ∈ frs X.stack, b ∈ X.env.locals :: X.fs := fun b hb => by
  rcases I.ok.stk with e | ⟨e, hf⟩
  · rw [e] at hb; exact List.mem_cons_of_mem _ hb
  · rw [e] at hb
    unfold frs at hb
    rw [List.filterMap_cons, hf] at hb
    exact hb
theorem Inv.stkFree (I : Inv X pins σ H s) : ∀ b ∈ frs X.stack, H b = none := fun b hb => by
  rcases List.mem_cons.mp (I.stkSub b hb) with e | hb
  · rw [e]; exact I.free
  · refine Classical.byContradiction fun hnzq => ?_; obtain ⟨_, o, ho, _⟩ := I.ok.funs.mem hb
    refine hnzq ?_; clear hnzq
    exact I.base.free b o ho (I.ok.frf b hb) fun z => I.ok.exfs b z hb
theorem Inv.step {g' : Array GenState} {t' : Nat} {d' : Drawn} {ch : List Addr} (I : Inv X pins σ H s)
    (hch : ∀ b ∈ ch, (b ∈ X.ex ∨ X.s₀.heap.objs.size ≤ b) ∧ b ≠ X.env.locals ∧ (∀ x c, X.env.cells.lookup x = some c → c ≠ b) ∧ ∀ p ∈ X.pn ++ pins, p.1 ≠ b)
    (keep : ∀ b o, b ≠ X.env.locals → b ∉ X.fs → b ∉ ch → s.heap.get? b = some o → H b = none → h'.get? b = some o)
    (slot : ∀ b o, b ≠ X.env.locals → b ∈ X.fs → b ∉ ch → s.heap.get? b = some o → H b = none → ∃ sl, h'.get? b = some { o with slots := sl }) (free : ∀ b o, b ∉ ch → s.heap.get? b = some o → H b = none → H' b = none)
    (there : ∀ b o, b ∉ ch → s.heap.get? b = some o → ∃ o', h'.get? b = some o')
    (tups : ∀ b xs, H b = some (.tup xs) → H' b = some (.tup xs)) (frzs : ∀ b o u, H b = some (.frz o u) → H' b = some (.frz o u)) (tbls : ∀ b ps, H b = some (.tbl ps) → ∃ more, H' b = some (.tbl (ps ++ more)))
    (ns : ∀ m, s.heap.Ns X.env.locals m → h'.Ns X.env.locals m) (hok : HOk X.prog X.w H' h') (hg : AllBare g') :
    Inv X pins σ H' { s with heap := h', gens := g', drawn := d', toks := t' } := by
  have neL : ∀ b o, X.s₀.heap.get? b = some o → b ≠ X.env.locals := fun b o e => Nat.ne_of_lt (Nat.lt_of_lt_of_le (Heap.lt_size e) I.ok.above)
  have neC : ∀ b o, X.s₀.heap.get? b = some o → b ∉ X.ex → b ∉ ch := fun b o e hx hb => by
    rcases (hch b hb).1 with z | z
    · exact hx z
    · exact absurd (Nat.lt_of_lt_of_le (Heap.lt_size e) z) (Nat.lt_irrefl _)
  have cellK : ∀ x c, X.env.cells.lookup x = some c → ∀ v, s.heap.IsCell c v → h'.IsCell c v := fun x c e v ⟨o, ho, hd⟩ => by
    have nch : c ∉ ch := fun z => (hch c z).2.2.1 x c e rfl
    by_cases hc : c ∈ X.fs
    · obtain ⟨sl, q⟩ := slot c o (I.cne x c e) hc nch ho (I.freeC x c e)
      exact ⟨_, q, hd⟩
    · exact ⟨o, keep c o (I.cne x c e) hc nch ho (I.freeC x c e), hd⟩
  refine ⟨I.ok, I.os, hg, ⟨fun b o e n hb hx => ?_, fun b o e n hb hx => ?_, fun b o e n hx => ?_, fun b o e hx => ?_, fun b xs e => tups b xs (I.base.tups b xs e), fun b o xs e => frzs b o xs (I.base.frzs b o xs e), fun b ps e => ?_⟩, ?_, fun x c e => ?_, ?_, fun x c e => ?_, fun p hp => ?_, hok, I.len⟩
  · exact keep b o (neL b o e) hb (neC b o e hx) (I.base.keep b o e n hb hx) (I.base.free b o e n hx)
  · obtain ⟨sl, e1⟩ := I.base.slot b o e n hb hx
    obtain ⟨sl', e2⟩ := slot b _ (neL b o e) hb (neC b o e hx) e1 (I.base.free b o e n hx)
    exact ⟨sl', e2⟩
  · obtain ⟨o', e1⟩ := I.base.there b o e hx
    exact free b o' (neC b o e hx) e1 (I.base.free b o e n hx)
  · obtain ⟨o', e1⟩ := I.base.there b o e hx
    exact there b o' (neC b o e hx) e1
  · obtain ⟨m1, e1⟩ := I.base.tbls b ps e
    obtain ⟨m2, e2⟩ := tbls b _ e1
    exact ⟨m1 ++ m2, by rw [e2, Array.append_assoc]⟩
  · refine Classical.byContradiction fun hnzq => ?_; obtain ⟨m, hn, hl⟩ := I.loc
    refine hnzq ?_; clear hnzq
    refine ⟨m, ns m hn, fun i x v e1 e2 e3 => ?_⟩
    refine Classical.byContradiction fun hnzq => ?_; obtain ⟨u, r, l⟩ := hl i x v e1 e2 e3
    refine hnzq ?_; clear hnzq
    refine ⟨u, r, ?_⟩
    rcases l with l | ⟨k, c, e, z⟩
    · exact .inl l
    · exact .inr ⟨k, c, e, cellK x c e _ z⟩
  · obtain ⟨v, z⟩ := I.cell x c e
    exact ⟨v, cellK x c e v z⟩
  · refine Classical.byContradiction fun hnzq => ?_; obtain ⟨m, ⟨o, _, _, ho, _⟩, _⟩ := I.loc
    refine hnzq ?_; clear hnzq
    exact free _ o (fun z => (hch _ z).2.1 rfl) ho I.free
  · refine Classical.byContradiction fun hnzq => ?_; obtain ⟨v, o, ho, hd⟩ := I.cell x c e
    refine hnzq ?_; clear hnzq
    exact free c o (fun z => (hch c z).2.2.1 x c e rfl) ho (I.freeC x c e)
  · refine Classical.byContradiction fun hnzq => ?_; obtain ⟨e, n, ne, nf, d⟩ := I.pin p hp
    refine hnzq ?_; clear hnzq
    have nch : p.1 ∉ ch := fun z => (hch p.1 z).2.2.2 p hp rfl
    exact ⟨keep p.1 p.2 ne nf nch e n, free p.1 p.2 nch e n, ne, nf, d⟩
theorem Inv.un {t' : Nat} (I : Inv X pins σ H s) (u : Un X.fs [] H H' s.heap h') (hok : HOk X.prog X.w H' h') : Inv X pins σ H' { s with heap := h', toks := t' } := by
  refine Classical.byContradiction fun hnzq => ?_; obtain ⟨m, ⟨o, es, ep, ho, r⟩, _⟩ := id I.loc
  refine hnzq ?_; clear hnzq
  obtain ⟨sl, hL⟩ := u.any ho I.free (by simp)
  exact I.step (g' := s.gens) (d' := s.drawn) (ch := []) (fun _ z => nomatch z) (fun b o _ hb _ e n => u.keep b o e n hb (by simp)) (fun b o _ hb _ e n => u.slot b o e n hb (by simp)) (fun b o _ e n => u.free b o e n (by simp)) (fun b o _ e => u.there b o e (by simp)) u.tups u.frzs u.tbls (fun m' hm => by
    refine Classical.byContradiction fun hnzq => ?_; obtain ⟨o', es', ep', ho', r'⟩ := hm
    refine hnzq ?_; clear hnzq
    rw [ho] at ho'; cases ho'
    exact ⟨_, es', ep', hL, r'⟩) hok I.bare
theorem Inv.call {g' : Array GenState} {t' : Nat} {d' : Drawn} {ch : List Addr} (I : Inv X pins σ H s) (u : Un (frs X.stack) ch H H' s.heap h') (hok : HOk X.prog X.w H' h') (hg : AllBare g')
    (hch : ∀ b ∈ ch, (b ∈ X.ex ∨ X.s₀.heap.objs.size ≤ b) ∧ b ≠ X.env.locals ∧ (∀ x c, X.env.cells.lookup x = some c → c ≠ b) ∧ ∀ p ∈ X.pn ++ pins, p.1 ≠ b) :
    Inv X pins σ H' { s with heap := h', gens := g', drawn := d', toks := t' } := by
  refine Classical.byContradiction fun hnzq => ?_; obtain ⟨m, ⟨o, es, ep, ho, r⟩, _⟩ := id I.loc
  refine hnzq ?_; clear hnzq
  obtain ⟨sl, hL⟩ := u.any ho I.free fun z => (hch _ z).2.1 rfl
  exact I.step (ch := ch) hch (fun b o hL hb hc e n => u.keep b o e n (fun z => (List.mem_cons.mp (I.stkSub b z)).elim hL hb) hc) (fun b o _ _ hc e n => u.any e n hc) (fun b o hc e n => u.free b o e n hc) (fun b o hc e => u.there b o e hc) u.tups u.frzs u.tbls (fun m' hm => by
    refine Classical.byContradiction fun hnzq => ?_; obtain ⟨o', es', ep', ho', r'⟩ := hm
    refine hnzq ?_; clear hnzq
    rw [ho] at ho'; cases ho'
    exact ⟨_, es', ep', hL, r'⟩) hok hg
theorem Inv.turned {t' : Nat} {it : Addr} (I : Inv X pins σ H s) (k : ∀ b o, b ≠ it → s.heap.get? b = some o → h'.get? b = some o) (hn : H it = none) (hL : it ≠ X.env.locals)
    (h1 : it ∈ X.ex ∨ X.s₀.heap.objs.size ≤ it) (h2 : ∀ x c, X.env.cells.lookup x = some c → c ≠ it) (h3 : ∀ p ∈ X.pn ++ pins, p.1 ≠ it) : Inv X pins σ H { s with heap := h', toks := t' } := by
  have nit : ∀ b u, H b = some u → b ≠ it := fun b u e z => by rw [z, hn] at e; cases e
  refine I.step (g' := s.gens) (d' := s.drawn) (ch := [it]) (fun b hb => ?_) (fun b o _ _ hc e _ => k b o (fun z => hc (by simp [z])) e) (fun b o _ _ hc e _ => ⟨o.slots, k b o (fun z => hc (by simp [z])) e⟩) (fun _ _ _ _ n => n)
    (fun b o hc e => ⟨o, k b o (fun z => hc (by simp [z])) e⟩) (fun _ _ e => e) (fun _ _ _ e => e) (fun b ps e => ⟨#[], by rw [e]; simp⟩) (fun m hm => ?_) (fun b u e => ?_) I.bare
  · have e : b = it := by simpa using hb
    subst e
    exact ⟨h1, hL, h2, h3⟩
  · refine Classical.byContradiction fun hnzq => ?_; obtain ⟨o, es, ep, ho, r⟩ := hm
    refine hnzq ?_; clear hnzq
    exact ⟨o, es, ep, k _ o (Ne.symm hL) ho, r⟩
  · refine (I.hok b u e).stay (fun c v hc q => k c v ?_ q) (fun _ q => q) fun _ _ q => q
    rcases hc with z | z
    · rw [z]; exact nit b u e
    · exact nit c _ z
theorem Inv.tok (I : Inv X pins σ H s) (t : Nat) : Inv X pins σ H { s with toks := t } := I.un (h' := s.heap) (t' := t) Un.refl I.hok
theorem Inv.kept {t' : Nat} (I : Inv X pins σ H s) (k : ∀ b u, s.heap.get? b = some u → h'.get? b = some u) : Inv X pins σ H { s with heap := h', toks := t' } := I.un (Un.kept k) (I.hok.kept k)
theorem Inv.laid {a : Addr} {o : HO} {t' : Nat} (I : Inv X pins σ H s) (k : ∀ b u, s.heap.get? b = some u → h'.get? b = some u) (hp : s.heap.objs.size ≤ a) (new : ObjOk X.prog X.w (upd H a o) h' a o) :
    Inv X pins σ (upd H a o) { s with heap := h', toks := t' } := I.un (Un.laid k hp (I.hok.fresh hp)) (I.hok.laid k hp new)
theorem Inv.pins_of {pins' : List (Addr × Obj)} (I : Inv X pins σ H s) (h : ∀ p ∈ pins', s.heap.get? p.1 = some p.2 ∧ H p.1 = none ∧ p.1 ≠ X.env.locals ∧ p.1 ∉ X.fs ∧ ∀ v, p.2.data ≠ .cell v) : Inv X pins' σ H s :=
  ⟨I.ok, I.os, I.bare, I.base, I.loc, I.cell, I.free, I.freeC, fun p hp => (List.mem_append.mp hp).elim (fun z => I.pin p (List.mem_append_left _ z)) (h p), I.hok, I.len⟩
theorem nodup_ix {N : List Str} (hN : N.Nodup) {i j : Nat} {x : Str} (a : N[i]? = some x) (b : N[j]? = some x) : i = j := by
  obtain ⟨h1, e1⟩ := List.getElem?_eq_some_iff.mp a
  obtain ⟨h2, e2⟩ := List.getElem?_eq_some_iff.mp b
  exact (List.getElem_inj hN).mp (e1.trans e2.symm)
theorem store_ok2 {M : Model} {A : Around} {E : Value → Shared → Prop} {i : Nat} {x : Str} {v : V} {u : Value} {Q : Unit → Shared → Prop} (I : Inv X pins σ H s) (hN : X.N.Nodup) (hi : X.N[i]? = some x) (hx : Loc X.env.scope x) (r : RelV v u)
    (h : ∀ s', Inv X pins (σ.set i (some v)) H s' → (∃ a, Heap.SameBut a s.heap s'.heap ∧ (a = X.env.locals ∨ X.env.cells.lookup x = some a)) → Q () s') (hf : X.fn x = true ∨ X.env.scope.names.lookup x = some .local) : wpAny M A (storeName X.env x u) Q E s := by
  refine Classical.byContradiction fun hnzq => ?_; obtain ⟨m, hn, hl⟩ := id I.loc
  refine hnzq ?_; clear hnzq
  have hcls : (X.env.scope.kind == .class || (X.env.scope.kind == .module && X.env.locals != X.env.globals)) = false := by rw [I.ok.kind]; rfl
  have hiσ : i < σ.length := by rw [I.len]; exact (List.getElem?_eq_some_iff.mp hi).1
  have cne := I.cne
  have tracked : ∀ {a : Addr} {h' : Heap}, (∃ o, s.heap.get? a = some o ∧ H a = none) → Heap.SameBut a s.heap h' → HOk X.prog X.w H h' := fun {a h'} ha hs b ob e => by
    refine Classical.byContradiction fun hnzq => ?_; obtain ⟨_, _, hfree⟩ := ha
    refine hnzq ?_; clear hnzq
    refine (I.hok b ob e).stay (fun c w' hc q => (hs.2 c ?_).trans q) (fun _ q => q) fun _ _ q => q
    rintro rfl
    rcases hc with rfl | hc
    · rw [hfree] at e; cases e
    · rw [hfree] at hc; cases hc
  rcases hx with hk | hk
  · refine wpAny_storeName_local hk hn (fun h' hn' hs => ?_) hcls
    refine Classical.byContradiction fun hnzq => ?_; obtain ⟨oL, _, _, hoL, _⟩ := id hn
    refine hnzq ?_; clear hnzq
    refine h _ ⟨I.ok, I.os, I.bare, ⟨fun b o e n hb hx => ?_, fun b o e n hb hx => ?_, I.base.free, fun b o e hx => ?_, I.base.tups, I.base.frzs, I.base.tbls⟩, ⟨_, hn', fun j y v' e1 e2 e3 => ?_⟩, fun y c e => ?_, I.free, I.freeC, fun p hp => ?_, tracked ⟨oL, hoL, I.free⟩ hs, by simpa using I.len⟩ ⟨_, hs, .inl rfl⟩
    · exact (hs.2 b (Nat.ne_of_lt (Nat.lt_of_lt_of_le (Heap.lt_size e) I.ok.above))).trans (I.base.keep b o e n hb hx)
    · obtain ⟨sl, e1⟩ := I.base.slot b o e n hb hx
      exact ⟨sl, (hs.2 b (Nat.ne_of_lt (Nat.lt_of_lt_of_le (Heap.lt_size e) I.ok.above))).trans e1⟩
    · obtain ⟨o', e1⟩ := I.base.there b o e hx
      exact ⟨o', (hs.2 b (Nat.ne_of_lt (Nat.lt_of_lt_of_le (Heap.lt_size e) I.ok.above))).trans e1⟩
    · by_cases hj : j = i
      · subst hj
        rw [hi] at e1; cases e1
        rw [List.getElem?_set_self hiσ] at e2
        cases e2
        exact ⟨u, r, .inl ⟨hk, by simp⟩⟩
      · rw [List.getElem?_set_ne (Ne.symm hj)] at e2
        refine Classical.byContradiction fun hnzq => ?_; obtain ⟨u', r', q⟩ := hl j y v' e1 e2 e3
        refine hnzq ?_; clear hnzq
        refine ⟨u', r', ?_⟩
        rcases q with ⟨k, e⟩ | ⟨k, c, e, z⟩
        · refine .inl ⟨k, ?_⟩
          have : y ≠ x := fun e => hj (nodup_ix hN e1 (e ▸ hi))
          simp [this, e]
        · exact .inr ⟨k, c, e, z.sameBut hs (cne y c e)⟩
    · obtain ⟨w', z⟩ := I.cell y c e
      exact ⟨w', z.sameBut hs (cne y c e)⟩
    · refine Classical.byContradiction fun hnzq => ?_; obtain ⟨e, n, ne, nf, d⟩ := I.pin p hp
      refine hnzq ?_; clear hnzq
      exact ⟨(hs.2 p.1 ne).trans e, n, ne, nf, d⟩
  · have hfn : X.fn x = true := by
      rcases hf with z | z
      · exact z
      · rw [z] at hk; cases hk
    obtain ⟨c, hc⟩ := I.ok.has x (.inl hk)
    obtain ⟨w', z⟩ := I.cell x c hc
    refine wpAny_storeName_cell I.ok.kind hk hc z (fun h' hc' hs => ?_)
    refine Classical.byContradiction fun hnzq => ?_; obtain ⟨oc, hoc, hocd⟩ := id z
    refine hnzq ?_; clear hnzq
    refine h { s with heap := h' } ⟨I.ok, I.os, I.bare, ⟨fun b o e n hb hx => ?_, fun b o e n hb hx => ?_, I.base.free, fun b o e hx => ?_, I.base.tups, I.base.frzs, I.base.tbls⟩, ⟨m, hn.sameBut hs (Ne.symm (cne x c hc)), fun j y v' e1 e2 e3 => ?_⟩, fun y c' e => ?_, I.free, I.freeC, fun p hp => ?_, tracked ⟨oc, hoc, I.freeC x c hc⟩ hs, by simpa using I.len⟩ ⟨c, hs, .inr hc⟩
    · exact (hs.2 b (Nat.ne_of_lt (Nat.lt_of_lt_of_le (Heap.lt_size e) (I.ok.cab x c hfn hc)))).trans (I.base.keep b o e n hb hx)
    · obtain ⟨sl, e1⟩ := I.base.slot b o e n hb hx
      exact ⟨sl, (hs.2 b (Nat.ne_of_lt (Nat.lt_of_lt_of_le (Heap.lt_size e) (I.ok.cab x c hfn hc)))).trans e1⟩
    · obtain ⟨o', e1⟩ := I.base.there b o e hx
      exact ⟨o', (hs.2 b (Nat.ne_of_lt (Nat.lt_of_lt_of_le (Heap.lt_size e) (I.ok.cab x c hfn hc)))).trans e1⟩
    · by_cases hj : j = i
      · subst hj
        rw [hi] at e1; cases e1
        rw [List.getElem?_set_self hiσ] at e2
        cases e2
        exact ⟨u, r, .inr ⟨.inl hk, c, hc, hc'⟩⟩
      · rw [List.getElem?_set_ne (Ne.symm hj)] at e2
        refine Classical.byContradiction fun hnzq => ?_; obtain ⟨u', r', q⟩ := hl j y v' e1 e2 e3
        refine hnzq ?_; clear hnzq
        refine ⟨u', r', ?_⟩
        rcases q with q | ⟨k, c', e, z'⟩
        · exact .inl q
        · refine .inr ⟨k, c', e, z'.sameBut hs ?_⟩
          rintro rfl
          exact hj (nodup_ix hN e1 (I.ok.inj _ _ _ e hc ▸ hi))
    · by_cases hcc : c' = c
      · subst hcc; exact ⟨_, hc'⟩
      · obtain ⟨w2, z2⟩ := I.cell y c' e
        exact ⟨w2, z2.sameBut hs hcc⟩
    · refine Classical.byContradiction fun hnzq => ?_; obtain ⟨e, n, ne, nf, d⟩ := I.pin p hp
      refine hnzq ?_; clear hnzq
      refine ⟨(hs.2 p.1 ?_).trans e, n, ne, nf, d⟩
      intro q
      rw [q, hoc] at e
      have q' : oc = p.2 := Option.some.inj e
      exact d w' (by rw [← q']; exact hocd)
theorem store_ok {M : Model} {A : Around} {E : Value → Shared → Prop} {i : Nat} {x : Str} {v : V} {u : Value} {Q : Unit → Shared → Prop} (I : Inv X pins σ H s) (hN : X.N.Nodup) (hi : X.N[i]? = some x) (hx : Loc X.env.scope x) (r : RelV v u)
    (h : ∀ s', Inv X pins (σ.set i (some v)) H s' → Q () s') (hf : X.fn x = true ∨ X.env.scope.names.lookup x = some .local) : wpAny M A (storeName X.env x u) Q E s :=
  store_ok2 I hN hi hx r (fun s' I' _ => h s' I') hf
theorem Inv.call' {s' : Shared} {ch : List Addr} (I : Inv X pins σ H s) (ho : s'.os = s.os) (u : Un (frs X.stack) ch H H' s.heap s'.heap) (hok : HOk X.prog X.w H' s'.heap) (hg : AllBare s'.gens)
    (hch : ∀ b ∈ ch, (b ∈ X.ex ∨ X.s₀.heap.objs.size ≤ b) ∧ b ≠ X.env.locals ∧ (∀ x c, X.env.cells.lookup x = some c → c ≠ b) ∧ ∀ p ∈ X.pn ++ pins, p.1 ≠ b) : Inv X pins σ H' s' := by
  refine Classical.byContradiction fun hnzq => ?_; obtain ⟨h', g', d', t', o'⟩ := s'
  refine hnzq ?_; clear hnzq
  have e : o' = s.os := ho
  subst e
  exact I.call (g' := g') (t' := t') (d' := d') u hok hg hch
end
noncomputable abbrev XK := Value → Option Addr → Hp → Prop
noncomputable abbrev St := List (Option V)
noncomputable abbrev VK := V → Hp → Prop
noncomputable abbrev TE := St → Hp → VK → Prop
noncomputable abbrev TT := St → Hp → (Bool → Hp → Prop) → Prop
noncomputable abbrev TA := St → Hp → (List V → Hp → Prop) → Prop
set_option genInjectivity false in
set_option genSizeOf false in
set_option genSizeOfSpec false in
structure Ends where
  nx : St → Hp → Prop
  rt : VK
  bk : St → Hp → Prop := fun _ _ => False
  ct : St → Hp → Prop := fun _ _ => False
noncomputable abbrev TS := Ends → St → Hp → Prop
noncomputable def EP (X : Cx) (pins : List (Addr × Obj)) (σ : St) (Q : VK) (u : Value) (s' : Shared) : Prop := ∃ v H', Inv X pins σ H' s' ∧ RelV v u ∧ Q v H'
noncomputable def TP (X : Cx) (pins : List (Addr × Obj)) (σ : St) (Q : Bool → Hp → Prop) (b : Bool) (s' : Shared) : Prop := ∃ H', Inv X pins σ H' s' ∧ Q b H'
noncomputable def AP (X : Cx) (pins : List (Addr × Obj)) (σ : St) (Q : List V → Hp → Prop) (us : List Value) (s' : Shared) : Prop := ∃ vs H', Inv X pins σ H' s' ∧ Vals vs us ∧ Q vs H'
noncomputable def SP (X : Cx) (pins : List (Addr × Obj)) (D : Ends) (f : Flow) (s' : Shared) : Prop :=
  match f with
  | .next => ∃ σ' H', Inv X pins σ' H' s' ∧ D.nx σ' H'
  | .brk => ∃ σ' H', Inv X pins σ' H' s' ∧ D.bk σ' H'
  | .cont => ∃ σ' H', Inv X pins σ' H' s' ∧ D.ct σ' H'
  | .ret u => ∃ v σ' H', Inv X pins σ' H' s' ∧ RelV v u ∧ D.rt v H'
noncomputable def PE (X : Cx) (e : Expr) (t : TE) : Prop :=
  ∀ (pins : List (Addr × Obj)) (s : Shared) (σ : St) (H : Hp) (Q : VK), Inv X pins σ H s → t σ H Q → wpAny (model X.prog X.w) X.A (eval e X.env) (EP X pins σ Q) X.xe s
noncomputable def PT (X : Cx) (e : Expr) (t : TT) : Prop :=
  ∀ (pins : List (Addr × Obj)) (s : Shared) (σ : St) (H : Hp) (Q : Bool → Hp → Prop), Inv X pins σ H s → t σ H Q → wpAny (model X.prog X.w) X.A (isTrue e X.env (eval e X.env)) (TP X pins σ Q) X.xe s
noncomputable def PW (X : Cx) (e : Expr) (t : TT) : Prop :=
  ∀ (whole : Sem Value) (pins : List (Addr × Obj)) (s : Shared) (σ : St) (H : Hp) (Q : Bool → Hp → Prop), Inv X pins σ H s → t σ H Q → wpAny (model X.prog X.w) X.A (isTrue e X.env whole) (TP X pins σ Q) X.xe s
theorem PW.pt {X : Cx} {e : Expr} {t : TT} (h : PW X e t) : PT X e t := h _
noncomputable def PA (X : Cx) (es : List Expr) (t : TA) : Prop :=
  ∀ (pos : Pos) (pins : List (Addr × Obj)) (s : Shared) (σ : St) (H : Hp) (Q : List V → Hp → Prop), Inv X pins σ H s → t σ H Q → wpAny (model X.prog X.w) X.A (spliced (backTo pos (starEach es X.env))) (AP X pins σ Q) X.xe s
noncomputable def PS (X : Cx) (st : Stmt) (t : TS) : Prop :=
  ∀ (pins : List (Addr × Obj)) (s : Shared) (σ : St) (H : Hp) (D : Ends), Inv X pins σ H s → t D σ H → wpAny (model X.prog X.w) X.A (exec st X.env) (SP X pins D) X.xe s
noncomputable def PSs (X : Cx) (st : List Stmt) (t : TS) : Prop :=
  ∀ (pins : List (Addr × Obj)) (s : Shared) (σ : St) (H : Hp) (D : Ends), Inv X pins σ H s → t D σ H → wpAny (model X.prog X.w) X.A (execs st X.env) (SP X pins D) X.xe s
theorem thn {α : Type} {t : Sem α} {Q Q' : α → Shared → Prop} {M : Model} {A : Around} {E : Value → Shared → Prop} {s : Shared} (h : wpAny M A t Q E s) (hQ : ∀ a s, Q a s → Q' a s) : wpAny M A t Q' E s := wpAny_mono h hQ fun _ _ x => x
theorem thnE {X : Cx} {pins : List (Addr × Obj)} {σ : St} {Q : VK} {t : Sem Value} {Q' : Value → Shared → Prop} {M : Model} {A : Around} {E : Value → Shared → Prop} {s : Shared} (h : wpAny M A t (EP X pins σ Q) E s) (k : ∀ v s' x H', Inv X pins σ H' s' → RelV x v → Q x H' → Q' v s') : wpAny M A t Q' E s :=
  thn h fun v s' z => Exists.elim z fun x z => Exists.elim z fun H' z => k v s' x H' z.1 z.2.1 z.2.2
theorem thnA {X : Cx} {pins : List (Addr × Obj)} {σ : St} {Q : List V → Hp → Prop} {t : Sem (List Value)} {Q' : List Value → Shared → Prop} {M : Model} {A : Around} {E : Value → Shared → Prop} {s : Shared} (h : wpAny M A t (AP X pins σ Q) E s) (k : ∀ v s' x H', Inv X pins σ H' s' → Vals x v → Q x H' → Q' v s') : wpAny M A t Q' E s :=
  thn h fun v s' z => Exists.elim z fun x z => Exists.elim z fun H' z => k v s' x H' z.1 z.2.1 z.2.2
end L2
namespace L2
open PySem PySem.Spec PyProof.Rows
section
variable {X : Cx}
noncomputable def tVar (i : Nat) : TE := fun σ H Q => ∃ v, σ[i]? = some (some v) ∧ Q v H
noncomputable def tC (v : V) : TE := fun _ H Q => Q v H
theorem pe_var {i : Nat} {x : Str} {pos : Pos} (hN : X.N[i]? = some x) (hv : Vis X.env.scope x) (hd : (x == ("__debug__" : Str)) = false := by decide) (hcd : (x == ("__classdict__" : Str)) = false := by decide) : PE X (.Name x pos) (tVar i) := by
  intro pins s σ H Q I h
  refine Classical.byContradiction fun hnzq => ?_; obtain ⟨v, e, h⟩ := h
  refine hnzq ?_; clear hnzq
  refine Classical.byContradiction fun hnzq => ?_; obtain ⟨m, hn, hl⟩ := I.loc
  refine hnzq ?_; clear hnzq
  refine Classical.byContradiction fun hnzq => ?_; obtain ⟨u, r, l⟩ := hl i x v hN e hv
  refine hnzq ?_; clear hnzq
  have fin : EP X pins σ Q u s := ⟨v, H, I, r, h⟩
  rcases l with ⟨hk, hm⟩ | ⟨hk, c, hc, hcell⟩
  · exact wpAny_Name (wpAny_loadName_local I.ok.kind hk hn hm fin) hd
  · rcases hk with hk | hk
    · exact wpAny_Name (wpAny_loadName_cell I.ok.kind hk hc hcell fin) hd
    · exact wpAny_Name (wpAny_loadName_free I.ok.kind hk hc hcell fin hcd) hd
theorem pe_int {i j pos} : PE X (.Constant (.int i) j pos) (tC (.int i)) := fun _ _ _ H _ I h => wpAny_Constant_int ⟨.int i, H, I.tok _, ⟨_, rfl⟩, h⟩
theorem pe_bl {b j pos} : PE X (.Constant (.bool b) j pos) (tC (.bl b)) := fun _ _ _ H _ I h => Constant_bool ⟨.bl b, H, I, rfl, h⟩
theorem pe_str {x j pos} : PE X (.Constant (.str x) j pos) (tC (.str x)) := fun _ _ _ H _ I h => Calls.Constant_str ⟨.str x, H, I.tok _, ⟨_, rfl⟩, h⟩
noncomputable def Gl (X : Cx) (x : Str) : Prop := X.env.kindOf x = some .globalImplicit
theorem ld_glob {E : Value → Shared → Prop} {pins : List (Addr × Obj)} {s : Shared} {σ : St} {H : Hp} {x : Str} {u : Value} {pos : Pos} {Q : Value → Shared → Prop} (I : Inv X pins σ H s) (hg : Gl X x) (hm : X.mg x = some u) (h : Q u s)
    (hd : (x == ("__debug__" : Str)) = false := by decide) : wpAny (model X.prog X.w) X.A (eval (.Name x pos) X.env) Q E s :=
  Calls.Name_function_global I.ok.kind hg (Calls.loadGlobal_global (by rw [I.ok.glob]; exact I.mod.glob.keeps I.bk) hm h) hd
theorem ld_blt {E : Value → Shared → Prop} {pins : List (Addr × Obj)} {s : Shared} {σ : St} {H : Hp} {x : Str} {u : Value} {pos : Pos} {Q : Value → Shared → Prop} (I : Inv X pins σ H s) (hg : Gl X x) (hm : X.mg x = none) (hv : bootBuiltins x = some u) (h : Q u s)
    (hn : x ≠ "__name__" := by decide) (hd : (x == ("__debug__" : Str)) = false := by decide) : wpAny (model X.prog X.w) X.A (eval (.Name x pos) X.env) Q E s := by
  refine Classical.byContradiction fun hnzq => ?_; obtain ⟨mb, h1, h2⟩ := I.mod.blt
  refine hnzq ?_; clear hnzq
  exact Calls.Name_function_global I.ok.kind hg (Calls.loadGlobal_builtin (by rw [I.ok.glob]; exact I.mod.glob.keeps I.bk) hm (by rw [I.ok.blt]; exact h1.keeps I.bk) ((h2 x hn).trans hv) h) hd
theorem pe_glob {x : Str} {v : V} {u : Value} {pos : Pos} (hg : Gl X x) (hm : X.mg x = some u) (r : RelV v u) (hd : (x == ("__debug__" : Str)) = false := by decide) : PE X (.Name x pos) (tC v) :=
  fun _ _ _ H _ I h => ld_glob I hg hm ⟨v, H, I, r, h⟩ hd
theorem pe_bltn {x : Str} {v : V} {u : Value} {pos : Pos} (hg : Gl X x) (hm : X.mg x = none) (hv : bootBuiltins x = some u) (r : RelV v u) (hn : x ≠ "__name__" := by decide) (hd : (x == ("__debug__" : Str)) = false := by decide) : PE X (.Name x pos) (tC v) :=
  fun _ _ _ H _ I h => ld_blt I hg hm hv ⟨v, H, I, r, h⟩ hn hd
variable {a b : Expr} {ta tb : TE} {pos : Pos}
noncomputable def tB (t : TE) : TT := fun σ H Q => t σ H fun x H1 => ∃ c, x = .bl c ∧ Q c H1
theorem pt_val {e : Expr} {t : TE} (h : PE X e t) (he : ∀ whole, isTrue e X.env whole = (do let v ← whole; standAt e.pos; holding [v] (truthy v)) := by intro _; rfl) : PT X e (tB t) := by
  intro pins s σ H Q I hw
  refine isTrue_plain (thnE (h pins s σ H _ I hw) fun v s1 x H1 I1 r1 q1 => ?_) (he _)
  refine Classical.byContradiction fun hnzq => ?_; obtain ⟨d, rfl, q⟩ := q1
  refine hnzq ?_; clear hnzq
  cases r1
  exact wpAny_truthy_bool ⟨H1, I1, q⟩
variable {tA tB' : TT} {rest : List Expr}
noncomputable def tOr (t u : TT) : TT := fun σ H Q => t σ H fun c H1 => if c = true then Q true H1 else u σ H1 Q
noncomputable def tNot (t : TT) : TT := fun σ H Q => t σ H fun c H1 => Q (!c) H1
theorem pw_or1 (ha : PT X a tA) : PW X (.BoolOp .Or [a] pos) tA := by
  intro wh pins s σ H Q I h
  refine isTrue_or (thn (ha pins s σ H Q I h) fun c s1 e => ?_)
  cases c with
  | false => exact isTrue_or_nil e
  | true => exact e
theorem pw_or (ha : PT X a tA) (hb : PW X (.BoolOp .Or (b :: rest) pos) tB') : PW X (.BoolOp .Or (a :: b :: rest) pos) (tOr tA tB') := by
  intro wh pins s σ H Q I h
  refine isTrue_or (thn (ha pins s σ H _ I h) fun c s1 zzq => ?_)
  refine Classical.byContradiction fun hnzq => ?_; obtain ⟨H1, I1, q1⟩ := zzq; refine hnzq ?_; clear hnzq
  cases c with
  | true => exact ⟨H1, I1, q1⟩
  | false => exact hb wh pins s1 σ H1 Q I1 q1
theorem pt_not (ha : PT X a tA) : PT X (.UnaryOp .Not a pos) (tNot tA) := by
  intro pins s σ H Q I h
  exact isTrue_not (ha pins s σ H (fun c H1 => Q (!c) H1) I h)
noncomputable def tAndV (ta tb : TE) : TE := fun σ H Q => ta σ H fun x H1 => ∃ c, x = .bl c ∧ if c = true then tb σ H1 Q else Q (.bl false) H1
noncomputable def tOrV (ta tb : TE) : TE := fun σ H Q => ta σ H fun x H1 => ∃ c, x = .bl c ∧ if c = true then Q (.bl true) H1 else tb σ H1 Q
noncomputable def tNotV (ta : TE) : TE := fun σ H Q => ta σ H fun x H1 => ∃ c, x = .bl c ∧ Q (.bl (!c)) H1
theorem pe_one {op} {t : TE} (h : PE X a t) : PE X (.BoolOp op [a] pos) t := fun pins s σ H Q I hw => BoolOp_one (h pins s σ H Q I hw)
theorem pe_and (ha : PE X a ta) (hb : PE X (.BoolOp .And (b :: rest) pos) tb) : PE X (.BoolOp .And (a :: b :: rest) pos) (tAndV ta tb) := by
  intro pins s σ H Q I h
  refine BoolOp_and (thn (ha pins s σ H _ I h) fun v s1 zzq => ?_)
  refine Classical.byContradiction fun hnzq => ?_; obtain ⟨x, H1, I1, r1, q1⟩ := zzq; refine hnzq ?_; clear hnzq
  refine Classical.byContradiction fun hnzq => ?_; obtain ⟨c, rfl, q1⟩ := q1
  refine hnzq ?_; clear hnzq
  cases r1
  refine wpAny_truthy_bool ?_
  cases c with
  | true => exact hb pins s1 σ H1 Q I1 q1
  | false => exact ⟨.bl false, H1, I1, rfl, q1⟩
theorem pe_or (ha : PE X a ta) (hb : PE X (.BoolOp .Or (b :: rest) pos) tb) : PE X (.BoolOp .Or (a :: b :: rest) pos) (tOrV ta tb) := by
  intro pins s σ H Q I h
  refine BoolOp_or (thn (ha pins s σ H _ I h) fun v s1 zzq => ?_)
  refine Classical.byContradiction fun hnzq => ?_; obtain ⟨x, H1, I1, r1, q1⟩ := zzq; refine hnzq ?_; clear hnzq
  refine Classical.byContradiction fun hnzq => ?_; obtain ⟨c, rfl, q1⟩ := q1
  refine hnzq ?_; clear hnzq
  cases r1
  refine wpAny_truthy_bool ?_
  cases c with
  | false => exact hb pins s1 σ H1 Q I1 q1
  | true => exact ⟨.bl true, H1, I1, rfl, q1⟩
theorem pe_not (ha : PE X a ta) : PE X (.UnaryOp .Not a pos) (tNotV ta) := by
  intro pins s σ H Q I h
  refine UnaryOp_ (thn (ha pins s σ H _ I h) fun v s1 zzq => ?_)
  refine Classical.byContradiction fun hnzq => ?_; obtain ⟨x, H1, I1, r1, q1⟩ := zzq; refine hnzq ?_; clear hnzq
  refine Classical.byContradiction fun hnzq => ?_; obtain ⟨c, rfl, q1⟩ := q1
  refine hnzq ?_; clear hnzq
  cases r1
  exact not_of (wpAny_truthy_bool ⟨.bl (!c), H1, I1, rfl, q1⟩)
end
end L2
namespace L2
open PySem PySem.Spec PyProof.Rows
noncomputable def SqL (K : PySem.W.Frag) (H : Hp) (a : Addr) (xs : List V) : Prop :=
  Rd H a (.lst xs) ∨
    ∃ (o : Obj) (its : Array Value) (n : Nat), K.lookup a = some o ∧ o.cls = .type "list" ∧ o.dict = none ∧ o.data = .seq its n ∧ its.size ≤ sizeLine ∧ Vals xs its.toList
noncomputable def SqT (K : PySem.W.Frag) (H : Hp) (a : Addr) (xs : List V) : Prop :=
  Rd H a (.tup xs) ∨
    ∃ (o : Obj) (its : Array Value) (n : Nat), K.lookup a = some o ∧ o.cls = .type "tuple" ∧ o.data = .seq its n ∧ its.size ≤ sizeLine ∧ Vals xs its.toList
noncomputable def absV : Value → Option V
  | .none => some .non
  | .bool b => some (.bl b)
  | .int i _ => some (.int i)
  | .str x _ => some (.str x)
  | .bytes b _ => some (.byt b)
  | .float b _ => some (.flt b)
  | .ref a => some (.ref a)
  | .type n => some (.ty n)
  | _ => none
theorem RelV.abs {x : V} {u : Value} (r : RelV x u) : absV u = some x := by
  cases x with
  | non => cases r; rfl
  | bl _ => cases r; rfl
  | int _ => obtain ⟨t, rfl⟩ := r; rfl
  | str _ => obtain ⟨t, rfl⟩ := r; rfl
  | byt _ => obtain ⟨t, rfl⟩ := r; rfl
  | flt _ => obtain ⟨t, rfl⟩ := r; rfl
  | ref _ => cases r; rfl
  | ty _ => cases r; rfl
theorem RelV.inj {x y : V} {u : Value} (r : RelV x u) (q : RelV y u) : x = y := Option.some.inj (r.abs.symm.trans q.abs)
theorem Vals.inj {xs ys : List V} {us : List Value} (r : Vals xs us) : Vals ys us → xs = ys := by
  unfold Vals at r
  induction r generalizing ys with
  | nil => intro h; cases h; rfl
  | cons r t ih =>
    intro h
    cases h with
    | cons r' t' => rw [r.inj r', ih t']
section
variable {X : Cx} {pins : List (Addr × Obj)} {σ : St} {H : Hp} {s : Shared} {a : Addr} {xs ys : List V}
theorem Inv.list (I : Inv X pins σ H s) (h : SqL X.K H a xs) : ∃ its : List Value, Vals xs its ∧ PlainL s.heap a its.toArray ∧ xs.length ≤ sizeLine := by
  rcases h with h | ⟨o, its, n, hk, hc, hd, hs, hz, r⟩
  · refine Classical.byContradiction fun hnzq => ?_; obtain ⟨z, its, n, r, e⟩ := h.ok I.hok
    refine hnzq ?_; clear hnzq
    exact ⟨its, r, ⟨_, n, e, rfl, rfl, rfl⟩, z⟩
  · refine ⟨its.toList, r, ⟨o, n, I.kIn a o hk, hc, hd, by simpa using hs⟩, ?_⟩
    have e := r.length
    simp only [Array.length_toList] at e
    lia
theorem Inv.tuple (I : Inv X pins σ H s) (h : SqT X.K H a xs) : ∃ its : List Value, Vals xs its ∧ IsTup s.heap a its.toArray ∧ xs.length ≤ sizeLine := by
  rcases h with h | ⟨o, its, n, hk, hc, hs, hz, r⟩
  · refine Classical.byContradiction fun hnzq => ?_; obtain ⟨z, its, r, p⟩ := h.ok I.hok
    refine hnzq ?_; clear hnzq
    exact ⟨its, r, p, z⟩
  · refine ⟨its.toList, r, ⟨o, I.kIn a o hk, hc, n, by simpa using hs⟩, ?_⟩
    have e := r.length
    simp only [Array.length_toList] at e
    omega
theorem Inv.list_inj (I : Inv X pins σ H s) (h : SqL X.K H a xs) (h' : SqL X.K H a ys) : xs = ys := by
  refine Classical.byContradiction fun hnzq => ?_; obtain ⟨its, r, ⟨o, n, e, _, _, d⟩, _⟩ := I.list h
  refine hnzq ?_; clear hnzq
  refine Classical.byContradiction fun hnzq => ?_; obtain ⟨its', r', ⟨o', n', e', _, _, d'⟩, _⟩ := I.list h'
  refine hnzq ?_; clear hnzq
  rw [e] at e'; cases e'
  rw [d] at d'
  injection d' with d1 _
  have : its = its' := by simpa using congrArg Array.toList d1
  subst this
  exact r.inj r'
end
noncomputable abbrev Cx.wish (X : Cx) (E : Value → Shared → Prop) : Cx := { X with xe := E }
noncomputable abbrev Cx.nox (X : Cx) : Cx := X.wish fun _ _ => False
theorem Cx.Ok.wish {X : Cx} (ok : X.Ok) (E : Value → Shared → Prop) : (X.wish E).Ok :=
  ⟨ok.mod, ok.kind, ok.glob, ok.blt, ok.above, ok.inj, ok.has, ok.cab, ok.hd, ok.frames, ok.stk, ok.exf, ok.bs, ok.bsz, ok.noex, ok.exfs, ok.funs, ok.frf⟩
theorem Cx.Ok.unwish {X : Cx} {E : Value → Shared → Prop} (ok : (X.wish E).Ok) : X.Ok :=
  ⟨ok.mod, ok.kind, ok.glob, ok.blt, ok.above, ok.inj, ok.has, ok.cab, ok.hd, ok.frames, ok.stk, ok.exf, ok.bs, ok.bsz, ok.noex, ok.exfs, ok.funs, ok.frf⟩
section
variable {X : Cx} {pins : List (Addr × Obj)} {σ : St} {H : Hp} {s : Shared} {E : Value → Shared → Prop}
theorem Inv.wish (I : Inv X pins σ H s) (E : Value → Shared → Prop) : Inv (X.wish E) pins σ H s := ⟨I.ok.wish E, I.os, I.bare, I.base, I.loc, I.cell, I.free, I.freeC, I.pin, I.hok, I.len⟩
theorem Inv.unwish (I : Inv (X.wish E) pins σ H s) : Inv X pins σ H s := ⟨I.ok.unwish, I.os, I.bare, I.base, I.loc, I.cell, I.free, I.freeC, I.pin, I.hok, I.len⟩
theorem SP.unwish {D : Ends} {f : Flow} {s' : Shared} (h : SP (X.wish E) pins D f s') : SP X pins D f s' := by
  cases f with
  | next => refine Classical.byContradiction fun hnzq => ?_; obtain ⟨σ', H', I, q⟩ := h; refine hnzq ?_; clear hnzq; exact ⟨σ', H', I.unwish, q⟩
  | brk => refine Classical.byContradiction fun hnzq => ?_; obtain ⟨σ', H', I, q⟩ := h; refine hnzq ?_; clear hnzq; exact ⟨σ', H', I.unwish, q⟩
  | cont => refine Classical.byContradiction fun hnzq => ?_; obtain ⟨σ', H', I, q⟩ := h; refine hnzq ?_; clear hnzq; exact ⟨σ', H', I.unwish, q⟩
  | ret u => refine Classical.byContradiction fun hnzq => ?_; obtain ⟨v, σ', H', I, r, q⟩ := h; refine hnzq ?_; clear hnzq; exact ⟨v, σ', H', I.unwish, r, q⟩
theorem PSs.nox {st : List Stmt} {t : TS} (h : PSs X.nox st t) : PSs X st t := fun pins s σ H D I hw =>
  wpAny_mono (h pins s σ H D (I.wish _) hw) (fun _ _ q => q.unwish) fun _ _ z => False.elim z
end
section
variable {X : Cx} {st : Stmt} {rest : List Stmt} {t u : TS} {e : Expr} {te : TE} {pos : Pos}
noncomputable def tNext : TS := fun D σ H => D.nx σ H
noncomputable def tSeq (t u : TS) : TS := fun D σ H => t { D with nx := u D } σ H
theorem pss_nil : PSs X [] tNext := fun _ _ σ H _ I h => wpAny_execs_nil ⟨σ, H, I, h⟩
theorem pss_cons (h1 : PS X st t) (h2 : PSs X rest u) : PSs X (st :: rest) (tSeq t u) := by
  intro pins s σ H D I h
  refine wpAny_execs_cons (thn (h1 pins s σ H { D with nx := u D } I h) fun f s1 q => ?_)
  cases f with
  | next =>
    refine Classical.byContradiction fun hnzq => ?_; obtain ⟨σ', H', I', q⟩ := q
    refine hnzq ?_; clear hnzq
    exact h2 pins s1 σ' H' D I' q
  | ret v => exact q
  | brk => exact q
  | cont => exact q
theorem pss_one (h1 : PS X st t) : PSs X [st] t := by
  intro pins s σ H D I h
  refine wpAny_execs_cons (thn (h1 pins s σ H D I h) fun f s1 q => ?_)
  cases f with
  | next => exact wpAny_execs_nil q
  | ret v => exact q
  | brk => exact q
  | cont => exact q
theorem Inv.quiet {pins : List (Addr × Obj)} {σ : St} {H : Hp} {s : Shared} (I : Inv X pins σ H s) : interactive X.env = false := by simp [interactive, I.ok.kind]
noncomputable def tRet (te : TE) : TS := fun D σ H => te σ H D.rt
theorem ps_ret (he : PE X e te) : PS X (.Return (some e) pos) (tRet te) := by
  intro pins s σ H D I h
  exact wpAny_Return_some (thnE (he pins s σ H _ I h) fun v s1 x H1 I1 r1 q1 => ⟨x, σ, H1, I1, r1, q1⟩)
noncomputable def tIfS (c : TT) (t u : TS) : TS := fun D σ H => c σ H fun b H1 => if b = true then t D σ H1 else u D σ H1
theorem ps_if {c : Expr} {a b : List Stmt} {tc : TT} (hc : PT X c tc) (ha : PSs X a t) (hb : PSs X b u) : PS X (.If c a b pos) (tIfS tc t u) := by
  intro pins s σ H D I h
  refine wpAny_If (thn (hc pins s σ H _ I h) fun d s1 zzq => ?_)
  refine Classical.byContradiction fun hnzq => ?_; obtain ⟨H1, I1, q1⟩ := zzq; refine hnzq ?_; clear hnzq
  cases d with
  | true => exact ha pins s1 σ H1 D I1 q1
  | false => exact hb pins s1 σ H1 D I1 q1
end
noncomputable abbrev TG := V → St → Hp → (St → Hp → Prop) → Prop
noncomputable abbrev TGs := List V → St → Hp → (St → Hp → Prop) → Prop
noncomputable def PG (X : Cx) (target : Expr) (t : TG) : Prop :=
  ∀ (pins : List (Addr × Obj)) (s : Shared) (σ : St) (H : Hp) (v : V) (u : Value) (Q : St → Hp → Prop), Inv X pins σ H s → RelV v u → t v σ H Q →
    wpAny (model X.prog X.w) X.A (assign target X.env u) (fun _ s' => ∃ σ' H', Inv X pins σ' H' s' ∧ Q σ' H') X.xe s
noncomputable def PGs (X : Cx) (ts : List Expr) (t : TGs) : Prop :=
  ∀ (pins : List (Addr × Obj)) (s : Shared) (σ : St) (H : Hp) (vs : List V) (us : List Value) (Q : St → Hp → Prop), Inv X pins σ H s → Vals vs us → t vs σ H Q →
    wpAny (model X.prog X.w) X.A (assignInOrder ((assignEach ts X.env).map (·.2)) us) (fun _ s' => ∃ σ' H', Inv X pins σ' H' s' ∧ Q σ' H') X.xe s
section
variable {X : Cx} {pos : Pos}
noncomputable def gName (i : Nat) : TG := fun v σ H Q => Q (σ.set i (some v)) H
theorem pg_name {i : Nat} {x : Str} (hN : X.N.Nodup) (hi : X.N[i]? = some x) (hx : Loc X.env.scope x) (hf : X.fn x = true ∨ X.env.scope.names.lookup x = some .local) : PG X (.Name x pos) (gName i) := by
  intro pins s σ H v u Q I r h
  exact wpAny_assign_Name (store_ok I hN hi hx r (fun s' I' => ⟨_, H, I', h⟩) hf)
noncomputable def gNil : TGs := fun vs σ H Q => vs = [] ∧ Q σ H
noncomputable def gCons (t : TG) (u : TGs) : TGs := fun vs σ H Q => ∃ v r, vs = v :: r ∧ t v σ H fun σ' H' => u r σ' H' Q
theorem pgs_nil : PGs X [] gNil := by
  intro pins s σ H vs us Q I r h
  obtain ⟨e, h⟩ := h
  subst e
  cases r
  exact assignInOrder_nil ⟨σ, H, I, h⟩
theorem pgs_cons {e : Expr} {es : List Expr} {t : TG} {u : TGs} (h1 : PG X e t) (h2 : PGs X es u)
    (hs : (assignEach (e :: es) X.env).map (·.2) = assign e X.env :: (assignEach es X.env).map (·.2) := by rfl) : PGs X (e :: es) (gCons t u) := by
  intro pins s σ H vs us Q I r h
  refine Classical.byContradiction fun hnzq => ?_; obtain ⟨v, vr, e1, h⟩ := h
  refine hnzq ?_; clear hnzq
  subst e1
  cases r with
  | cons r rr =>
    rw [hs]
    refine assignInOrder_cons (thn (h1 pins s σ H _ _ _ I r h) fun _ s1 zzq => ?_)
    refine Classical.byContradiction fun hnzq => ?_; obtain ⟨σ1, H1, I1, q1⟩ := zzq; refine hnzq ?_; clear hnzq
    exact h2 pins s1 σ1 H1 _ _ Q I1 rr q1
noncomputable def gTup (K : PySem.W.Frag) (n : Nat) (t : TGs) : TG := fun v σ H Q => ∃ a xs, v = .ref a ∧ SqT K H a xs ∧ xs.length = n ∧ t xs σ H Q
theorem pg_tup {es : List Expr} {k : Nat} {t : TGs} {n : Nat} (hc : X.calm = true) (h : PGs X es t)
    (hn : (assignEach es X.env).length = n := by rfl) (hst : (assignEach es X.env).findIdx? (·.1) = none := by rfl) : PG X (.Tuple es k pos) (gTup X.K n t) := by
  intro pins s σ H v u Q I r hw
  refine Classical.byContradiction fun hnzq => ?_; obtain ⟨a, xs, e1, hq, hl, hw⟩ := hw
  refine hnzq ?_; clear hnzq
  subst e1
  cases r
  refine Classical.byContradiction fun hnzq => ?_; obtain ⟨its, rv, ht, hz⟩ := I.tuple hq
  refine hnzq ?_; clear hnzq
  refine assign_Tuple_tuple (I.ok.hd hc) ht (by simp [hn, ← hl, rv.length]) hst fun h' hx => ?_
  have I1 : Inv X pins σ H { s with heap := h' } := I.kept (t' := s.toks) fun b o e => hx b o (Nat.ne_of_lt (Heap.lt_size e)) e
  exact h pins _ σ H xs _ Q I1 (by simpa using rv) hw
noncomputable def tAsg (te : TE) (g : TG) : TS := fun D σ H => te σ H fun x H1 => g x σ H1 D.nx
theorem ps_set {i : Nat} {x : Str} {e : Expr} {te : TE} {pos' : Pos} (hN : X.N.Nodup) (hi : X.N[i]? = some x) (hx : Loc X.env.scope x) (hf : X.fn x = true ∨ X.env.scope.names.lookup x = some .local) (he : PE X e te) (hs : swapsWith e (some (.Name x pos')) pos.line X.env = pure false := by rfl) :
    PS X (.Assign [.Name x pos'] e pos) (tAsg te (gName i)) := by
  intro pins s σ H D I h
  refine wpAny_Assign_Name (thnE (he pins s σ H _ I h) fun v s1 y H1 I1 r1 q1 => ?_) hs
  exact store_ok I1 hN hi hx r1 (fun s2 I2 => ⟨_, H1, I2, q1⟩) hf
end
section
variable {X : Cx} {pos : Pos}
end
set_option genInjectivity false in
set_option genSizeOf false in
set_option genSizeOfSpec false in
structure It where
  go : Nat → Hp → Prop
  yld : Nat → Hp → V → Hp → Prop
  stop : Nat → Hp → Prop
noncomputable def FpOk (X : Cx) (pins : List (Addr × Obj)) (H : Hp) (b : Addr) : Prop :=
  H b = none ∧ b ≠ X.env.locals ∧ b ∉ X.fs ∧ (b ∈ X.ex ∨ X.s₀.heap.objs.size ≤ b) ∧ (∀ x c, X.env.cells.lookup x = some c → c ≠ b) ∧ ∀ p ∈ X.pn ++ pins, p.1 ≠ b
theorem Inv.fpOk {X : Cx} {pins : List (Addr × Obj)} {σ : St} {H H' : Hp} {s : Shared} {b : Addr} (I : Inv X pins σ H s) (hb : s.heap.objs.size ≤ b) (hn : H' b = none) : FpOk X pins H' b := by
  refine ⟨hn, Nat.ne_of_gt (Nat.lt_of_lt_of_le I.lt hb), I.nofs hb, .inr (Nat.le_trans I.sz hb), fun x c e z => ?_, fun p hp z => ?_⟩
  · obtain ⟨v, q⟩ := I.cell x c e
    exact absurd (Nat.lt_of_lt_of_le q.lt (by rw [z]; exact hb)) (Nat.lt_irrefl _)
  · exact absurd (Nat.lt_of_lt_of_le (Heap.lt_size (I.pin p hp).1) (by rw [z]; exact hb)) (Nat.lt_irrefl _)
set_option genInjectivity false in
set_option genSizeOf false in
set_option genSizeOfSpec false in
structure Turn (P : Program) (w : World) (K : PySem.W.Frag) (tg : Expr) (J : It) (fp : List Addr) (it : Addr) (tn : Nat → Heap → Prop) : Prop where
  mem : it ∈ fp
  obj : ∀ i h, tn i h → ∀ b ∈ fp, ∃ o, h.get? b = some o ∧ ∀ v, o.data ≠ .cell v
  keep : ∀ i h h', tn i h → (∀ b ∈ fp, ∀ o, h.get? b = some o → h'.get? b = some o) → tn i h'
  item : ∀ (X : Cx), X.prog = P → X.w = w → X.K = K → X.calm = true → ∀ (i : Nat) (pins : List (Addr × Obj)) (s : Shared) (σ : St) (H : Hp) (E : Value → Shared → Prop), Inv X pins σ H s → (∀ b ∈ fp, FpOk X pins H b) → tn i s.heap → J.go i H →
    wpAny (model P w) X.A (pyNext (.ref it)) (fun r s1 => ∃ u, r = some u ∧
      wpAny (model P w) X.A (letOwnedTupleGo tg (.ref it) u) (fun _ s2 => ∃ x H', Inv X pins σ H' s2 ∧ RelV x u ∧ J.yld i H x H' ∧ tn (i + 1) s2.heap ∧ ∀ b ∈ fp, H' b = none) E s1) E s
  done : ∀ (X : Cx), X.prog = P → X.w = w → X.K = K → X.calm = true → ∀ (i : Nat) (pins : List (Addr × Obj)) (s : Shared) (σ : St) (H : Hp) (E : Value → Shared → Prop), Inv X pins σ H s → (∀ b ∈ fp, FpOk X pins H b) → tn i s.heap → J.stop i H →
    wpAny (model P w) X.A (pyNext (.ref it)) (fun r s1 => r = none ∧ Inv X pins σ H s1) E s
  self : ∀ (A : Around) (i : Nat) (s : Shared) (Q : Value → Shared → Prop) (E : Value → Shared → Prop), tn i s.heap → Q (.ref it) s → wpAny (model P w) A (pyIter (.ref it)) Q E s
noncomputable abbrev TI := St → Hp → (It → Hp → Prop) → Prop
noncomputable def PIE (X : Cx) (pins : List (Addr × Obj)) (σ : St) (tg : Expr) (R : It → Hp → Prop) (itv : Value) (s2 : Shared) : Prop :=
  ∃ (it : Addr) (fp : List Addr) (tn : Nat → Heap → Prop) (J : It) (H' : Hp), itv = .ref it ∧ Inv X pins σ H' s2 ∧ Turn X.prog X.w X.K tg J fp it tn ∧ tn 0 s2.heap ∧ (∀ b ∈ fp, FpOk X pins H' b) ∧ R J H'
noncomputable def PI (X : Cx) (tg iter : Expr) (wi : TI) : Prop :=
  ∀ (pins : List (Addr × Obj)) (s : Shared) (σ : St) (H : Hp) (R : It → Hp → Prop), Inv X pins σ H s → wi σ H R →
    wpAny (model X.prog X.w) X.A (eval iter X.env) (fun v s1 => wpAny (model X.prog X.w) X.A (pyIter v) (PIE X pins σ tg R) X.xe s1) X.xe s
theorem go_of {M : Model} {A : Around} {E : Value → Shared → Prop} {s : Shared} {tg : Expr} {it : Addr} {u : Value} {o : Obj} {n : String} {vs : Array Value} {Q : Unit → Shared → Prop} (ho : s.heap.get? it = some o) (hc : o.cls = .type n) (hd : o.data = .fields vs)
    (hn : ["enumerate", "zip", "dict_itemiterator", "dict_reverseitemiterator", "odict_iterator", "itertools.zip_longest", "itertools.pairwise"].contains n = false) (hQ : Q () s) : wpAny M A (letOwnedTupleGo tg (.ref it) u) Q E s := by
  unfold letOwnedTupleGo
  cases tg <;> first
    | exact wpAny_pure hQ
    | (cases u <;> first
        | exact wpAny_pure hQ
        | (refine wpAny_bind (wpAny_load ho ?_)
           rw [hc, hd]
           show wpAny M A (if (["enumerate", "zip", "dict_itemiterator", "dict_reverseitemiterator", "odict_iterator", "itertools.zip_longest", "itertools.pairwise"].contains n && vs[0]? == some (rawInt _)) = true then _ else _) Q E s
           rw [if_neg (by intro h; rw [hn, Bool.false_and] at h; cases h)]
           exact wpAny_pure hQ))
noncomputable def Itl (K : PySem.W.Frag) (a : Addr) : It :=
  ⟨fun i H => ∃ xs x, SqL K H a xs ∧ xs[i]? = some x, fun i H x H' => H' = H ∧ ∀ xs, SqL K H a xs → xs[i]? = some x, fun i H => ∃ xs, SqL K H a xs ∧ xs.length ≤ i⟩
noncomputable def Itr (lo : Int) (n : Nat) : It := ⟨fun i _ => i < n, fun i H x H' => H' = H ∧ x = .int (lo + i), fun i _ => n ≤ i⟩
theorem turn_list {P : Program} {w : World} {K : PySem.W.Frag} {tg : Expr} (a it : Addr) : Turn P w K tg (Itl K a) [it] it (fun i h => h.IsListIter it a i) where
  mem := by simp
  obj := fun i h st b hb => by
    have e : b = it := by simpa using hb
    subst e
    refine Classical.byContradiction fun hnzq => ?_; obtain ⟨o, e, c, d⟩ := st
    refine hnzq ?_; clear hnzq
    exact ⟨o, e, fun v z => by rw [d] at z; cases z⟩
  keep := fun i h h' st k => st.at fun o e => k it (by simp) o e
  item := by
    intro X hP hw hK hc i pins s σ H E I hf st hg
    subst hP hw hK
    refine Classical.byContradiction fun hnzq => ?_; obtain ⟨xs, x, hq, hx⟩ := hg
    refine hnzq ?_; clear hnzq
    refine Classical.byContradiction fun hnzq => ?_; obtain ⟨its, rv, p, hz⟩ := I.list hq
    refine hnzq ?_; clear hnzq
    refine Classical.byContradiction fun hnzq => ?_; obtain ⟨u, hu, ru⟩ := rv.get hx
    refine hnzq ?_; clear hnzq
    refine Classical.byContradiction fun hnzq => ?_; obtain ⟨f0, f1, f2, f3, f4, f5⟩ := hf it (by simp)
    refine hnzq ?_; clear hnzq
    refine wpAny_pyNext_list_item st p.isList (x := u) (by simpa using hu) fun h' st' sb => ?_
    have I1 : Inv X pins σ H { s with heap := h' } := I.turned (t' := s.toks) (fun b o hb e => (sb.2 b hb).trans e) f0 f1 f3 f4 f5
    refine Classical.byContradiction fun hnzq => ?_; obtain ⟨o, e, c, d⟩ := id st'
    refine hnzq ?_; clear hnzq
    exact ⟨u, rfl, go_of (s := { s with heap := h' }) e c d (by decide) ⟨x, H, I1, ru, ⟨rfl, fun ys hy => by rw [I.list_inj hy hq]; exact hx⟩, st', fun b hb => (hf b hb).1⟩⟩
  done := by
    intro X hP hw hK hc i pins s σ H E I hf st hg
    subst hP hw hK
    refine Classical.byContradiction fun hnzq => ?_; obtain ⟨xs, hq, hx⟩ := hg
    refine hnzq ?_; clear hnzq
    refine Classical.byContradiction fun hnzq => ?_; obtain ⟨its, rv, p, hz⟩ := I.list hq
    refine hnzq ?_; clear hnzq
    refine Classical.byContradiction fun hnzq => ?_; obtain ⟨f0, f1, f2, f3, f4, f5⟩ := hf it (by simp)
    refine hnzq ?_; clear hnzq
    have hl := rv.length
    exact wpAny_pyNext_list_end (I.ok.hd hc) st p.isList (by simp; lia) fun h' eb => ⟨rfl, I.turned (t' := s.toks) (fun b o hb e => eb b o hb e) f0 f1 f3 f4 f5⟩
  self := fun _ _ _ _ _ st h => wpAny_pyIter_listiter st h
theorem turn_range {P : Program} {w : World} {K : PySem.W.Frag} {tg : Expr} (it : Addr) (lo : Int) (n : Nat) : Turn P w K tg (Itr lo n) [it] it (fun i h => IsRangeIter h it (lo + (i : Nat) * 1) ((n : Int) - (i : Nat)) 1) where
  mem := by simp
  obj := fun i h st b hb => by
    have e : b = it := by simpa using hb
    subst e
    exact ⟨_, st, fun v z => by
      have z' : Data.fields _ = Data.cell v := z
      cases z'⟩
  keep := fun i h h' st k => k it (by simp) _ st
  item := by
    intro X hP hw hK hc i pins s σ H E I hf st hg
    subst hP hw hK
    refine Classical.byContradiction fun hnzq => ?_; obtain ⟨f0, f1, f2, f3, f4, f5⟩ := hf it (by simp)
    refine hnzq ?_; clear hnzq
    have W := Walks.range (prog := X.prog) (w := X.w) (I.ok.hd hc) it lo 1 n
    refine W.item i s _ _ hg st fun v h' tk hv st' kk => ?_
    obtain ⟨t, rfl⟩ := hv
    have I1 : Inv X pins σ H { s with heap := h', toks := tk } := I.turned (fun b o hb e => kk b o (by simpa using hb) e) f0 f1 f3 f4 f5
    refine ⟨_, rfl, go_of (s := { s with heap := h', toks := tk }) (n := "range_iterator") st' rfl rfl (by decide) ⟨.int (lo + i), H, I1, ⟨t, ?_⟩, ⟨rfl, rfl⟩, st', fun b hb => (hf b hb).1⟩⟩
    rw [Int.mul_one]
  done := by
    intro X hP hw hK hc i pins s σ H E I hf st hg
    subst hP hw hK
    refine Classical.byContradiction fun hnzq => ?_; obtain ⟨f0, f1, f2, f3, f4, f5⟩ := hf it (by simp)
    refine hnzq ?_; clear hnzq
    exact wpAny_pyNext_range_end (I.ok.hd hc) st (by have : n ≤ i := hg; lia) fun h' eb => ⟨rfl, I.turned (t' := s.toks) (fun b o hb e => eb b o hb e) f0 f1 f3 f4 f5⟩
  self := fun _ _ _ _ _ st h => wpAny_pyIter_rangeiter st h
end L2
namespace L2
open PySem PySem.Spec PyProof.Rows
section
variable {X : Cx} {tg : Expr}
noncomputable def iList (K : PySem.W.Frag) (tl : TE) : TI := fun σ H R => tl σ H fun x H1 => ∃ a, x = .ref a ∧ (∃ xs, SqL K H1 a xs) ∧ R (Itl K a) H1
theorem pi_list {l : Expr} {tl : TE} (hl : PE X l tl) : PI X tg l (iList X.K tl) := by
  intro pins s σ H R I h
  refine thn (hl pins s σ H _ I h) fun v s1 zzq => ?_
  refine Classical.byContradiction fun hnzq => ?_; obtain ⟨x, H1, I1, r1, q1⟩ := zzq; refine hnzq ?_; clear hnzq
  refine Classical.byContradiction fun hnzq => ?_; obtain ⟨a, e, ⟨xs, hq⟩, q⟩ := q1
  refine hnzq ?_; clear hnzq
  subst e
  cases r1
  refine Classical.byContradiction fun hnzq => ?_; obtain ⟨its, rv, p, hz⟩ := I1.list hq
  refine hnzq ?_; clear hnzq
  refine wpAny_pyIter_list p.isList ?_
  refine ⟨s1.heap.objs.size, [s1.heap.objs.size], _, _, H1, rfl, I1.kept (t' := s1.toks) fun b o e => Heap.get?_push_of_some _ e, turn_list a _, ⟨_, Heap.get?_push_size _ rfl, rfl, rfl⟩, fun b hb => ?_, q⟩
  have e : b = s1.heap.objs.size := by simpa using hb
  subst e
  exact I1.fpOk (Nat.le_refl _) (I1.hok.fresh (Nat.le_refl _))
theorem range_it {pins : List (Addr × Obj)} {σ : St} {H : Hp} {s : Shared} {R : It → Hp → Prop} {E : Value → Shared → Prop} {lo hi : Int} {t u v : Tok} {tk : Nat} (I : Inv X pins σ H s) (h1 : -(2 ^ 62) ≤ lo) (h2 : lo < 2 ^ 62) (h3 : -(2 ^ 62) ≤ hi) (h4 : hi < 2 ^ 62)
    (q : R (Itr lo (hi - lo).toNat) H) : wpAny (model X.prog X.w) X.A (pyIter (.ref s.heap.objs.size)) (PIE X pins σ tg R) E { s with heap := s.heap.push { cls := .type "range", data := .fields #[.int lo t, .int hi u, .int 1 v] }, toks := tk } := by
  refine wpAny_pyIter_range (IsRange.new ..) (small_one h1 h2 h3 h4) ?_
  have I1 : Inv X pins σ H { s with heap := s.heap.push { cls := .type "range", data := .fields #[.int lo t, .int hi u, .int 1 v] }, toks := tk } := I.kept fun b o e => Heap.get?_push_of_some _ e
  refine ⟨(s.heap.push { cls := .type "range", data := .fields #[.int lo t, .int hi u, .int 1 v] }).objs.size, [(s.heap.push { cls := .type "range", data := .fields #[.int lo t, .int hi u, .int 1 v] }).objs.size], _, _, H, rfl,
    I1.kept (t' := tk) fun b o e => Heap.get?_push_of_some _ e, turn_range _ lo (hi - lo).toNat, ?_, fun b hb => ?_, q⟩
  · have e1 : lo + ((0 : Nat) : Int) * 1 = lo := by simp
    have e2 : (((hi - lo).toNat : Nat) : Int) - ((0 : Nat) : Int) = Builtin.Range.rangeSize lo hi 1 := by rw [rangeSize_one]; split <;> lia
    show IsRangeIter _ _ (lo + ((0 : Nat) : Int) * 1) ((((hi - lo).toNat : Nat) : Int) - ((0 : Nat) : Int)) 1
    rw [e1, e2]
    exact Heap.get?_push_size _ rfl
  · have e : b = (s.heap.push { cls := .type "range", data := .fields #[.int lo t, .int hi u, .int 1 v] }).objs.size := by simpa using hb
    subst e
    exact I1.fpOk (Nat.le_refl _) (I1.hok.fresh (Nat.le_refl _))
noncomputable def iRng1 (ta : TA) : TI := fun σ H R => ta σ H fun vs H1 => ∃ j : Int, vs = [.int j] ∧ -(2 ^ 62) ≤ j ∧ j < 2 ^ 62 ∧ R (Itr 0 j.toNat) H1
theorem pi_range1 {a : Expr} {ta : TA} {p pos : Pos} (hg : Gl X "range") (hm : X.mg "range" = none) (ha : PA X [a] ta) (hs : starEach [a] X.env = [(false, eval a X.env)] := by rfl) : PI X tg (.Call (.Name "range" p) [a] [] pos) (iRng1 ta) := by
  intro pins s σ H R I h
  refine Call_ (ld_blt I hg hm boot_range (PyProof.Rows.callWith_type1 (thnA (ha pos pins s σ H _ I h) fun us s1 vs H1 I1 r1 q1 => ?_) hs rfl))
  refine Classical.byContradiction fun hnzq => ?_; obtain ⟨j, e, q1, q2, q⟩ := q1
  refine hnzq ?_; clear hnzq
  subst e
  cases r1 with
  | cons r rr =>
    cases rr
    obtain ⟨t, rfl⟩ := r
    exact call_range_1 (range_it I1 (by (exact Int.ofNat_nonneg _)) (by (exact Int.ofNat_nonneg _)) q1 q2 (by simpa using q))
noncomputable def tFor (wi : TI) (g : TG) (tb : TS) : TS := fun D σ H => wi σ H fun J H1 => ∃ W : Nat → Nat → St → Hp → Prop, (∃ m, W 0 m σ H1) ∧ ∀ i m σ H, W i m σ H →
  (J.stop i H ∧ D.nx σ H) ∨ (J.go i H ∧ ∃ N : St → Hp → Prop, (∀ σ' H', N σ' H' → ∃ m', m' < m ∧ W (i + 1) m' σ' H') ∧ ∀ x H', J.yld i H x H' → g x σ H' fun σ2 H2 => tb { D with nx := N, ct := N, bk := D.nx } σ2 H2)
noncomputable def pinsAt (fp : List Addr) (h : Heap) : List (Addr × Obj) := fp.filterMap fun b => (h.get? b).map fun o => (b, o)
theorem mem_pinsAt {fp : List Addr} {h : Heap} {b : Addr} {o : Obj} (hb : b ∈ fp) (e : h.get? b = some o) : (b, o) ∈ pinsAt fp h := List.mem_filterMap.mpr ⟨b, hb, by rw [e]; rfl⟩
theorem of_pinsAt {fp : List Addr} {h : Heap} {p : Addr × Obj} (hp : p ∈ pinsAt fp h) : p.1 ∈ fp ∧ h.get? p.1 = some p.2 := by
  refine Classical.byContradiction fun hnzq => ?_; obtain ⟨b, hb, e⟩ := List.mem_filterMap.mp hp
  refine hnzq ?_; clear hnzq
  cases q : h.get? b with
  | none => rw [q] at e; cases e
  | some o =>
    rw [q] at e
    have e' : (b, o) = p := Option.some.inj e
    subst e'
    exact ⟨hb, q⟩
theorem Inv.pinned {pins : List (Addr × Obj)} {σ : St} {H : Hp} {s : Shared} {fp : List Addr} (I : Inv X pins σ H s) (hf : ∀ b ∈ fp, FpOk X pins H b) (ho : ∀ b ∈ fp, ∃ o, s.heap.get? b = some o ∧ ∀ v, o.data ≠ .cell v) : Inv X (pins ++ pinsAt fp s.heap) σ H s :=
  I.pins_of fun p hp => (List.mem_append.mp hp).elim (fun z => I.pin p (List.mem_append_right _ z)) fun z => by
    obtain ⟨hb, e⟩ := of_pinsAt z
    refine Classical.byContradiction fun hnzq => ?_; obtain ⟨f0, f1, f2, _⟩ := hf p.1 hb
    refine hnzq ?_; clear hnzq
    refine Classical.byContradiction fun hnzq => ?_; obtain ⟨o, e', d⟩ := ho p.1 hb
    refine hnzq ?_; clear hnzq
    rw [e] at e'; cases e'
    exact ⟨e, f0, f1, f2, d⟩
theorem Inv.unpinned {pins pl : List (Addr × Obj)} {σ : St} {H : Hp} {s : Shared} (I : Inv X (pins ++ pl) σ H s) : Inv X pins σ H s := I.pins_of fun p hp => I.pin p (List.mem_append_right _ (List.mem_append_left _ hp))
theorem ps_for {iter : Expr} {body : List Stmt} {wi : TI} {g : TG} {tb : TS} {pos : Pos} (hp : PassesOwn (model X.prog X.w) X.A X.env X.xe) (hc : X.calm = true) (hi : PI X tg iter wi) (hg : PG X tg g) (hb : PSs X body tb)
    (hs : ∀ x, foldedSetIterable iter X.env x = pure x := by intro _; rfl) : PS X (.For tg iter body [] pos) (tFor wi g tb) := by
  intro pins s σ H D I h
  refine wpAny_For (thn (hi pins s σ H _ I h) fun v s1 h1 => thn h1 fun itv s2 h2 => ?_) hs
  refine Classical.byContradiction fun hnzq => ?_; obtain ⟨it, fp, tn, J, H2, e, I2, T, st2, f2, W, ⟨m0, w0⟩, turn⟩ := h2
  refine hnzq ?_; clear hnzq
  subst e
  have stat : ∀ {H' : Hp}, (∀ b ∈ fp, H' b = none) → ∀ b ∈ fp, FpOk X pins H' b := fun hn b hb => ⟨hn b hb, (f2 b hb).2⟩
  refine codeAny_forLoop_any (fun n s' => ∃ i σ' H', Inv X pins σ' H' s' ∧ tn i s'.heap ∧ (∀ b ∈ fp, H' b = none) ∧ W i n σ' H') ?_ m0 ⟨0, σ, H2, I2, st2, fun b hb => (f2 b hb).1, w0⟩
  rintro n s3 ⟨i, σ3, H3, I3, st3, fr3, w3⟩
  rcases turn i n σ3 H3 w3 with ⟨stop, qn⟩ | ⟨go, N, hN, step⟩
  · refine wpAny_passesOwn hp (thn (T.done X rfl rfl rfl hc i pins s3 σ3 H3 X.xe I3 (stat fr3) st3 stop) fun r s4 zzq => ?_)
    refine Classical.byContradiction fun hnzq => ?_; obtain ⟨hr, I4⟩ := zzq; refine hnzq ?_; clear hnzq
    subst hr
    exact wpAny_execs_nil ⟨σ3, H3, I4, qn⟩
  · refine wpAny_passesOwn hp (thn (T.item X rfl rfl rfl hc i pins s3 σ3 H3 X.xe I3 (stat fr3) st3 go) fun r s4 zzq => ?_)
    refine Classical.byContradiction fun hnzq => ?_; obtain ⟨u, hr, h4⟩ := zzq; refine hnzq ?_; clear hnzq
    subst hr
    refine wpAny_passesOwn hp (thn h4 fun _ s5 zzq => ?_)
    refine Classical.byContradiction fun hnzq => ?_; obtain ⟨x, H5, I5, r5, y5, st5, fr5⟩ := zzq; refine hnzq ?_; clear hnzq
    have I5' := I5.pinned (stat fr5) (T.obj _ _ st5)
    refine wpAny_passesOwn hp (thn (hg _ s5 σ3 H5 x u _ I5' r5 (step x H5 y5)) fun _ s6 zzq => ?_)
    refine Classical.byContradiction fun hnzq => ?_; obtain ⟨σ6, H6, I6, q6⟩ := zzq; refine hnzq ?_; clear hnzq
    refine wpAny_passesOwn hp (thn (hb _ s6 σ6 H6 _ I6 q6) fun f s7 q7 => ?_)
    have again : ∀ {σ7 : St} {H7 : Hp}, Inv X (pins ++ pinsAt fp s5.heap) σ7 H7 s7 → N σ7 H7 → ∃ m, m < n ∧ ∃ i σ' H', Inv X pins σ' H' s7 ∧ tn i s7.heap ∧ (∀ b ∈ fp, H' b = none) ∧ W i m σ' H' := fun {σ7 H7} I7 n7 => by
      refine Classical.byContradiction fun hnzq => ?_; obtain ⟨m', hm, w7⟩ := hN σ7 H7 n7
      refine hnzq ?_; clear hnzq
      refine ⟨m', hm, i + 1, σ7, H7, I7.unpinned, T.keep _ _ _ st5 fun b hb o e => (I7.pin (b, o) (List.mem_append_right _ (List.mem_append_right _ (mem_pinsAt hb e)))).1, fun b hb => ?_, w7⟩
      refine Classical.byContradiction fun hnzq => ?_; obtain ⟨o, e, d⟩ := T.obj _ _ st5 b hb
      refine hnzq ?_; clear hnzq
      exact (I7.pin (b, o) (List.mem_append_right _ (List.mem_append_right _ (mem_pinsAt hb e)))).2.1
    cases f with
    | next => refine Classical.byContradiction fun hnzq => ?_; obtain ⟨σ7, H7, I7, n7⟩ := q7; refine hnzq ?_; clear hnzq; exact again I7 n7
    | cont => refine Classical.byContradiction fun hnzq => ?_; obtain ⟨σ7, H7, I7, n7⟩ := q7; refine hnzq ?_; clear hnzq; exact again I7 n7
    | brk => refine Classical.byContradiction fun hnzq => ?_; obtain ⟨σ7, H7, I7, q7⟩ := q7; refine hnzq ?_; clear hnzq; exact ⟨σ7, H7, I7.unpinned, q7⟩
    | ret v => refine Classical.byContradiction fun hnzq => ?_; obtain ⟨x7, σ7, H7, I7, r7, q7⟩ := q7; refine hnzq ?_; clear hnzq; exact ⟨x7, σ7, H7, I7.unpinned, r7, q7⟩
end
theorem for_list {K : PySem.W.Frag} {a : Addr} {xs : List V} {g : TG} {tb : TS} {D : Ends} {σ : St} {H : Hp} (Pv : Nat → St → Hp → Prop) (h0 : Pv 0 σ H) (hl : ∀ i σ H, i ≤ xs.length → Pv i σ H → SqL K H a xs)
    (hs : ∀ i x σ H, xs[i]? = some x → Pv i σ H → g x σ H fun σ2 H2 => tb { D with nx := Pv (i + 1), ct := Pv (i + 1), bk := D.nx } σ2 H2) (hd : ∀ σ H, Pv xs.length σ H → D.nx σ H) :
    ∃ W : Nat → Nat → St → Hp → Prop, (∃ m, W 0 m σ H) ∧ ∀ i m σ H, W i m σ H →
      ((Itl K a).stop i H ∧ D.nx σ H) ∨ ((Itl K a).go i H ∧ ∃ N : St → Hp → Prop, (∀ σ' H', N σ' H' → ∃ m', m' < m ∧ W (i + 1) m' σ' H') ∧ ∀ x H', (Itl K a).yld i H x H' → g x σ H' fun σ2 H2 => tb { D with nx := N, ct := N, bk := D.nx } σ2 H2) := by
  refine ⟨fun i m σ H => m = xs.length - i ∧ i ≤ xs.length ∧ Pv i σ H, ⟨xs.length, by simp, Nat.zero_le _, h0⟩, ?_⟩
  rintro i m σ H ⟨rfl, hi, p⟩
  have q := hl i σ H hi p
  by_cases hlt : i < xs.length
  · refine .inr ⟨⟨xs, xs[i], q, by simp [hlt]⟩, Pv (i + 1), fun σ' H' p' => ⟨xs.length - (i + 1), Nat.sub_lt_sub_left hlt (Nat.lt_succ_self i), rfl, hlt, p'⟩, fun x H' y => ?_⟩
    obtain ⟨e, y⟩ := y
    subst e
    exact hs i x σ _ (y xs q) p
  · have e : i = xs.length := Nat.le_antisymm hi (Nat.not_lt.mp hlt)
    subst e
    exact .inl ⟨⟨xs, q, Nat.le_refl _⟩, hd σ H p⟩
theorem for_range {lo : Int} {n : Nat} {g : TG} {tb : TS} {D : Ends} {σ : St} {H : Hp} (Pv : Nat → St → Hp → Prop) (h0 : Pv 0 σ H)
    (hs : ∀ i σ H, i < n → Pv i σ H → g (.int (lo + i)) σ H fun σ2 H2 => tb { D with nx := Pv (i + 1), ct := Pv (i + 1), bk := D.nx } σ2 H2) (hd : ∀ σ H, Pv n σ H → D.nx σ H) :
    ∃ W : Nat → Nat → St → Hp → Prop, (∃ m, W 0 m σ H) ∧ ∀ i m σ H, W i m σ H →
      ((Itr lo n).stop i H ∧ D.nx σ H) ∨ ((Itr lo n).go i H ∧ ∃ N : St → Hp → Prop, (∀ σ' H', N σ' H' → ∃ m', m' < m ∧ W (i + 1) m' σ' H') ∧ ∀ x H', (Itr lo n).yld i H x H' → g x σ H' fun σ2 H2 => tb { D with nx := N, ct := N, bk := D.nx } σ2 H2) := by
  refine ⟨fun i m σ H => m = n - i ∧ i ≤ n ∧ Pv i σ H, ⟨n, by simp, Nat.zero_le _, h0⟩, ?_⟩
  rintro i m σ H ⟨rfl, hi, p⟩
  by_cases hlt : i < n
  · refine .inr ⟨hlt, Pv (i + 1), fun σ' H' p' => ⟨n - (i + 1), Nat.sub_lt_sub_left hlt (Nat.lt_succ_self i), rfl, hlt, p'⟩, fun x H' y => ?_⟩
    obtain ⟨e, y⟩ := y
    subst e y
    exact hs i σ _ hlt p
  · have e : i = n := Nat.le_antisymm hi (Nat.not_lt.mp hlt)
    subst e
    exact .inl ⟨Nat.le_refl _, hd σ H p⟩
end L2
namespace L2
open PySem PySem.Spec PyProof.Rows
noncomputable abbrev R2 := V → V → Hp → VK → Prop
noncomputable def OpR (X : Cx) (f : Value → Value → Sem Value) (r : R2) : Prop :=
  ∀ (pins : List (Addr × Obj)) (s : Shared) (σ : St) (H : Hp) (x y : V) (v u : Value) (Q : VK), Inv X pins σ H s → RelV x v → RelV y u → r x y H Q →
    wpAny (model X.prog X.w) X.A (f v u) (EP X pins σ Q) X.xe s
noncomputable def CallR (X : Cx) (f : Value) (r : List V → Hp → VK → Prop) : Prop :=
  ∀ (pins : List (Addr × Obj)) (s : Shared) (σ : St) (H : Hp) (xs : List V) (us : List Value) (Q : VK), Inv X pins σ H s → Vals xs us → r xs H Q →
    wpAny (model X.prog X.w) X.A (call f us) (EP X pins σ Q) X.xe s
noncomputable def tOp (r : R2) (ta tb : TE) : TE := fun σ H Q => ta σ H fun x H1 => tb σ H1 fun y H2 => r x y H2 Q
noncomputable def rI (C : Int → Int → Prop) (g : Int → Int → V) : R2 := fun x y H Q => ∃ i j, x = .int i ∧ y = .int j ∧ C i j ∧ Q (g i j) H
noncomputable def rI0 (g : Int → Int → V) : R2 := fun x y H Q => ∃ i j, x = .int i ∧ y = .int j ∧ Q (g i j) H
section
variable {X : Cx} {a b c : Expr} {ta tb tc : TE} {pos : Pos}
theorem binT (ha : PE X a ta) (hb : PE X b tb) {pins : List (Addr × Obj)} {s : Shared} {σ : St} {H : Hp} {R : V → V → Hp → Prop} (I : Inv X pins σ H s)
    (h : ta σ H fun x H1 => tb σ H1 fun y H2 => R x y H2) {Q : Value → Shared → Prop} {f : Value → Value → Sem Value}
    (hf : ∀ v u s2 x y H2, Inv X pins σ H2 s2 → RelV x v → RelV y u → R x y H2 → wpAny (model X.prog X.w) X.A (f v u) Q X.xe s2) :
    wpAny (model X.prog X.w) X.A (eval a X.env) (fun v s₁ => wpAny (model X.prog X.w) X.A (eval b X.env) (fun u s₂ => wpAny (model X.prog X.w) X.A (f v u) Q X.xe s₂) X.xe s₁) X.xe s := by
  refine thn (ha pins s σ H _ I h) fun v s1 zzq => ?_
  refine Classical.byContradiction fun hnzq => ?_; obtain ⟨x, H1, I1, r1, q1⟩ := zzq; refine hnzq ?_; clear hnzq
  refine thn (hb pins s1 σ H1 _ I1 q1) fun u s2 zzq => ?_
  refine Classical.byContradiction fun hnzq => ?_; obtain ⟨y, H2, I2, r2, q2⟩ := zzq; refine hnzq ?_; clear hnzq
  exact hf v u s2 x y H2 I2 r1 r2 q2
theorem pe_op {op : Operator} {r : R2} (ho : OpR X (binaryOp op) r) (ha : PE X a ta) (hb : PE X b tb) : PE X (.BinOp a op b pos) (tOp r ta tb) := by
  intro pins s σ H Q I h
  exact wpAny_BinOp (binT ha hb I h fun v u s2 x y H2 I2 rx ry q => ho pins s2 σ H2 x y v u Q I2 rx ry q)
theorem opI {f : Value → Value → Sem Value} {C : Int → Int → Prop} {g : Int → Int → Int}
    (rule : ∀ (i j : Int) (t u : Tok) (s : Shared) (Q : Value → Shared → Prop) (E : Value → Shared → Prop), C i j → Q (.int (g i j) s.toks) { s with toks := s.toks + 1 } → wpAny (model X.prog X.w) X.A (f (.int i t) (.int j u)) Q E s) :
    OpR X f (rI C fun i j => .int (g i j)) := by
  intro pins s σ H x y v u Q I rx ry h
  refine Classical.byContradiction fun hnzq => ?_; obtain ⟨i, j, rfl, rfl, hc, q⟩ := h
  refine hnzq ?_; clear hnzq
  obtain ⟨t, rfl⟩ := rx
  obtain ⟨t', rfl⟩ := ry
  exact rule i j t t' s _ _ hc ⟨.int (g i j), H, I.tok _, ⟨_, rfl⟩, q⟩
theorem opI0 {f : Value → Value → Sem Value} {g : Int → Int → Int}
    (rule : ∀ (i j : Int) (t u : Tok) (s : Shared) (Q : Value → Shared → Prop) (E : Value → Shared → Prop), Q (.int (g i j) s.toks) { s with toks := s.toks + 1 } → wpAny (model X.prog X.w) X.A (f (.int i t) (.int j u)) Q E s) :
    OpR X f (rI0 fun i j => .int (g i j)) := by
  intro pins s σ H x y v u Q I rx ry h
  refine Classical.byContradiction fun hnzq => ?_; obtain ⟨i, j, rfl, rfl, q⟩ := h
  refine hnzq ?_; clear hnzq
  obtain ⟨t, rfl⟩ := rx
  obtain ⟨t', rfl⟩ := ry
  exact rule i j t t' s _ _ ⟨.int (g i j), H, I.tok _, ⟨_, rfl⟩, q⟩
theorem opB0 {f : Value → Value → Sem Value} {g : Int → Int → Bool}
    (rule : ∀ (i j : Int) (t u : Tok) (s : Shared) (Q : Value → Shared → Prop) (E : Value → Shared → Prop), Q (.bool (g i j)) s → wpAny (model X.prog X.w) X.A (f (.int i t) (.int j u)) Q E s) :
    OpR X f (rI0 fun i j => .bl (g i j)) := by
  intro pins s σ H x y v u Q I rx ry h
  refine Classical.byContradiction fun hnzq => ?_; obtain ⟨i, j, rfl, rfl, q⟩ := h
  refine hnzq ?_; clear hnzq
  obtain ⟨t, rfl⟩ := rx
  obtain ⟨t', rfl⟩ := ry
  exact rule i j t t' s _ _ ⟨.bl (g i j), H, I, rfl, q⟩
noncomputable def CDiv (i j : Int) : Prop := 0 < j ∧ j < 1073741824
noncomputable def CPow (i j : Int) : Prop := 0 ≤ j ∧ j ≤ 1000000 ∧ i.natAbs < 2 ^ 64
theorem op_add : OpR X (binaryOp .Add) (rI0 fun i j => .int (i + j)) := opI0 fun _ _ _ _ _ _ _ q => add_int q
theorem op_fdiv : OpR X (binaryOp .FloorDiv) (rI CDiv fun i j => .int (i / j)) := opI fun i j _ _ _ _ _ hc q => by
  have h1 : (0 : Int) < j := hc.1
  have h2 : j < 1073741824 := hc.2
  exact floordiv_int (by (exact Int.ne_of_gt (by assumption))) (by rw [Int.fdiv_eq_ediv_of_nonneg i (by (exact Int.le_of_lt (by assumption)))]; exact q) (.inl (PyProof.noPylong_small (by omega)))
theorem op_mod : OpR X (binaryOp .Mod) (rI (fun _ j => 0 < j) fun i j => .int (i % j)) := opI fun i j _ _ _ _ _ hc q => by
  have h1 : (0 : Int) < j := hc
  exact mod_int' (by (exact Int.ne_of_gt (by assumption))) (by rw [Int.fmod_eq_emod_of_nonneg i (by (exact Int.le_of_lt (by assumption)))]; exact q)
theorem op_pow : OpR X (binaryOp .Pow) (rI CPow fun i j => .int (i ^ j.toNat)) := opI fun _ _ _ _ _ _ _ hc q => pow_int_small hc.1 hc.2.1 hc.2.2 q
end
noncomputable def scal : V → V → Bool
  | .non, .non => true | .non, .int _ => true | .int _, .non => true | .non, .bl _ => true | .bl _, .non => true | .non, .str _ => true | .str _, .non => true
  | .int _, .int _ => true | .bl _, .bl _ => true | .str _, .str _ => true | .byt _, .byt _ => true
  | .int _, .str _ => true | .str _, .int _ => true | .bl _, .str _ => true | .str _, .bl _ => true
  | _, _ => false
noncomputable def rEq : R2 := fun x y H Q => scal x y = true ∧ Q (.bl (decide (x = y))) H
theorem dec_int {i j : Int} : decide (V.int i = V.int j) = (i == j) := by
  rw [Bool.eq_iff_iff]
  simp
theorem dec_bl {i j : Bool} : decide (V.bl i = V.bl j) = (i == j) := by
  rw [Bool.eq_iff_iff]
  simp
theorem dec_str {i j : Str} : decide (V.str i = V.str j) = (i == j) := by
  rw [Bool.eq_iff_iff]
  simp
theorem dec_byt {i j : Array UInt8} : decide (V.byt i = V.byt j) = (i.toList == j.toList) := by
  rw [Bool.eq_iff_iff]
  cases i
  cases j
  simp
section
variable {X : Cx} {a b c : Expr} {ta tb tc : TE} {pos : Pos}
theorem fin_bl {pins : List (Addr × Obj)} {σ : St} {H : Hp} {s : Shared} {Q : VK} {k k' : Bool} (I : Inv X pins σ H s) (q : Q (.bl k) H) (e : k = k') : EP X pins σ Q (.bool k') s := by
  subst e
  exact ⟨.bl k, H, I, rfl, q⟩
theorem op_eq : OpR X (compareOp .Eq) rEq := by
  intro pins s σ H x y v u Q I rx ry h
  obtain ⟨hs, q⟩ := h
  cases x with
  | non =>
    cases rx
    cases y with
    | non => cases ry; exact PySem.EqNone.eq_none_none (fin_bl I q (by simp))
    | bl j => cases ry; exact PySem.EqNone.eq_none_bool (fin_bl I q (by simp))
    | int j => obtain ⟨t', rfl⟩ := ry; exact PySem.EqNone.eq_none_int (fin_bl I q (by simp))
    | str j => obtain ⟨t', rfl⟩ := ry; exact PySem.EqNone.eq_none_str (fin_bl I q (by simp))
    | _ => exact absurd (show false = true from hs) Bool.false_ne_true
  | bl i =>
    cases rx
    cases y with
    | non => cases ry; exact PySem.EqNone.eq_bool_none (fin_bl I q (by simp))
    | bl j => cases ry; exact eq_bool (fin_bl I q dec_bl)
    | str j => obtain ⟨t', rfl⟩ := ry; exact PySem.EqMixed.eq_bool_str (fin_bl I q (by simp))
    | _ => exact absurd (show false = true from hs) Bool.false_ne_true
  | int i =>
    obtain ⟨t, rfl⟩ := rx
    cases y with
    | non => cases ry; exact PySem.EqNone.eq_int_none (fin_bl I q (by simp))
    | int j => obtain ⟨t', rfl⟩ := ry; exact eq_int (fin_bl I q dec_int)
    | str j => obtain ⟨t', rfl⟩ := ry; exact PySem.EqMixed.eq_int_str (fin_bl I q (by simp))
    | _ => exact absurd (show false = true from hs) Bool.false_ne_true
  | str i =>
    obtain ⟨t, rfl⟩ := rx
    cases y with
    | non => cases ry; exact PySem.EqNone.eq_str_none (fin_bl I q (by simp))
    | bl j => cases ry; exact PySem.EqMixed.eq_str_bool (fin_bl I q (by simp))
    | int j => obtain ⟨t', rfl⟩ := ry; exact PySem.EqMixed.eq_str_int (fin_bl I q (by simp))
    | str j => obtain ⟨t', rfl⟩ := ry; exact eq_str (fin_bl I q dec_str)
    | _ => exact absurd (show false = true from hs) Bool.false_ne_true
  | byt i =>
    obtain ⟨t, rfl⟩ := rx
    cases y with
    | byt j => obtain ⟨t', rfl⟩ := ry; exact PySem.W.eq_bytes (fin_bl I q dec_byt)
    | _ => exact absurd (show false = true from hs) Bool.false_ne_true
  | _ => cases y <;> exact absurd (show false = true from hs) Bool.false_ne_true
theorem op_lt : OpR X (compareOp .Lt) (rI0 fun i j => .bl (decide (i < j))) := opB0 fun _ _ _ _ _ _ _ q => lt_int q
theorem op_gt : OpR X (compareOp .Gt) (rI0 fun i j => .bl (decide (j < i))) := opB0 fun _ _ _ _ _ _ _ q => gt_int q
theorem op_ge : OpR X (compareOp .GtE) (rI0 fun i j => .bl (decide (j ≤ i))) := opB0 fun _ _ _ _ _ _ _ q => ge_int q
theorem nomark (b : Expr) {op : CmpOp} (h : op ≠ .In := by decide) (h2 : op ≠ .NotIn := by decide) : behindInMarks op b = false := by
  have e1 : (op == CmpOp.In) = false := by cases op <;> first | rfl | exact absurd rfl h
  have e2 : (op == CmpOp.NotIn) = false := by cases op <;> first | rfl | exact absurd rfl h2
  cases b <;> simp [behindInMarks, e1, e2]
theorem pe_cmpR {op : CmpOp} {r : R2} (ho : OpR X (compareOp op) r) (ha : PE X a ta) (hb : PE X b tb) (hm : behindInMarks op b = false) : PE X (.Compare a [op] [b] pos) (tOp r ta tb) := by
  intro pins s σ H Q I h
  exact wpAny_Compare1 (binT ha hb I h fun v u s2 x y H2 I2 rx ry q => ho pins s2 σ H2 x y v u Q I2 rx ry q) hm
set_option genInjectivity false in
set_option genSizeOf false in
set_option genSizeOfSpec false in
noncomputable def tTest (t : TE) : TT := fun σ H Q => t σ H fun x H' => ∃ k, x = .bl k ∧ Q k H'
theorem pt_cmpR {op : CmpOp} {r : R2} (ho : OpR X (compareOp op) r) (ha : PE X a ta) (hb : PE X b tb) (hm : behindInMarks op b = false) : PT X (.Compare a [op] [b] pos) (tTest (tOp r ta tb)) := by
  intro pins s σ H Q I h
  refine wpAny_isTrue_Compare1 (thnE (ha pins s σ H _ I h) fun v s1 x H1 I1 r1 q1 => thnE (hb pins s1 σ H1 _ I1 q1) fun u s2 y H2 I2 r2 q2 =>
    thnE (ho pins s2 σ H2 x y v u _ I2 r1 r2 q2) fun c s3 z H3 I3 r3 zq => ?_) hm
  refine Classical.byContradiction fun hnzq => ?_; obtain ⟨k, e, q3⟩ := zq
  refine hnzq ?_; clear hnzq
  subst e
  cases r3
  exact wpAny_truthy_bool ⟨H3, I3, q3⟩
theorem line63 : (sizeLine : Nat) < 2 ^ 63 := by rw [sizeLine_eq]; decide
theorem op_add_str : OpR X (binaryOp .Add) (fun x y H Q => ∃ i j, x = .str i ∧ y = .str j ∧ i.length + j.length ≤ sizeLine ∧ Q (.str (i ++ j)) H) := by
  intro pins s σ H x y v u Q I rx ry h
  refine Classical.byContradiction fun hnzq => ?_; obtain ⟨i, j, rfl, rfl, hz, q⟩ := h
  refine hnzq ?_; clear hnzq
  obtain ⟨t, rfl⟩ := rx
  obtain ⟨t', rfl⟩ := ry
  exact add_str (fun t' tk => ⟨.str (i ++ j), H, I.tok _, ⟨_, rfl⟩, q⟩) hz
theorem vals1 {x : V} {us : List Value} (r : Vals [x] us) : ∃ u, us = [u] ∧ RelV x u := by
  cases r with
  | cons r1 r2 => cases r2; exact ⟨_, rfl, r1⟩
theorem vals2 {x y : V} {us : List Value} (r : Vals [x, y] us) : ∃ u w', us = [u, w'] ∧ RelV x u ∧ RelV y w' := by
  cases r with
  | cons r1 r2 =>
    cases r2 with
    | cons r3 r4 => cases r4; exact ⟨_, _, rfl, r1, r3⟩
end
end L2
namespace L2
open PySem PySem.Spec PyProof.Rows
structure ObjM (h : Heap) (x dx C : Addr) (mA : Str → Option Value) : Prop where
  obj : h.get? x = some (PySem.W.instObj C dx)
  ns : h.Ns1 dx mA
  ne : dx ≠ x
theorem lookIn_ns {h : Heap} {dx : Addr} {mA : Str → Option Value} (n : h.Ns1 dx mA) : ∃ od, h.get? dx = some od ∧ ∀ name, PySem.W.lookIn name od = some (mA name) := by
  refine Classical.byContradiction fun hnzq => ?_; obtain ⟨o, es, ep, ho, hd, hk, _, hm⟩ := n
  refine hnzq ?_; clear hnzq
  refine ⟨o, ho, fun name => ?_⟩
  have e := hm name
  unfold nsFind findBy at e
  rw [← Array.find?_toList] at e
  unfold PySem.W.lookIn
  rw [hd]
  dsimp only
  split
  · rename_i y q
    rw [q] at e
    exact congrArg some e
  · rename_i q
    rw [q] at e
    have a : es.toList.any (·.refKey) = false := by
      rw [List.any_eq_false]
      intro y hy
      refine Classical.byContradiction fun hnzq => ?_; obtain ⟨z, t, hkey⟩ := hk y (Array.mem_toList_iff.mp hy)
      refine hnzq ?_; clear hnzq
      simp [DictEntry.refKey, hkey]
    have a' : ¬ es.toList.any (·.refKey) = true := by rw [a]; exact Bool.false_ne_true
    rw [if_neg a']
    exact congrArg some e
theorem ObjM.look {h : Heap} {x dx C : Addr} {mA : Str → Option Value} (I : ObjM h x dx C mA) : ∃ od, PySem.W.InstAt h x (PySem.W.instObj C dx) C (some od) ∧ ∀ name, PySem.W.lookIn name od = some (mA name) :=
  let ⟨od, ho, hl⟩ := lookIn_ns I.ns
  ⟨od, ⟨I.obj, rfl, rfl, ho⟩, hl⟩
section
variable {prog : Program} {w : World} {A : Around} {E : Value → Shared → Prop} {s : Shared} {K : PySem.W.Frag} {x dx C f : Addr} {mA : Str → Option Value} {name : Str} {v : Value}
theorem get_meth {pl : Sem Bool} {Q : Value × List Value → Shared → Prop} (X : K.In s.heap) (I : ObjM s.heap x dx C mA) (hg : PySem.W.plainGet K C name = true)
    (hf : PySem.W.findIn K (.ref C) name = some (some (.ref f))) (ht : PySem.W.isFn K (.ref f) = true) (hv : mA name = none) (h : Q (.ref f, [.ref x]) s) :
    wpAny (model prog w) A (getMethod (.ref x) name pl) Q E s := by
  refine Classical.byContradiction fun hnzq => ?_; obtain ⟨od, J, hl⟩ := I.look
  refine hnzq ?_; clear hnzq
  exact PySem.W.method_fn X J (PySem.W.plainGet_of hg).1 (PySem.W.plainGet_of hg).2 hf (beq_iff_eq.mp ht) (by show (PySem.W.lookIn name od).map (·.isSome) = some false; rw [hl, hv]; rfl) h
set_option genInjectivity false in
set_option genSizeOf false in
set_option genSizeOfSpec false in
theorem make_map0 {R : Result → Shared → Prop} (X : K.In s.heap) (hm : PySem.W.makesIn K C = true)
    (hi : PySem.W.findIn K (.ref C) "__init__" = some (some (.builtin "object.__init__")))
    (hb : ∀ self, PySem.W.Looks (model prog w) s.heap (bindSpecial (.builtin "object.__init__") self) (.builtin "object.__init__", [self]))
    (h : codeAny (model prog w) (A.under (.builtin "type.__call__" ⟨[.ref C], []⟩)) (.call (.builtin "object.__init__") ⟨[.ref (s.heap.objs.size + 1)], []⟩) (PySem.W.InitBack (s.heap.objs.size + 1) R)
      { s with heap := (s.heap.push PySem.W.emptyDict).push (PySem.W.instObj C s.heap.objs.size) }) :
    codeAny (model prog w) A (.call (.ref C) ⟨[], []⟩) R s := by
  refine Classical.byContradiction fun hnzq => ?_; obtain ⟨hh, g, d, t, os⟩ := s
  refine hnzq ?_; clear hnzq
  exact PySem.W.make_core (PySem.W.makes_of X hm) (PySem.W.looks_findIn X hi) hb (.inr ⟨rfl, rfl⟩) h
end
theorem RelO.none_of {o : Option Value} (r : RelO none o) : o = none := by
  cases o with
  | none => rfl
  | some u => exact (show False from r).elim
section
variable {P : Program} {w : World} {H H' : Hp} {h h' : Heap} {a C dx : Addr} {fs fs' : List (Str × V)}
theorem ins_get (hok : HOk P w H h) (e : H a = some (.ins C dx fs)) : ∃ mA, ObjM h a dx C mA ∧ (∀ f, RelO (fs.lookup f) (mA f)) ∧ PySem.Within mA (fs.map (·.1)) ∧ fs.length ≤ 1000 ∧ H dx = some (.own a) := by
  refine Classical.byContradiction fun hnzq => ?_; obtain ⟨d, z, ne, ob, mA, n, r, q⟩ := (show ObjOk P w H h a (.ins C dx fs) from hok a _ e)
  refine hnzq ?_; clear hnzq
  exact ⟨mA, ⟨ob, n, ne⟩, r, q, z, d⟩
end
structure Cls (K : PySem.W.Frag) (C : Addr) : Prop where
  pg : PySem.W.plainGet K C Str.empty = true
  hd : PySem.W.hasDictIn K C = true
  po : PySem.W.plainOver K C = true
  sa : PySem.W.findIn K (.ref C) "__setattr__" = some (some (.builtin "object.__setattr__"))
theorem Cls.get {K : PySem.W.Frag} {C : Addr} (c : Cls K C) (f : Str) : PySem.W.plainGet K C f = true := c.pg
set_option genInjectivity false in
set_option genSizeOf false in
set_option genSizeOfSpec false in
structure Meth (K : PySem.W.Frag) (C : Addr) (m : Str) (f : Addr) : Prop where
  at_ : PySem.W.findIn K (.ref C) m = some (some (.ref f))
  fn : PySem.W.isFn K (.ref f) = true
  kp : PySem.W.keepIn K (.ref f) = true
section
variable {X : Cx} {pins : List (Addr × Obj)} {σ : St} {H : Hp} {s : Shared} {a C dx : Addr} {fs : List (Str × V)} {f : Str} {v : V} {A : Around} {E : Value → Shared → Prop}
theorem getmeth_ok {m : Str} {g : Addr} {pl : Sem Bool} {Q : Value × List Value → Shared → Prop} (I : Inv X pins σ H s) (e : H a = some (.ins C dx fs)) (c : Cls X.K C) (k : Meth X.K C m g) (l : fs.lookup m = none)
    (h : Q (.ref g, [.ref a]) s) : wpAny (model X.prog X.w) A (getMethod (.ref a) m pl) Q E s := by
  refine Classical.byContradiction fun hnzq => ?_; obtain ⟨mA, O, r, _, _, _⟩ := ins_get I.hok e
  refine hnzq ?_; clear hnzq
  have hn : mA m = none := RelO.none_of (by rw [← l]; exact r m)
  exact get_meth I.kIn O (c.get m) k.at_ k.fn hn h
theorem Inv.made (I : Inv X pins σ H s) : Inv X pins σ (upd (upd H s.heap.objs.size (.own (s.heap.objs.size + 1))) (s.heap.objs.size + 1) (.ins C s.heap.objs.size []))
    { s with heap := (s.heap.push PySem.W.emptyDict).push (PySem.W.instObj C s.heap.objs.size) } := by
  have e1 : (s.heap.push PySem.W.emptyDict).get? s.heap.objs.size = some PySem.W.emptyDict := Heap.get?_push_size s.heap rfl
  have e2 : ((s.heap.push PySem.W.emptyDict).push (PySem.W.instObj C s.heap.objs.size)).get? (s.heap.objs.size + 1) = some (PySem.W.instObj C s.heap.objs.size) := by
    have := Heap.get?_push_size (s.heap.push PySem.W.emptyDict) (o := PySem.W.instObj C s.heap.objs.size) rfl
    rwa [Heap.size_push] at this
  have e3 : (s.heap.push PySem.W.emptyDict).Ns s.heap.objs.size (fun _ => none) := ⟨PySem.W.emptyDict, #[], _, e1, rfl, (fun e he => absurd he (by simp)), fun _ => rfl⟩
  have I1 := I.laid (a := s.heap.objs.size) (o := .own (s.heap.objs.size + 1)) (h' := s.heap.push PySem.W.emptyDict) (t' := s.toks) (fun b u q => Heap.get?_push_of_some _ q) (Nat.le_refl _) ⟨_, e1⟩
  refine I1.laid (a := s.heap.objs.size + 1) (o := .ins C s.heap.objs.size []) (t' := s.toks) (fun b u q => Heap.get?_push_of_some _ q) (Nat.le_of_eq (Heap.size_push _ _)) ?_
  have ne : s.heap.objs.size ≠ s.heap.objs.size + 1 := Nat.ne_of_lt (Nat.lt_succ_self _)
  refine ⟨by rw [upd_ne ne, upd_same], Nat.zero_le _, ne, e2, fun _ => none, (Heap.Ns1.of_empty e3).at fun o q => Heap.get?_push_of_some _ q, fun _ => True.intro, fun y hy => absurd rfl hy⟩
end
section
variable {X : Cx} {o e value : Expr} {f : Str} {pos pos' tpos : Pos} {ta tv : TE}
end
section
variable {X : Cx} {pins : List (Addr × Obj)} {σ : St} {H : Hp} {s : Shared} {A : Around} {E : Value → Shared → Prop} {Q : Value → Shared → Prop} {c : Value} {b : Bool}
inductive TyOf (K : PySem.W.Frag) (H : Hp) : V → Value → Prop where
  | non : TyOf K H .non (.type "NoneType")
  | bl (x : Bool) : TyOf K H (.bl x) (.type "bool")
  | int (i : Int) : TyOf K H (.int i) (.type "int")
  | str (x : Str) : TyOf K H (.str x) (.type "str")
  | flt (x : UInt64) : TyOf K H (.flt x) (.type "float")
  | lst {a : Addr} {xs : List V} (e : H a = some (.lst xs)) : TyOf K H (.ref a) (.type "list")
  | frz {a : Addr} {o : Obj} {xs : List V} (e : H a = some (.frz o (.lst xs))) : TyOf K H (.ref a) (.type "list")
  | tup {a : Addr} {xs : List V} (e : H a = some (.tup xs)) : TyOf K H (.ref a) (.type "tuple")
  | ins {a C dx : Addr} {fs : List (Str × V)} (e : H a = some (.ins C dx fs)) (cl : Cls K C) (ha : PySem.W.findIn K (.ref C) "__class__" = some (some (.builtin "object.__class__")))
      (hn : PySem.W.specialIn K (.builtin "object.__class__") "__get__" = some (some (.builtin "getset_descriptor.__get__"))) (htk : PySem.W.takesIn K (.builtin "object.__class__") = some true)
      (hm : PySem.W.mroIn K C (.type "object") = some true) : TyOf K H (.ref a) (.ref C)
set_option genInjectivity false in
set_option genSizeOf false in
set_option genSizeOfSpec false in
theorem isinst_ok {x : V} {u t : Value} (I : Inv X pins σ H s) (rx : RelV x u) (ty : TyOf X.K H x t) (e : PySem.W.kitOne X.K t c = some b) (h : ∀ tk, Q (.bool b) { s with toks := tk }) :
    wpAny (model X.prog X.w) A (call (.builtin "isinstance") [u, c]) Q E s := by
  cases ty with
  | non => cases (show u = Value.none from rx); exact PySem.W.kia_one PySem.W.kitx_none I.kIn True.intro e (fun z => nomatch z) h
  | bl y => cases (show u = Value.bool y from rx); exact PySem.W.kia_one PySem.W.kitx_bool I.kIn True.intro e (fun z => nomatch z) h
  | int i => obtain ⟨t, q⟩ := (show ∃ t, u = Value.int i t from rx); cases q; exact PySem.W.kia_one PySem.W.kitx_int I.kIn True.intro e (fun z => nomatch z) h
  | str y => obtain ⟨t, q⟩ := (show ∃ t, u = Value.str y t from rx); cases q; exact PySem.W.kia_one PySem.W.kitx_str I.kIn True.intro e (fun z => nomatch z) h
  | flt y => obtain ⟨t, q⟩ := (show ∃ t, u = Value.float y t from rx); cases q; exact PySem.W.kia_one PySem.W.kitx_float I.kIn True.intro e (fun z => nomatch z) h
  | @lst a xs ea =>
    cases (show u = Value.ref a from rx)
    refine Classical.byContradiction fun hnzq => ?_; obtain ⟨_, _, n, _, h1⟩ := (show ObjOk X.prog X.w H s.heap a (.lst xs) from I.hok a _ ea)
    refine hnzq ?_; clear hnzq
    exact PySem.W.kia_one PySem.W.kitx_list I.kIn ⟨_, h1, rfl⟩ e (fun z => nomatch z) h
  | @frz a ob xs ea =>
    cases (show u = Value.ref a from rx)
    refine Classical.byContradiction fun hnzq => ?_; obtain ⟨_, _, _, n, _, h1⟩ := (show ObjOk X.prog X.w H s.heap a (.frz ob (.lst xs)) from I.hok a _ ea)
    refine hnzq ?_; clear hnzq
    exact PySem.W.kia_one PySem.W.kitx_list I.kIn ⟨_, h1, rfl⟩ e (fun z => nomatch z) h
  | @tup a xs ea =>
    cases (show u = Value.ref a from rx)
    refine Classical.byContradiction fun hnzq => ?_; obtain ⟨_, _, _, p⟩ := (show ObjOk X.prog X.w H s.heap a (.tup xs) from I.hok a _ ea)
    refine hnzq ?_; clear hnzq
    refine Classical.byContradiction fun hnzq => ?_; obtain ⟨o, h1, h2, _⟩ := p
    refine hnzq ?_; clear hnzq
    exact PySem.W.kia_one PySem.W.kitx_tuple I.kIn ⟨o, h1, h2⟩ e (fun z => nomatch z) h
  | @ins a C dx fs ea cl ha hn htk hm =>
    cases (show u = Value.ref a from rx)
    refine Classical.byContradiction fun hnzq => ?_; obtain ⟨mA, O, _⟩ := ins_get I.hok ea
    refine hnzq ?_; clear hnzq
    refine Classical.byContradiction fun hnzq => ?_; obtain ⟨od, J, _⟩ := O.look
    refine hnzq ?_; clear hnzq
    exact PySem.W.kia_one (PySem.W.kitx_own (cl.get _) cl.hd ha hn htk hm) I.kIn J e (fun z => nomatch z) h
end
end L2
namespace L2
open PySem PySem.Spec PyProof.Rows
structure Room (k : Nat) (A : Around) : Prop where
  hd : A.handled = none
  dp : A.depth + 3 * k + 5 < recursionLimit
  un : A.units + 16 * k + 200 < cLine
theorem Room.mono {j k : Nat} {A : Around} (r : Room k A) (h : j ≤ k) : Room j A := ⟨r.hd, Nat.lt_of_le_of_lt (Nat.add_le_add_right (Nat.add_le_add_left (Nat.mul_le_mul_left 3 h) _) _) r.dp, Nat.lt_of_le_of_lt (Nat.add_le_add_right (Nat.add_le_add_left (Nat.mul_le_mul_left 16 h) _) _) r.un⟩
theorem Room.deeper {k : Nat} {A : Around} (r : Room (k + 1) A) (env : Env) : Room k (A.deeper env) :=
  ⟨r.hd, by have := r.dp; show A.depth + 1 + 3 * k + 5 < _; lia, by have := r.un; show A.units + 3 + 16 * k + 200 < _; lia⟩
theorem Room.depth {k : Nat} {A : Around} (r : Room k A) : A.depth < recursionLimit := by have := r.dp; lia
noncomputable def tNil : TA := fun _ H Q => Q [] H
noncomputable def tCons (ta : TE) (tr : TA) : TA := fun σ H Q => ta σ H fun x H1 => tr σ H1 fun xs H2 => Q (x :: xs) H2
section
variable {X : Cx} {e : Expr} {es : List Expr} {te : TE} {t : TA} {pos : Pos}
theorem pa_nil : PA X [] tNil := fun _ _ _ _ H Q I h => Calls.spliced_nil ⟨[], H, I, .nil, h⟩
theorem pa_cons (ha : PE X e te) (hr : PA X es t) (hs : starEach (e :: es) X.env = (false, eval e X.env) :: starEach es X.env := by rfl) : PA X (e :: es) (tCons te t) := by
  intro pos pins s σ H Q I h
  rw [hs]
  show wpAny _ _ (spliced ((false, eval e X.env) :: backTo pos (starEach es X.env))) _ _ s
  refine Calls.spliced_cons (thn (ha pins s σ H _ I h) fun u s1 zzq => ?_)
  refine Classical.byContradiction fun hnzq => ?_; obtain ⟨x, H1, I1, r1, q1⟩ := zzq; refine hnzq ?_; clear hnzq
  exact thnA (hr pos pins s1 σ H1 _ I1 q1) fun us s2 xs H2 I2 r2 q2 => ⟨x :: xs, H2, I2, .cons r1 r2, q2⟩
noncomputable def tTup (t : TA) : TE := fun σ H Q => t σ H fun xs H1 => xs.length ≤ sizeLine ∧ ∀ p, H1 p = none → Q (.ref p) (upd H1 p (.tup xs))
noncomputable def tLst (t : TA) : TE := fun σ H Q => t σ H fun xs H1 => xs.length ≤ sizeLine ∧ ∀ p, H1 p = none → Q (.ref p) (upd H1 p (.lst xs))
theorem pe_tup {x1} (h : PA X es t) : PE X (.Tuple es x1 pos) (tTup t) := by
  intro pins s σ H Q I hq
  refine wpAny_Tuple_spliced (thnA (h pos pins s σ H _ I hq) fun us s1 xs H1 I1 r zq => ⟨by rw [← r.length]; exact zq.1, ?_⟩)
  have hf : H1 s1.heap.objs.size = none := I1.hok.fresh (Nat.le_refl _)
  refine ⟨.ref s1.heap.objs.size, upd H1 s1.heap.objs.size (.tup xs), I1.laid (t' := s1.toks) (fun b u e => Heap.get?_push_of_some _ e) (Nat.le_refl _) ?_, rfl, zq.2 _ hf⟩
  exact ⟨zq.1, us, r, ⟨_, Heap.get?_push_size _ rfl, rfl, _, rfl⟩⟩
theorem pe_lst (h : PA X es t) : PE X (.List es pos) (tLst t) := by
  intro pins s σ H Q I hq
  refine wpAny_List_spliced (thnA (h pos pins s σ H _ I hq) fun us s1 xs H1 I1 r zq => ⟨by rw [← r.length]; exact zq.1, ?_⟩)
  have hf : H1 s1.heap.objs.size = none := I1.hok.fresh (Nat.le_refl _)
  refine ⟨.ref s1.heap.objs.size, upd H1 s1.heap.objs.size (.lst xs), I1.laid (t' := s1.toks) (fun b u e => Heap.get?_push_of_some _ e) (Nat.le_refl _) ?_, rfl, zq.2 _ hf⟩
  exact ⟨zq.1, us, 0, r, Heap.get?_push_size _ rfl⟩
end
noncomputable abbrev Sp := List V → Hp → VK → XK → Prop
noncomputable abbrev CXT := List Env → Hp → Shared → XK → Value → Shared → Prop
set_option genInjectivity false in
set_option genSizeOf false in
set_option genSizeOfSpec false in
structure Env0 (P : Program) (w : World) (K : PySem.W.Frag) (mg : Str → Option Value) (base : Heap) (A : Around) (outer : List Env) (s : Shared) (H : Hp) : Prop where
  frames : A.frames = some outer
  mod : Mod K mg base
  bs : ∀ b o, base.get? b = some o → s.heap.get? b = some o ∧ H b = none
  bsz : base.objs.size ≤ s.heap.objs.size
  funs : s.heap.FunFrames base outer
  frf : ∀ b ∈ frs outer, H b = none
  hok : HOk P w H s.heap
  bare : AllBare s.gens
noncomputable def CE (outer : List Env) (P : Program) (w : World) (H : Hp) (s : Shared) (Q : VK) (u : Value) (s' : Shared) : Prop :=
  ∃ v H', s'.os = s.os ∧ AllBare s'.gens ∧ Un (frs outer) [] H H' s.heap s'.heap ∧ HOk P w H' s'.heap ∧ RelV v u ∧ Q v H'
noncomputable def CR (CX : CXT) (outer : List Env) (P : Program) (w : World) (H : Hp) (s : Shared) (Q : VK) (E : XK) (r : Result) (s' : Shared) : Prop :=
  match r with
  | .ok (.ret u) => CE outer P w H s Q u s'
  | .ok _ => False
  | .error e => CX outer H s E e s'
set_option genInjectivity false in
set_option genSizeOf false in
set_option genSizeOfSpec false in
structure FnOk (P : Program) (w : World) (K : PySem.W.Frag) (mg : Str → Option Value) (base : Heap) (CX : CXT) (k : Nat) (f : Addr) (fd : FuncData) (ps : List Str) (sp : Sp) : Prop where
  len : ∀ vs H Q E, sp vs H Q E → vs.length = ps.length
  run : ∀ (A : Around) (outer : List Env) (s : Shared) (H : Hp) (args : Args) (us : List Value) (vs : List V) (Q : VK) (E : XK), Room k A → Env0 P w K mg base A outer s H → BindsTo s fd args (ps.zip us) → Vals vs us → sp vs H Q E →
    codeAny (model P w) A (.call (.ref f) args) (CR CX outer P w H s Q E) s
section
variable {X : Cx} {pins : List (Addr × Obj)} {σ : St} {H : Hp} {s s' : Shared}
theorem Inv.env0 (I : Inv X pins σ H s) : Env0 X.prog X.w X.K X.mg X.base X.A X.stack s H :=
  ⟨I.ok.frames, I.ok.mod, I.bs, Nat.le_trans I.ok.bsz I.sz, I.stack, I.stkFree, I.hok, I.bare⟩
theorem Inv.after {Q : VK} {u : Value} (I : Inv X pins σ H s) (h : CE X.stack X.prog X.w H s Q u s') : EP X pins σ Q u s' := by
  refine Classical.byContradiction fun hnzq => ?_; obtain ⟨v, H', os, bare, un, hok, r, q⟩ := h
  refine hnzq ?_; clear hnzq
  refine Classical.byContradiction fun hnzq => ?_; obtain ⟨hh, g, d, t, os'⟩ := s'
  refine hnzq ?_; clear hnzq
  obtain rfl : os' = s.os := os
  exact ⟨v, H', I.call (h' := hh) (g' := g) (d' := d) (t' := t) (ch := []) un hok bare (fun b z => absurd z (by simp)), r, q⟩
end
noncomputable def tCall (sp : Sp) (dvs : List V) (E : XK) (t : TA) : TE := fun σ H Q => t σ H fun vs H1 => sp (vs ++ dvs) H1 Q E
noncomputable def Binds (K : PySem.W.Frag) (fd : FuncData) (ps : List Str) (ds : List Value) : Prop :=
  ∀ (s : Shared) (us : List Value), K.In s.heap → (us ++ ds).length = ps.length → BindsTo s fd ⟨us, []⟩ (ps.zip (us ++ ds))
theorem Binds.all {K : PySem.W.Frag} {fd : FuncData} {ps : List Str} (h : ∀ us : List Value, us.length = ps.length → bindArgs fd ⟨us, []⟩ = pure (ps.zip us)) : Binds K fd ps [] := fun s us _ hl => by
  rw [List.append_nil] at hl ⊢
  exact .of_eq (h us hl)
noncomputable def Passes (CX : CXT) (X : Cx) (E : XK) : Prop := ∀ (pins : List (Addr × Obj)) (σ : St) (H : Hp) (s : Shared) (e : Value) (s' : Shared), Inv X pins σ H s → CX X.stack H s E e s' → X.xe e s'
section
variable {X : Cx} {CX : CXT} {k : Nat} {f C : Addr} {fd : FuncData} {ps : List Str} {sp : Sp} {dvs : List V} {ds : List Value} {E : XK} {x m : Str} {p pos apos : Pos} {e o : Expr} {es : List Expr} {ta : TE} {t : TA}
theorem run_fn {pins : List (Addr × Obj)} {σ : St} {H : Hp} {s : Shared} {Q : VK} {us : List Value} {vs : List V} (F : FnOk X.prog X.w X.K X.mg X.base CX k f fd ps sp) (hr : Room k X.A) (hb : Binds X.K fd ps ds) (hd : Vals dvs ds) (hx : Passes CX X E)
    (I : Inv X pins σ H s) (r : Vals vs us) (h : sp (vs ++ dvs) H Q E) : wpAny (model X.prog X.w) X.A (call (.ref f) us) (EP X pins σ Q) X.xe s := by
  have r2 : Vals (vs ++ dvs) (us ++ ds) := r.append hd
  have hl : (us ++ ds).length = ps.length := by rw [← r2.length]; exact F.len _ _ _ _ h
  refine wpAny_call (codeAny_mono (F.run X.A X.stack s H ⟨us, []⟩ (us ++ ds) (vs ++ dvs) Q E hr I.env0 (hb s us I.kIn hl) r2 h) fun r s' hq => ?_)
  cases r with
  | error e => exact hx pins σ H s e s' I hq
  | ok fl =>
    cases fl with
    | ret u => exact I.after hq
    | next => exact False.elim hq
    | brk => exact False.elim hq
    | cont => exact False.elim hq
theorem pe_call (F : FnOk X.prog X.w X.K X.mg X.base CX k f fd ps sp) (hr : Room k X.A) (hg : Gl X x) (hm : X.mg x = some (.ref f)) (hk : PySem.W.keepIn X.K (.ref f) = true) (hb : Binds X.K fd ps ds) (hd : Vals dvs ds) (hx : Passes CX X E)
    (ha : PA X (e :: es) t) (hdb : (x == ("__debug__" : Str)) = false := by decide) (he : starEach (e :: es) X.env = (false, eval e X.env) :: starEach es X.env := by rfl) (hpl : (backTo pos (starEach es X.env)).any (·.1) = false := by rfl) :
    PE X (.Call (.Name x p) (e :: es) [] pos) (tCall sp dvs E t) := by
  intro pins s σ H Q I h
  refine wpAny_Call_Name_kw (ld_glob I hg hm ?_ hdb)
  refine PySem.W.callWith_K (h₀ := X.base) I.ok.mod.kin hk (thnA (ha pos pins s σ H _ I h) fun us s1 vs H1 I1 r q => ⟨I1.kIn, ?_⟩) he hpl
  exact run_fn F hr hb hd hx I1 r q
end
section
variable {X : Cx} {CX : CXT} {k : Nat} {f C : Addr} {fd : FuncData} {ps ks : List Str} {sp : Sp} {E : XK} {x m : Str} {p pos apos kpos : Pos} {e o : Expr} {es : List Expr} {kws : List Keyword} {te ta : TE} {t tk : TA} {nm : Option Str}
variable {g : List Value → List Value → List Value} {gV : List V → List V → List V}
end
set_option genInjectivity false in
set_option genSizeOf false in
set_option genSizeOfSpec false in
structure FnScope (N P : List Str) (sc : Scope) : Prop where
  kind : sc.kind = .function
  co : sc.isCoroutine = false
  gen : sc.isGenerator = false
  nd : N.Nodup
  pre : N.take P.length = P
  par : ∀ x ∈ P, sc.names.lookup x = some .local ∨ sc.names.lookup x = some .cell
  nofree : ∀ y ∈ sc.names, y.2 ≠ .free
theorem bindL_out {kindOf : Str → Option NameKind} {x : Str} : ∀ {binds : List (Str × Value)} {m : Str → Option Value}, (∀ v, (x, v) ∉ binds) → bindL kindOf binds m x = m x
  | [], _, _ => rfl
  | (n, v) :: r, m, h => by
    unfold bindL
    rw [bindL_out fun w hw => h w (List.mem_cons_of_mem _ hw)]
    split
    · have : x ≠ n := by rintro rfl; exact h v List.mem_cons_self
      simp [this]
    · rfl
theorem bindC_out {kindOf : Str → Option NameKind} {x : Str} : ∀ {binds : List (Str × Value)} {m : Str → Option Value}, (∀ v, (x, v) ∉ binds) → bindC kindOf binds m x = m x
  | [], _, _ => rfl
  | (n, v) :: r, m, h => by
    unfold bindC
    rw [bindC_out fun w hw => h w (List.mem_cons_of_mem _ hw)]
    split
    · rfl
    · have : x ≠ n := by rintro rfl; exact h v List.mem_cons_self
      simp [this]
theorem bindL_get {kindOf : Str → Option NameKind} {x : Str} {v : Value} {P : List Str} {vs : List Value} {i : Nat} {m : Str → Option Value} (nd : P.Nodup) (h1 : P[i]? = some x) (h2 : vs[i]? = some v) (hk : kindOf x = some .local) :
    bindL kindOf (P.zip vs) m x = some v := by
  induction P generalizing vs i m with
  | nil => rw [List.getElem?_nil] at h1; cases h1
  | cons p P ih =>
    cases vs with
    | nil => rw [List.getElem?_nil] at h2; cases h2
    | cons w vs =>
      cases i with
      | zero =>
        cases Option.some.inj h1
        cases Option.some.inj h2
        show bindL kindOf ((x, v) :: P.zip vs) m x = _
        unfold bindL
        rw [bindL_out fun v hv => (List.nodup_cons.mp nd).1 (List.of_mem_zip hv).1, if_pos hk]
        simp
      | succ i =>
        show bindL kindOf ((p, w) :: P.zip vs) m x = _
        unfold bindL
        exact ih (List.nodup_cons.mp nd).2 h1 h2
theorem bindC_get {kindOf : Str → Option NameKind} {x : Str} {v : Value} {P : List Str} {vs : List Value} {i : Nat} {m : Str → Option Value} (nd : P.Nodup) (h1 : P[i]? = some x) (h2 : vs[i]? = some v) (hk : kindOf x ≠ some .local) :
    bindC kindOf (P.zip vs) m x = some v := by
  induction P generalizing vs i m with
  | nil => rw [List.getElem?_nil] at h1; cases h1
  | cons p P ih =>
    cases vs with
    | nil => rw [List.getElem?_nil] at h2; cases h2
    | cons w vs =>
      cases i with
      | zero =>
        cases Option.some.inj h1
        cases Option.some.inj h2
        show bindC kindOf ((x, v) :: P.zip vs) m x = _
        unfold bindC
        rw [bindC_out fun v hv => (List.nodup_cons.mp nd).1 (List.of_mem_zip hv).1, if_neg hk]
        simp
      | succ i =>
        show bindC kindOf ((p, w) :: P.zip vs) m x = _
        unfold bindC
        exact ih (List.nodup_cons.mp nd).2 h1 h2
noncomputable def start (N : List Str) (vs : List V) : St := vs.map some ++ List.replicate (N.length - vs.length) none
noncomputable def cxOf (CX : CXT) (P : Program) (w : World) (K : PySem.W.Frag) (mg : Str → Option Value) (base : Heap) (N : List Str) (qual : Str) (scope : Scope) (f : Addr) (cd : Value) (A : Around) (outer : List Env) (s : Shared) (H : Hp) (E : XK) : Cx where
  prog := P
  w := w
  K := K
  mg := mg
  base := base
  A := A.deeper (envOfC qual scope s.heap.objs.size f cd)
  N := N
  s₀ := s
  H₀ := H
  env := envOfC qual scope s.heap.objs.size f cd
  outer := outer
  stack := envOfC qual scope s.heap.objs.size f cd :: outer
  ex := []
  calm := true
  fn := fun _ => true
  pn := []
  xe := fun e s' => wpAny (model P w) (A.deeper (envOfC qual scope s.heap.objs.size f cd)) (leaving (envOfC qual scope s.heap.objs.size f cd) e) (fun _ s'' => CX outer H s E e s'') (fun e' s'' => CX outer H s E e' s'') s'
theorem cell_has {sc : Scope} {n : Nat} {x : Str} (h : sc.names.lookup x = some .cell) : ∃ c, (cellsFrom n sc.names []).lookup x = some c := by
  have q := PySem.W.cellsFrom_some sc.names n [] (.inl h)
  exact Option.isSome_iff_exists.mp q
theorem inv_start {CX : CXT} {P : Program} {w : World} {K : PySem.W.Frag} {mg : Str → Option Value} {base : Heap} {N ps : List Str} {qual : Str} {scope : Scope} {f : Addr} {cd : Value} {A : Around} {outer : List Env} {s s1 : Shared} {H : Hp} {E : XK} {us : List Value} {vs : List V}
    (S : FnScope N ps scope) (hd : A.handled = none) (e0 : Env0 P w K mg base A outer s H) (hl : vs.length = ps.length) (r : Vals vs us)
    (x : InCallC s s.heap.objs.size (bindL (envOfC qual scope s.heap.objs.size f cd).kindOf (ps.zip us) fun _ => none) (cellsFrom (s.heap.objs.size + 1) scope.names []) (bindC (envOfC qual scope s.heap.objs.size f cd).kindOf (ps.zip us) fun _ => none) s1) :
    Inv (cxOf CX P w K mg base N qual scope f cd A outer s H E) [] (start N vs) H s1 := by
  have hpl : ps.length ≤ N.length := by have := congrArg List.length S.pre; rw [List.length_take] at this; lia
  refine Classical.byContradiction fun hnzq => ?_; obtain ⟨h1, tk, rfl, hk⟩ := x.done
  refine hnzq ?_; clear hnzq
  have noA : ∀ b : Addr, b ∉ (cxOf CX P w K mg base N qual scope f cd A outer s H E).ex := fun b z => absurd (show b ∈ ([] : List Addr) from z) (by simp)
  refine ⟨⟨e0.mod, S.kind, rfl, rfl, Nat.le_refl _, fun y z c h1 h2 => ?_, fun y hy => ?_, fun y c _ h => ?_, fun _ => hd, Around.frames_deeper e0.frames, .inr ⟨rfl, rfl⟩, fun b z => absurd z (noA b), e0.bs, e0.bsz, fun b _ _ => noA b, fun b z => absurd z (noA b), e0.funs, e0.frf⟩,
    rfl, e0.bare, Un.kept hk, ⟨_, x.toInCall.ns, fun i y v h1 h2 h3 => ?_⟩, fun y c h => ⟨_, x.cell y c h⟩, e0.hok.fresh (Nat.le_refl _), fun y c h => ?_, fun p hp => absurd (show p ∈ ([] : List (Addr × Obj)) from hp) (by simp), e0.hok.kept hk, ?_⟩
  · exact name_of_addr x.apart (PySem.mem_of_lookup h1) (PySem.mem_of_lookup h2)
  · have hy : scope.names.lookup y = some .cell ∨ scope.names.lookup y = some .free := hy
    rcases hy with hy | hy
    · exact cell_has hy
    · exact absurd rfl (S.nofree _ (PySem.mem_of_lookup hy))
  · exact Nat.le_of_lt (x.above y c (PySem.mem_of_lookup h))
  · have hi : i < vs.length := by
      unfold start at h2
      by_cases hi : i < vs.length
      · exact hi
      · rw [List.getElem?_append_right (by simpa using hi)] at h2
        rw [List.getElem?_replicate] at h2
        split at h2 <;> cases h2
    have ha : vs[i]? = some v := by
      unfold start at h2
      rw [List.getElem?_append_left (by simpa using hi), List.getElem?_map] at h2
      cases e : vs[i]? with
      | none => rw [e] at h2; cases h2
      | some a => rw [e] at h2; cases h2; rfl
    refine Classical.byContradiction fun hnzq => ?_; obtain ⟨u, hu, rv⟩ := r.get ha
    refine hnzq ?_; clear hnzq
    have hp : ps[i]? = some y := by
      rw [← S.pre, List.getElem?_take_of_lt (by lia)]; exact h1
    have ndP : ps.Nodup := by rw [← S.pre]; exact S.nd.sublist (List.take_sublist _ _)
    refine ⟨u, rv, ?_⟩
    rcases S.par y (List.mem_of_getElem? hp) with k | k
    · exact .inl ⟨k, bindL_get ndP hp hu k⟩
    · obtain ⟨c, e⟩ := cell_has (n := s.heap.objs.size + 1) k
      refine .inr ⟨.inl k, c, e, ?_⟩
      have q := x.cell y c e
      rw [bindC_get ndP hp hu (by show scope.names.lookup y ≠ _; rw [k]; decide)] at q
      exact q
  · exact e0.hok.fresh (Nat.le_of_lt (x.above y c (PySem.mem_of_lookup h)))
  · unfold start
    show _ = N.length
    rw [List.length_append, List.length_map, List.length_replicate]
    lia
theorem fn_of {CX : CXT} {P : Program} {w : World} {K : PySem.W.Frag} {mg : Str → Option Value} {base : Heap} {k : Nat} {f : Addr} {name qual : Str} {params : Arguments} {body : List Stmt} {scope : Scope} {dV kV doc pm cdv ct oc : Value} {an od : Option Addr}
    {osl : Array (Option Value)} {N ps : List Str} {sp : Sp} (lk : K.lookup f = some ⟨oc, od, .func (PySem.W.fnOf name qual params body scope dV kV doc pm an cdv ct), osl⟩) (hcd : PySem.W.codeIn K cdv qual = true) (S : FnScope N ps scope)
    (len : ∀ vs H Q E, sp vs H Q E → vs.length = ps.length)
    (hbody : ∀ (A : Around) (outer : List Env) (s : Shared) (H : Hp) (vs : List V) (Q : VK) (E : XK), Room k (A.deeper (envOfC qual scope s.heap.objs.size f cdv)) → sp vs H Q E →
      ∃ t, PSs (cxOf CX P w K mg base N qual scope f cdv A outer s H E) body t ∧ t { nx := fun _ H' => Q .non H', rt := Q } (start N vs) H) :
    FnOk P w K mg base CX (k + 1) f (PySem.W.fnOf name qual params body scope dV kV doc pm an cdv ct) ps sp := by
  refine ⟨len, fun A outer s H args us vs Q E hr e0 hb r hsp => ?_⟩
  have hl := len _ _ _ _ hsp
  have KX : K.In s.heap := e0.mod.kin.keeps fun b o e => (e0.bs b o e).1
  have lim : s.heap.NoLimit := e0.mod.nolimit.keeps fun b o e => (e0.bs b o e).1
  have hkind : ∀ y ∈ ps.zip us, scope.names.lookup y.1 = some .local ∨ (scope.names.lookup y.1 = some .cell ∧ ((cellsFrom (s.heap.objs.size + 1) scope.names []).lookup y.1).isSome = true) := fun ⟨n, v⟩ hy => by
    rcases S.par n (List.of_mem_zip hy).1 with q | q
    · exact .inl q
    · exact .inr ⟨q, PySem.W.cellsFrom_some _ _ _ (.inl q)⟩
  refine codeAny_call_function hr.depth (KX _ _ lk) rfl S.co S.gen rfl (PySem.W.codeRec_of KX hcd) (hb _ _ _ _ ?_)
  refine wpAny_newFunctionEnv_cells S.kind hkind fun env he s1 x => ?_
  subst he
  refine ⟨lim.keeps x.toInCall.keep, codeAny_func ?_⟩
  refine Classical.byContradiction fun hnzq => ?_; obtain ⟨t, ht, hq⟩ := hbody A outer s H vs Q E (hr.deeper _) hsp
  refine hnzq ?_; clear hnzq
  have I : Inv (cxOf CX P w K mg base N qual scope f cdv A outer s H E) [] (start N vs) H s1 := inv_start S hr.hd e0 hl r x
  refine wpAny_mono (ht [] s1 (start N vs) H _ I hq) (fun fl s' hs => ?_) fun e s' hs => hs
  have fin : ∀ {σ' : St} {H' : Hp} {v : V} {u : Value}, Inv (cxOf CX P w K mg base N qual scope f cdv A outer s H E) [] σ' H' s' → RelV v u → Q v H' → CE outer P w H s Q u s' :=
    fun {σ' H' v u} J rv q => ⟨v, H', J.os, J.bare, J.base, J.hok, rv, q⟩
  cases fl with
  | ret u =>
    refine Classical.byContradiction fun hnzq => ?_; obtain ⟨v, σ', H', J, rv, q⟩ := hs
    refine hnzq ?_; clear hnzq
    exact fin J rv q
  | next =>
    refine Classical.byContradiction fun hnzq => ?_; obtain ⟨σ', H', J, q⟩ := hs
    refine hnzq ?_; clear hnzq
    exact fin (v := V.non) (u := Value.none) J rfl q
  | brk =>
    refine Classical.byContradiction fun hnzq => ?_; obtain ⟨_, _, _, q⟩ := hs
    refine hnzq ?_; clear hnzq
    exact False.elim q
  | cont =>
    refine Classical.byContradiction fun hnzq => ?_; obtain ⟨_, _, _, q⟩ := hs
    refine hnzq ?_; clear hnzq
    exact False.elim q
end L2
namespace L2
open PySem PySem.Spec PyProof.Rows
section
variable {X : Cx} {x : Str} {p pos : Pos} {e : Expr} {es : List Expr} {t : TA} {id T : String} {r : List V → Hp → VK → Prop}
noncomputable def tCB (r : List V → Hp → VK → Prop) (t : TA) : TE := fun σ H Q => t σ H fun vs H1 => r vs H1 Q
theorem pe_callB (hc : CallR X (.builtin id) r) (hg : Gl X x) (hm : X.mg x = none) (hv : bootBuiltins x = some (.builtin id)) (ha : PA X (e :: es) t) (hn : x ≠ "__name__" := by decide) (hdb : (x == ("__debug__" : Str)) = false := by decide)
    (he : starEach (e :: es) X.env = (false, eval e X.env) :: starEach es X.env := by rfl) (hpl : (backTo pos (starEach es X.env)).any (·.1) = false := by rfl) : PE X (.Call (.Name x p) (e :: es) [] pos) (tCB r t) := by
  intro pins s σ H Q I h
  refine wpAny_Call_Name_kw (ld_blt I hg hm hv ?_ hn hdb)
  exact PyProof.Rows.callWith_builtin1 (thnA (ha pos pins s σ H _ I h) fun us s1 vs H1 I1 r1 q1 => hc pins s1 σ H1 vs us Q I1 r1 q1) he hpl
end
end L2
namespace HT
open PySem PyProof.Rows
section
open PySem.SeqAt
open PySem.AutoSeq1 (wpAny_loadPart')
open PySem.MeetsSeq PySem.MeetsSeq2 PySem.MeetsSeq3
end
section
variable {prog : Program} {w : World} {A : Around} {E : Value → Shared → Prop} {s : Shared}
noncomputable def sIx (n d : Nat) : Option Int → Nat
  | none => d
  | some v => if v < 0 then (v + (n : Int)).toNat else min v.toNat n
end
end HT
namespace L2
open PySem PySem.Spec PyProof.Rows
noncomputable abbrev TO := St → Hp → (Option Int → Hp → Prop) → Prop
noncomputable def PO (X : Cx) (e : Option Expr) (t : TO) : Prop :=
  ∀ (pins : List (Addr × Obj)) (s : Shared) (σ : St) (H : Hp) (Q : Option Int → Hp → Prop), Inv X pins σ H s → t σ H Q →
    wpAny (model X.prog X.w) X.A (evalPart e X.env) (fun u s' => ∃ o H', Inv X pins σ H' s' ∧ IsPart u o ∧ Q o H') X.xe s
noncomputable def tNoPart : TO := fun _ H Q => Q none H
noncomputable def tPart (t : TE) : TO := fun σ H Q => t σ H fun x H1 => ∃ i, x = .int i ∧ Q (some i) H1
section
variable {X : Cx} {e : Expr} {te : TE} {lo hi : Option Expr} {tl th : TO} {pos p2 : Pos}
theorem po_none : PO X none tNoPart := by
  intro pins s σ H Q I h
  rw [evalPart_none]
  exact wpAny_pure ⟨none, H, I, .none, h⟩
theorem po_some (h : PE X e te) : PO X (some e) (tPart te) := by
  intro pins s σ H Q I hw
  rw [evalPart_some]
  refine thn (h pins s σ H _ I hw) fun u s1 zzq => ?_
  refine Classical.byContradiction fun hnzq => ?_; obtain ⟨x, H1, I1, r1, q1⟩ := zzq; refine hnzq ?_; clear hnzq
  refine Classical.byContradiction fun hnzq => ?_; obtain ⟨i, rfl, q⟩ := q1
  refine hnzq ?_; clear hnzq
  obtain ⟨t, rfl⟩ := r1
  exact ⟨some i, H1, I1, .int i t, q⟩
noncomputable def SlR (X : Cx) (r : V → Option Int → Option Int → Hp → VK → Prop) : Prop :=
  ∀ (pins : List (Addr × Obj)) (s : Shared) (σ : St) (H : Hp) (x : V) (v vl vu : Value) (lo hi : Option Int) (sl : Addr) (Q : VK), Inv X pins σ H s → RelV x v → s.heap.IsSliceOf sl vl vu .none → IsPart vl lo → IsPart vu hi → r x lo hi H Q →
    ∃ T id, typeLookup (.type T) "__getitem__" = pure (some (.builtin id)) ∧ s.TypeIs v T ∧ wpAny (model X.prog X.w) X.A (getItem v (.ref sl)) (EP X pins σ Q) X.xe s
noncomputable def tSl (r : V → Option Int → Option Int → Hp → VK → Prop) (te : TE) (tl th : TO) : TE := fun σ H Q => te σ H fun x H1 => tl σ H1 fun l H2 => th σ H2 fun u H3 => r x l u H3 Q
theorem pe_slice {r : V → Option Int → Option Int → Hp → VK → Prop} (hr : SlR X r) (he : PE X e te) (hl : PO X lo tl) (hu : PO X hi th) : PE X (.Subscript e (.Slice lo hi none p2) pos) (tSl r te tl th) := by
  intro pins s σ H Q I h
  refine Subscript_ (thn (he pins s σ H _ I h) fun v s1 zzq => ?_)
  refine Classical.byContradiction fun hnzq => ?_; obtain ⟨x, H1, I1, r1, q1⟩ := zzq; refine hnzq ?_; clear hnzq
  refine wpAny_Slice (thn (hl pins s1 σ H1 _ I1 q1) fun vl s2 ⟨l, H2, I2, pl, q2⟩ => thn (hu pins s2 σ H2 _ I2 q2) fun vu s3 zzq => ?_)
  refine Classical.byContradiction fun hnzq => ?_; obtain ⟨u, H3, I3, pu, q3⟩ := zzq; refine hnzq ?_; clear hnzq
  rw [evalPart_none]
  refine wpAny_pure ?_
  have I4 : Inv X pins σ H3 { s3 with heap := s3.heap.push { cls := .type "slice", data := .fields #[vl, vu, .none] } } := I3.kept (t' := s3.toks) fun b ob q => Heap.get?_push_of_some _ q
  refine Classical.byContradiction fun hnzq => ?_; obtain ⟨T, id, hT, ht, hg⟩ := hr pins { s3 with heap := s3.heap.push { cls := .type "slice", data := .fields #[vl, vu, .none] } } σ H3 x v vl vu l u s3.heap.objs.size Q I4 r1 (Heap.IsSliceOf.new ..) pl pu q3
  refine hnzq ?_; clear hnzq
  show wpAny (model X.prog X.w) X.A (subscriptTail e (.Slice lo hi none p2) v (.ref s3.heap.objs.size)) (EP X pins σ Q) X.xe { s3 with heap := s3.heap.push { cls := .type "slice", data := .fields #[vl, vu, .none] } }
  exact tail_any (ops := [.ref s3.heap.objs.size, v]) ht hT hg (by with_unfolding_all rfl)
noncomputable def cutV (xs : List V) (lo hi : Option Int) : List V := (xs.drop (HT.sIx xs.length 0 lo)).take (HT.sIx xs.length xs.length hi - HT.sIx xs.length 0 lo)
theorem cutV_length (xs : List V) (lo hi : Option Int) : (cutV xs lo hi).length ≤ xs.length := by
  unfold cutV
  rw [List.length_take, List.length_drop]
  exact Nat.le_trans (Nat.min_le_right _ _) (Nat.sub_le _ _)
end
end L2
namespace L2
open PySem PySem.Spec PyProof.Rows
noncomputable def ixN (n : Nat) (i : Int) : Option Nat := if 0 ≤ i then (if i < n then some i.toNat else none) else if -(n : Int) ≤ i then some (i + n).toNat else none
noncomputable def atI {α : Type} (xs : List α) (i : Int) : Option α := (ixN xs.length i).bind fun j => xs[j]?
theorem ixN_seq {n : Nat} {i : Int} {j : Nat} (h : ixN n i = some j) : seqIndex? i n = some j ∧ j < n ∧ -(n : Int) ≤ i ∧ i < n := by
  unfold ixN at h
  by_cases h0 : 0 ≤ i
  · rw [if_pos h0] at h
    by_cases h1 : i < n
    · rw [if_pos h1] at h
      have e : i.toNat = j := Option.some.inj h
      exact ⟨by rw [seqIndex_of h0 h1, e], e ▸ (Int.toNat_lt h0).mpr h1, Int.le_trans (Int.neg_nonpos_of_nonneg (Int.natCast_nonneg n)) h0, h1⟩
    · rw [if_neg h1] at h; cases h
  · rw [if_neg h0] at h
    by_cases h1 : -(n : Int) ≤ i
    · rw [if_pos h1] at h
      have e : (i + n).toNat = j := Option.some.inj h
      exact ⟨by rw [seqIndex_neg (by (exact Int.lt_of_not_ge (by assumption))) h1, e], by lia, h1, by lia⟩
    · rw [if_neg h1] at h; cases h
theorem atI_get {α : Type} {xs : List α} {i : Int} {v : α} (h : atI xs i = some v) : ∃ j, seqIndex? i xs.length = some j ∧ xs[j]? = some v ∧ j < xs.length ∧ -(xs.length : Int) ≤ i ∧ i < xs.length := by
  unfold atI at h
  cases e : ixN xs.length i with
  | none => rw [e] at h; cases h
  | some j =>
    rw [e] at h
    refine Classical.byContradiction fun hnzq => ?_; obtain ⟨h1, h2, h3, h4⟩ := ixN_seq e
    refine hnzq ?_; clear hnzq
    exact ⟨j, h1, h, h2, h3, h4⟩
theorem atI_nat {α : Type} {xs : List α} {j : Nat} {v : α} (h : xs[j]? = some v) : atI xs (j : Int) = some v := by
  have hj : j < xs.length := (List.getElem?_eq_some_iff.mp h).1
  have e : ixN xs.length (j : Int) = some j := by
    unfold ixN
    rw [if_pos (by (exact Int.ofNat_nonneg _)), if_pos (by (exact Int.ofNat_lt.mpr (by assumption)))]; simp
  unfold atI; rw [e]; exact h
noncomputable def PlainIx (b : Expr) : Prop := ∀ o i, subscripted b false o i = operate [o, i] (getItem o i)
noncomputable def IxR (X : Cx) (r : R2) : Prop :=
  ∀ (value slice : Expr) (pins : List (Addr × Obj)) (s : Shared) (σ : St) (H : Hp) (x y : V) (v u : Value) (Q : VK), Inv X pins σ H s → RelV x v → RelV y u → r x y H Q →
    subscripted slice false v u = operate [v, u] (getItem v u) → wpAny (model X.prog X.w) X.A (subscriptTail value slice v u) (EP X pins σ Q) X.xe s
section
variable {X : Cx} {a b : Expr} {ta tb : TE} {pos : Pos}
theorem pe_ix {r : R2} (hr : IxR X r) (ha : PE X a ta) (hb : PE X b tb) (hs : PlainIx b) : PE X (.Subscript a b pos) (tOp r ta tb) := by
  intro pins s σ H Q I h
  exact Subscript_ (binT ha hb I h fun v u s2 x y H2 I2 rx ry q => hr a b pins s2 σ H2 x y v u Q I2 rx ry q (hs _ _))
noncomputable def rIxL (K : PySem.W.Frag) : R2 := fun x y H Q => ∃ p xs i v, x = .ref p ∧ y = .int i ∧ SqL K H p xs ∧ atI xs i = some v ∧ Q v H
noncomputable def rIxS : R2 := fun x y H Q => ∃ z i c, x = .str z ∧ y = .int i ∧ z.length ≤ sizeLine ∧ atI z.cps.toList i = some c ∧ Q (.str ⟨#[c]⟩) H
theorem ix_list : IxR X (rIxL X.K) := by
  intro value slice pins s σ H x y v u Q I rx ry h hs
  refine Classical.byContradiction fun hnzq => ?_; obtain ⟨p, xs, i, z, rfl, rfl, hq, he, q⟩ := h
  refine hnzq ?_; clear hnzq
  cases rx
  obtain ⟨t, rfl⟩ := ry
  refine Classical.byContradiction fun hnzq => ?_; obtain ⟨its, r, pl, hz⟩ := I.list hq
  refine hnzq ?_; clear hnzq
  refine Classical.byContradiction fun hnzq => ?_; obtain ⟨j, h1, h2, h3, h4, h5⟩ := atI_get he
  refine hnzq ?_; clear hnzq
  refine Classical.byContradiction fun hnzq => ?_; obtain ⟨w, ew, rw'⟩ := r.get h2
  refine hnzq ?_; clear hnzq
  have hl := r.length
  have hn := line63
  have fin : EP X pins σ Q w s := ⟨z, H, I, rw', q⟩
  by_cases h0 : 0 ≤ i
  · have hj : i.toNat = j := by
      rw [seqIndex_of h0 h5] at h1
      exact Option.some.inj h1
    exact item_listR pl.isList h0 (by omega) (by rw [hj]; simpa using ew) fin hs
  · have hj : (i + (its.toArray.size : Int)).toNat = j := by
      rw [seqIndex_neg (by (exact Int.lt_of_not_ge (by assumption))) h4] at h1
      rw [List.size_toArray, ← hl]
      exact Option.some.inj h1
    exact subscriptTail_builtinR (x := w) pl.isList.typeIs slot_list_getitem.lookup
      (wpAny_getItem_list_neg (Q := fun r s' => r = w ∧ EP X pins σ Q r s') pl.isList (by (exact Int.lt_of_not_ge (by assumption))) (by rw [List.size_toArray] <;> lia) (by lia) (by rw [hj]; simpa using ew) ⟨rfl, fin⟩) hs
theorem ix_str : IxR X rIxS := by
  intro value slice pins s σ H x y v u Q I rx ry h hs
  refine Classical.byContradiction fun hnzq => ?_; obtain ⟨z, i, c, rfl, rfl, hz, he, q⟩ := h
  refine hnzq ?_; clear hnzq
  obtain ⟨t, rfl⟩ := rx
  obtain ⟨t', rfl⟩ := ry
  refine Classical.byContradiction fun hnzq => ?_; obtain ⟨j, h1, h2, h3, h4, h5⟩ := atI_get he
  refine hnzq ?_; clear hnzq
  have hl : z.cps.toList.length = z.length := by simp [Str.length]
  rw [hl] at h1 h4 h5
  have hn := line63
  exact tail_any (typeIs_str s z t) slot_str_getitem.lookup (getItem_str (c := c) (by
    have e1 : decide (i < -(2 ^ 63 : Int)) = false := decide_eq_false (by lia)
    have e2 : decide (i ≥ 2 ^ 63) = false := decide_eq_false (by lia)
    rw [e1, e2, Bool.or_false]) (by rw [h1]; simpa using h2) ⟨.str ⟨#[c]⟩, H, I.tok _, ⟨_, rfl⟩, q⟩) hs
theorem slice_clip (i : Int) (n : Nat) : max 0 (min (if i < 0 then i + n else i) n) = ((if i < 0 then (i + (n : Int)).toNat else min i.toNat n : Nat) : Int) := by
  by_cases h : i < 0
  · rw [if_pos h, if_pos h, Int.min_eq_left (Int.add_le_of_le_sub_right (by rw [Int.sub_self]; exact Int.le_of_lt h)), Int.ofNat_toNat, Int.max_comm]
  · rw [if_neg h, if_neg h]
    obtain ⟨m, rfl⟩ := Int.eq_ofNat_of_zero_le (Int.not_lt.mp h)
    rw [Int.toNat_natCast]
    rcases Nat.le_total m n with c | c
    · rw [Nat.min_eq_left c, Int.min_eq_left (Int.ofNat_le.mpr c), Int.max_eq_right (Int.natCast_nonneg m)]
    · rw [Nat.min_eq_right c, Int.min_eq_right (Int.ofNat_le.mpr c), Int.max_eq_right (Int.natCast_nonneg n)]
theorem slice_bounds (lo hi : Option Int) (n : Nat) : (sliceBounds lo hi none n).1 = ((HT.sIx n 0 lo : Nat) : Int) ∧ (sliceBounds lo hi none n).2.1 = ((HT.sIx n n hi : Nat) : Int) ∧ (sliceBounds lo hi none n).2.2 = 1 := by
  refine ⟨?_, ?_, rfl⟩
  · cases lo with
    | none => rfl
    | some i => exact slice_clip i n
  · cases hi with
    | none => rfl
    | some i => exact slice_clip i n
theorem slicePick_cut (its : List Value) (lo hi : Option Int) : slicePick its.toArray lo hi none = ((its.drop (HT.sIx its.length 0 lo)).take (HT.sIx its.length its.length hi - HT.sIx its.length 0 lo)).toArray := by
  refine Classical.byContradiction fun hnzq => ?_; obtain ⟨h1, h2, h3⟩ := slice_bounds lo hi its.toArray.size
  refine hnzq ?_; clear hnzq
  unfold slicePick
  rw [h1, h2, h3]
  simp only [sliceRange_one, pick_run, List.size_toArray] <;> rfl
noncomputable def rSlL (K : PySem.W.Frag) : V → Option Int → Option Int → Hp → VK → Prop := fun x lo hi H Q => ∃ a xs, x = .ref a ∧ SqL K H a xs ∧ ∀ p, H p = none → Q (.ref p) (upd H p (.lst (cutV xs lo hi)))
theorem sl_list : SlR X (rSlL X.K) := by
  intro pins s σ H x v vl vu lo hi sl Q I rx hs pl pu h
  refine Classical.byContradiction fun hnzq => ?_; obtain ⟨a, xs, rfl, hx, q⟩ := h
  refine hnzq ?_; clear hnzq
  cases rx
  refine Classical.byContradiction fun hnzq => ?_; obtain ⟨its, r, ht, hz⟩ := I.list hx
  refine hnzq ?_; clear hnzq
  have hlen := r.length
  refine ⟨"list", _, slot_list_getitem.lookup, ht.isList.typeIs, ?_⟩
  refine wpAny_getItem_list_slice ht.isList hs pl pu .none (by simp) ?_ (by rw [List.size_toArray] <;> lia)
  rw [slicePick_cut, ← hlen]
  refine ⟨.ref s.heap.objs.size, _, I.laid (t' := s.toks) (o := .lst (cutV xs lo hi)) (fun b ob q => Heap.get?_push_of_some _ q) (Nat.le_refl _) ?_, rfl, q _ (I.hok.fresh (Nat.le_refl _))⟩
  exact ⟨Nat.le_trans (cutV_length xs lo hi) hz, _, 0, (r.drop (HT.sIx xs.length 0 lo)).take (HT.sIx xs.length xs.length hi - HT.sIx xs.length 0 lo), Heap.get?_push_size _ rfl⟩
noncomputable def flatV : V → Bool
  | .non => true
  | .bl _ => true
  | .int _ => true
  | .str _ => true
  | _ => false
noncomputable def eqV : V → V → Bool
  | .non, .non => true
  | .bl a, .bl b => a == b
  | .bl a, .int b => (if a then 1 else 0) == b
  | .int a, .bl b => a == (if b then 1 else 0)
  | .int a, .int b => a == b
  | .str a, .str b => a == b
  | _, _ => false
theorem eqAt_V {A : Around} {s : Shared} {y x : V} {u v : Value} (ry : RelV y u) (rx : RelV x v) (fy : flatV y = true) (fx : flatV x = true) : SeqAt.EqAt A s u v (eqV y x) := by
  cases y with
  | non =>
    cases ry
    cases x with
    | non => cases rx; exact SeqAt.EqAt.same _
    | bl b => cases rx; exact SeqAt.EqAt.none_bool b
    | int b => obtain ⟨t, rfl⟩ := rx; exact SeqAt.EqAt.none_int b t
    | str b => obtain ⟨t, rfl⟩ := rx; exact SeqAt.EqAt.none_str b t
    | _ => exact absurd (show false = true from fx) Bool.false_ne_true
  | bl a =>
    cases ry
    cases x with
    | non => cases rx; exact SeqAt.EqAt.bool_none a
    | bl b => cases rx; exact SeqAt.EqAt.bool_bool a b
    | int b => obtain ⟨t, rfl⟩ := rx; exact SeqAt.EqAt.bool_int a b t
    | str b => obtain ⟨t, rfl⟩ := rx; exact SeqAt.EqAt.bool_str a b t
    | _ => exact absurd (show false = true from fx) Bool.false_ne_true
  | int a =>
    obtain ⟨t', rfl⟩ := ry
    cases x with
    | non => cases rx; exact SeqAt.EqAt.int_none a t'
    | bl b => cases rx; exact SeqAt.EqAt.int_bool a t' b
    | int b => obtain ⟨t, rfl⟩ := rx; exact SeqAt.EqAt.int_int a t' b t
    | str b => obtain ⟨t, rfl⟩ := rx; exact SeqAt.EqAt.int_str a t' b t
    | _ => exact absurd (show false = true from fx) Bool.false_ne_true
  | str a =>
    obtain ⟨t', rfl⟩ := ry
    cases x with
    | non => cases rx; exact SeqAt.EqAt.str_none a t'
    | bl b => cases rx; exact SeqAt.EqAt.str_bool a t' b
    | int b => obtain ⟨t, rfl⟩ := rx; exact SeqAt.EqAt.str_int a t' b t
    | str b => obtain ⟨t, rfl⟩ := rx; exact SeqAt.EqAt.str_str a t' b t
    | _ => exact absurd (show false = true from fx) Bool.false_ne_true
  | _ => exact absurd (show false = true from fy) Bool.false_ne_true
noncomputable def eqU (x : V) (u : Value) : Bool := match u with
  | .none => eqV .non x
  | .bool b => eqV (.bl b) x
  | .int i _ => eqV (.int i) x
  | .str z _ => eqV (.str z) x
  | _ => false
theorem eqU_of {x y : V} {u : Value} (r : RelV y u) (f : flatV y = true) : eqU x u = eqV y x := by
  cases y with
  | non => cases r; rfl
  | bl b => cases r; rfl
  | int i => obtain ⟨t, rfl⟩ := r; rfl
  | str z => obtain ⟨t, rfl⟩ := r; rfl
  | _ => exact absurd (show false = true from f) Bool.false_ne_true
theorem any_eqU {x : V} {xs : List V} {us : List Value} (r : Vals xs us) : xs.all flatV = true → us.any (eqU x) = xs.any fun y => eqV y x := by
  unfold Vals at r
  induction r with
  | nil => intro _; rfl
  | cons r t ih =>
    intro f
    rw [List.all_cons, Bool.and_eq_true] at f
    rw [List.any_cons, List.any_cons, eqU_of r f.1, ih f.2]
theorem mem_eqAt {A : Around} {s : Shared} {x : V} {v : Value} (rx : RelV x v) (fx : flatV x = true) {xs : List V} {us : List Value} (r : Vals xs us) : xs.all flatV = true → ∀ u ∈ us, SeqAt.EqAt A s u v (eqU x u) := by
  unfold Vals at r
  induction r with
  | nil => intro _ u hu; cases hu
  | cons r t ih =>
    intro f u' hu
    rw [List.all_cons, Bool.and_eq_true] at f
    rcases List.mem_cons.mp hu with rfl | hu
    · rw [eqU_of r f.1]; exact eqAt_V r rx f.1 fx
    · exact ih f.2 u' hu
noncomputable def inV (x : V) (xs : List V) : Bool := xs.any fun y => eqV y x
noncomputable def rIn (K : PySem.W.Frag) (neg : Bool) : R2 := fun x y H Q => ∃ p xs, y = .ref p ∧ (SqL K H p xs ∨ SqT K H p xs) ∧ flatV x = true ∧ xs.all flatV = true ∧ Q (.bl (if neg then !inV x xs else inV x xs)) H
theorem op_in_seq : OpR X (compareOp .In) (rIn X.K false) := by
  intro pins s σ H x y v u Q I rx ry h
  refine Classical.byContradiction fun hnzq => ?_; obtain ⟨p, xs, rfl, hq, fx, fs, q⟩ := h
  refine hnzq ?_; clear hnzq
  cases ry
  rcases hq with hq | hq
  · refine Classical.byContradiction fun hnzq => ?_; obtain ⟨its, r, pl, hz⟩ := I.list hq
    refine hnzq ?_; clear hnzq
    refine SeqAt.in_listAt (eqU x) pl.isList (fun w hw => mem_eqAt rx fx r fs w (by simpa using hw)) ⟨.bl _, H, I, rfl, ?_⟩
    rw [show its.toArray.any (eqU x) = its.any (eqU x) by simp, any_eqU r fs]
    exact q
  · refine Classical.byContradiction fun hnzq => ?_; obtain ⟨its, r, pl, hz⟩ := I.tuple hq
    refine hnzq ?_; clear hnzq
    refine SeqAt.in_tupleAt (eqU x) pl (fun w hw => mem_eqAt rx fx r fs w (by simpa using hw)) ⟨.bl _, H, I, rfl, ?_⟩
    rw [show its.toArray.any (eqU x) = its.any (eqU x) by simp, any_eqU r fs]
    exact q
theorem call_len_seq : CallR X (.builtin "len") (fun xs H Q => ∃ p ys, xs = [.ref p] ∧ (SqL X.K H p ys ∨ SqT X.K H p ys) ∧ Q (.int ys.length) H) := by
  intro pins s σ H xs us Q I r h
  refine Classical.byContradiction fun hnzq => ?_; obtain ⟨p, ys, rfl, hq, q⟩ := h
  refine hnzq ?_; clear hnzq
  refine Classical.byContradiction fun hnzq => ?_; obtain ⟨u, rfl, rx⟩ := vals1 r
  refine hnzq ?_; clear hnzq
  cases rx
  have hn := line63
  rcases hq with hq | hq
  · refine Classical.byContradiction fun hnzq => ?_; obtain ⟨its, r', pl, hz⟩ := I.list hq
    refine hnzq ?_; clear hnzq
    have hlen := r'.length
    exact Calls.call_len_list pl.isList (by rw [List.size_toArray, ← hlen]; exact Int.ofNat_lt.mpr (Nat.lt_of_le_of_lt hz hn)) ⟨.int ys.length, H, I.tok _, ⟨s.toks + 1, by rw [List.size_toArray, hlen]⟩, q⟩
  · refine Classical.byContradiction fun hnzq => ?_; obtain ⟨its, r', pl, hz⟩ := I.tuple hq
    refine hnzq ?_; clear hnzq
    have hlen := r'.length
    exact len_tuple pl (by rw [List.size_toArray, ← hlen]; exact Int.ofNat_lt.mpr (Nat.lt_of_le_of_lt hz hn)) ⟨.int ys.length, H, I.tok _, ⟨s.toks + 1, by rw [List.size_toArray, hlen]⟩, q⟩
variable {o e : Expr} {es : List Expr} {to : TE} {t : TA} {name : Str} {apos cpos : Pos} {T id : String} {r : V → List V → Hp → VK → Prop}
end
end L2
namespace L2
open PySem PySem.Spec PyProof.Rows
section
variable {X : Cx} {pins : List (Addr × Obj)} {σ : St} {H : Hp} {s : Shared} {l b : Addr} {xs ys zs : List V}
theorem Inv.lnew {its : List Value} {t' : Nat} (I : Inv X pins σ H s) (hv : Vals ys its) (hz : ys.length ≤ sizeLine) :
    Inv X pins σ (upd H s.heap.objs.size (.lst ys)) { s with heap := s.heap.push { cls := .type "list", data := .seq its.toArray }, toks := t' } :=
  I.laid (fun _ _ q => Heap.get?_push_of_some _ q) (Nat.le_refl _) ⟨hz, its, 0, hv, Heap.get?_push_size _ rfl⟩
theorem Inv.fresh (I : Inv X pins σ H s) : H s.heap.objs.size = none := I.hok.fresh (Nat.le_refl _)
theorem Inv.lstM (I : Inv X pins σ H s) (hH : H l = some (.lst xs)) : xs.length ≤ sizeLine ∧ ∃ (its : List Value) (n : Nat), Vals xs its ∧ xs.length = its.length ∧ s.heap.get? l = some { cls := .type "list", data := .seq its.toArray n } := by
  refine Classical.byContradiction fun hnzq => ?_; obtain ⟨z, its, n, r, e⟩ := I.hok l _ hH
  refine hnzq ?_; clear hnzq
  exact ⟨z, its, n, r, r.length, e⟩
end
section
variable {X : Cx}
noncomputable def rCat : R2 := fun x y H Q => ∃ l b xs zs, x = .ref l ∧ y = .ref b ∧ H l = some (.lst xs) ∧ H b = some (.lst zs) ∧ xs.length + zs.length ≤ sizeLine ∧ ∀ p, H p = none → Q (.ref p) (upd H p (.lst (xs ++ zs)))
theorem op_cat : OpR X (binaryOp .Add) rCat := by
  intro pins s σ H x y v u Q I rx ry h
  refine Classical.byContradiction fun hnzq => ?_; obtain ⟨l, b, xs, zs, rfl, rfl, hH, hB, hz, q⟩ := h
  refine hnzq ?_; clear hnzq
  cases rx
  cases ry
  refine Classical.byContradiction fun hnzq => ?_; obtain ⟨z, its, n, r, hl, e⟩ := I.lstM hH
  refine hnzq ?_; clear hnzq
  refine Classical.byContradiction fun hnzq => ?_; obtain ⟨z2, its2, n2, r2, hl2, e2⟩ := I.lstM hB
  refine hnzq ?_; clear hnzq
  refine PySem.P.add_list e e2 ?_ (by rw [List.size_toArray, List.size_toArray]; lia)
  have ea : its.toArray ++ its2.toArray = (its ++ its2).toArray := by simp
  rw [ea]
  exact ⟨.ref _, _, I.lnew (t' := s.toks) (r.append r2) (by rw [List.length_append]; omega), rfl, q _ I.fresh⟩
end
section
variable {prog : Program} {w : World} {A : Around} {E : Value → Shared → Prop} {s : Shared}
end
section
variable {X : Cx}
end
end L2
namespace Att
open PySem PySem.W PySem.Calls PyProof.Rows
theorem ints_of_wellAll {P : Params} {h : Heap} : ∀ (ns : List Int) (vs : List Value), WellAll P h vs (ns.map WData.int) → IntsAre vs ns := by
  intro ns
  induction ns with
  | nil =>
    intro vs w
    rw [List.map_nil] at w
    cases w
    exact .nil
  | cons n ns ih =>
    intro vs w
    rw [List.map_cons] at w
    cases w with
    | cons a b =>
      cases a
      exact .cons _ _ (ih _ b)
theorem script_of {l : OpenLaw} {n : Nat} (hn : l.most = some n) {P : Params} {h : Heap} {args : List WData} {vals : List Value}
    (hpre : l.row.toRowW.claim.pre args = true) (hwl : WellAll P h vals args) :
    ∃ a vs ns, vals = [Value.ref a] ∧ args = [WData.list (ns.map WData.int)] ∧ h.get? a = some { cls := .type "list", data := .seq vs.toArray } ∧ IntsAre vs ns ∧ ns.length ≤ n := by
  have hsh : WShape.hasAll [] args [.list .int] = true := (pre_splitW hpre).1
  have hc : l.pre.holds [] { args := args } = true := (pre_splitW hpre).2
  refine Classical.byContradiction fun hnzq => ?_; obtain ⟨d, r, rfl, h1, h2⟩ := hasAllW_cons hsh
  refine hnzq ?_; clear hnzq
  obtain rfl := hasAllW_nil h2
  refine Classical.byContradiction fun hnzq => ?_; obtain ⟨xs, rfl, h3⟩ := hasW_list h1
  refine hnzq ?_; clear hnzq
  obtain ⟨ns, rfl⟩ := items_int h3
  have hlen : ns.length ≤ n := by
    unfold OpenLaw.pre at hc
    have h4 : (WTm.not (.lt (.lit (.int (n : Int))) (.len (.arg 0)))).holds [] { args := [.list (ns.map .int)] } = true := by
      have h4 := (holds_andW hc).1
      rw [hn] at h4
      exact h4
    have h5 := condW_of h4 (w_not (w_lt w_lit (w_len_list (w_arg rfl))))
    rw [List.length_map] at h5
    refine Nat.le_of_not_lt fun q => ?_
    have q' : (n : Int) < ((ns.length : Nat) : Int) := by (exact Int.ofNat_lt.mpr (by assumption))
    first
      | (rw [decide_eq_true q'] at h5; exact absurd h5 (by decide))
      | (simp at h5; omega)
  cases hwl with
  | cons w1 w2 =>
    cases w2
    cases w1 with
    | list ho hall => exact ⟨_, _, ns, rfl, rfl, ho, ints_of_wellAll ns _ hall, hlen⟩
theorem post_true (l : OpenLaw) (args : List WData) : l.row.toRowW.claim.post args (.bool true) args = true :=
  postW_of (r := l.row.toRowW) (X := (true == true))
    (show WShape.has [] (.bool true) .bool = true by first | rfl | decide | simp [WShape.has, WShape.arms, WShape.armsAll])
    (show (WTm.eq .res (.lit (.bool true))).value [] { args := args, res := some (.bool true), after := args } = some (.bool (true == true)) from w_eq_bool (w_res rfl) w_lit) rfl
theorem attach_call {l : OpenLaw} {n : Nat} {q : Program} {loose : List Str} {XP : (Str → Option Value) → Heap → Prop} {YP : World → Heap → Prop} {d : DefRec}
    (hn : l.most = some n) (hdf : d.params.defaults = [])
    (call : ∀ (w : World) (s₀ s₁ : Shared) (mg mb : Str → Option Value) (fa : Addr) (o : Obj) (pm cd doc : Value) (a : Addr) (vs : List Value) (ns : List Int),
      Ground q loose [] XP w s₀ mg mb s₁.heap → YP w s₁.heap →
      s₁.heap.get? fa = some o → o.data = .func (docDef d.name d.params d.body d.scope pm cd doc) → s₁.heap.CodeRec cd d.name → mg d.name = some (.ref fa) →
      s₁.heap.get? a = some { cls := .type "list", data := .seq vs.toArray } → IntsAre vs ns → ns.length ≤ n → s₁.gens = #[] →
      codeAny (model l.prog w) callerA (.call (.ref fa) ⟨[.ref a], []⟩) (fun r s' => r = .ok (.ret (.bool true)) ∧ OldK s₁.heap s'.heap ∧ s'.os = s₁.os ∧ AllBare s'.gens) s₁) :
    WalkO q loose XP YP l.row.toRowW d [] (fun f vs => PySem.call f vs) := by
  intro w s₀ s₁ mg mb G Y fa o pm cd doc dV kV ho hd hcd hD hmg hg args vals as hpre hlay hrd hwl hlo
  obtain rfl : dV = .none := Dflts.none hD hdf
  obtain rfl : kV = .none := Dflts.noKw hD
  refine Classical.byContradiction fun hnzq => ?_; obtain ⟨a, vs, ns, rfl, rfl, hobj, hints, hlen⟩ := script_of hn hpre hwl
  refine hnzq ?_; clear hnzq
  refine enter_call (codeAny_mono (call w s₀ s₁ mg mb fa o pm cd doc a vs ns G Y ho (fd_plain hd) hcd hmg hobj hints hlen hg) fun r s' hq => ?_)
  refine Classical.byContradiction fun hnzq => ?_; obtain ⟨rfl, h2, h3, h4⟩ := hq
  refine hnzq ?_; clear hnzq
  exact ⟨.inl ⟨.bool true, .bool true, [], rfl, fun _ => rfl, .bool true, post_true l _, fun _ => ⟨List.Pairwise.nil, fun _ hm => (nomatch hm)⟩⟩, h2, h3, h4⟩
section
variable {prog : Program} {w : World} {A : Around} {E : Value → Shared → Prop} {s : Shared} {K : Frag}
end
end Att
namespace L2
open PySem PySem.Spec PyProof.Rows
theorem vals_ints {vs : List Value} {ns : List Int} (h : IntsAre vs ns) : Vals (ns.map V.int) vs := by
  induction h with
  | nil => exact .nil
  | cons n t h ih => exact .cons ⟨t, rfl⟩ ih
noncomputable def Only (H : Hp) : Prop := ∀ b, H b = none ∨ ∃ o xs, H b = some (.frz o (.lst xs))
theorem law_call {P : Program} {w : World} {K : PySem.W.Frag} {mg mb : Str → Option Value} {CX : CXT} {k : Nat} {fa a : Addr} {fd : FuncData} {x : Str} {sp : Sp} {s₁ : Shared} {vs : List Value} {ns : List Int}
    (KX : K.In s₁.heap) (hns : s₁.heap.Ns mainGlobals mg) (hb : s₁.heap.Ns builtinsNs mb) (hbb : ∀ x : Str, x ≠ "__name__" → mb x = bootBuiltins x) (hlim : s₁.heap.NoLimit) (hg : s₁.gens = #[])
    (ha : s₁.heap.get? a = some { cls := .type "list", data := .seq vs.toArray }) (hi : IntsAre vs ns) (hl : ns.length ≤ sizeLine) (hr : Room k callerA)
    (F : ∀ base : Heap, K.In base → base.Ns mainGlobals mg → FnOk P w K mg base CX k fa fd [x] sp) (hbind : ∀ (s : Shared) (u : Value), BindsTo s fd ⟨[u], []⟩ [(x, u)])
    (hsp : ∀ H : Hp, Only H → SqL K H a (ns.map V.int) → sp [.ref a] H (fun v _ => v = .bl true) fun _ _ _ => False)
    (hCX : ∀ H e s', CX [] H s₁ (fun _ _ _ => False) e s' → False) :
    codeAny (model P w) callerA (.call (.ref fa) ⟨[.ref a], []⟩) (fun r s' => r = .ok (.ret (.bool true)) ∧ OldK s₁.heap s'.heap ∧ s'.os = s₁.os ∧ AllBare s'.gens) s₁ := by
  have rv := vals_ints hi
  have lenV := hi.length
  have core : ∀ H : Hp, Only H → SqL K H a (ns.map V.int) → HOk P w H s₁.heap → (∀ b, H b ≠ none → b = a) → (H a ≠ none → K.lookup a = none) →
      codeAny (model P w) callerA (.call (.ref fa) ⟨[.ref a], []⟩) (fun r s' => r = .ok (.ret (.bool true)) ∧ OldK s₁.heap s'.heap ∧ s'.os = s₁.os ∧ AllBare s'.gens) s₁ := by
    intro H hO hS hok hA hK
    have base_of : ∀ {b : Addr} {o : Obj}, s₁.heap.get? b = some o → H b = none → (hidT s₁.heap H).get? b = some o := fun e n => hidT_get e n
    have noA : ∀ {b : Addr} {o : Obj} {es : Array DictEntry} {ep : Nat}, s₁.heap.get? b = some o → o.data = .dict es ep → H b = none := fun {b o es ep} e d => by
      cases q : H b with
      | none => rfl
      | some u =>
        have e' : b = a := hA b (by rw [q]; simp)
        subst e'
        rw [ha] at e; cases e
        have d' : Data.seq vs.toArray _ = Data.dict es ep := d
        cases d'
    have nsK : ∀ {b : Addr} {m : Str → Option Value}, s₁.heap.Ns b m → (hidT s₁.heap H).Ns b m := fun {b m} ⟨o, es, ep, e, d, r⟩ => ⟨o, es, ep, base_of e (noA e d), d, r⟩
    have hKb : K.In (hidT s₁.heap H) := fun b o e => base_of (KX b o e) (by
      cases q : H b with
      | none => rfl
      | some u =>
        have e' : b = a := hA b (by rw [q]; simp)
        subst e'
        rw [hK (by rw [q]; simp)] at e; cases e)
    have hM : Mod K mg (hidT s₁.heap H) := ⟨hKb, nsK hns, ⟨mb, nsK hb, hbb⟩, let ⟨mc, h1, h2⟩ := hlim; ⟨mc, nsK h1, h2⟩⟩
    have e0 : Env0 P w K mg (hidT s₁.heap H) callerA [] s₁ H := ⟨rfl, hM, fun b o e => of_hidT e, Nat.le_of_eq (hidT_size _ _), trivial, fun b hb => absurd (show b ∈ ([] : List Addr) from hb) (by simp), hok, .of_eq hg⟩
    refine codeAny_mono ((F _ hKb (nsK hns)).run callerA [] s₁ H ⟨[.ref a], []⟩ [.ref a] [.ref a] _ _ hr e0 (hbind s₁ (.ref a)) (.cons rfl .nil) (hsp H hO hS)) fun r s' h => ?_
    cases r with
    | error e => exact (hCX H e s' h).elim
    | ok fl =>
      cases fl with
      | next => exact False.elim h
      | brk => exact False.elim h
      | cont => exact False.elim h
      | ret u =>
        refine Classical.byContradiction fun hnzq => ?_; obtain ⟨v, H', os, bare, un, hok', r', q⟩ := h
        refine hnzq ?_; clear hnzq
        have q' : v = .bl true := q
        subst q'
        obtain rfl : u = Value.bool true := r'
        refine ⟨rfl, OldK.of_keep fun b o e => ?_, os, bare⟩
        cases q : H b with
        | none => exact un.keep b o e q (by intro z; exact absurd (show b ∈ ([] : List Addr) from z) (by simp)) (by simp)
        | some u =>
          rcases hO b with z | ⟨ob, xs, z⟩
          · rw [q] at z; cases z
          · have z2 := un.frzs b ob _ z
            obtain ⟨e1, _⟩ := hok b _ z
            obtain ⟨e2, _⟩ := hok' b _ z2
            rw [e] at e1; cases e1
            exact e2
  cases hk : K.lookup a with
  | some o =>
    have e := KX a o hk
    rw [ha] at e
    cases e
    refine core (fun _ => none) (fun _ => .inl rfl) (.inr ⟨_, vs.toArray, _, hk, rfl, rfl, rfl, by rw [List.size_toArray, lenV]; exact hl, by simpa using rv⟩) (fun b u z => by have z' : (none : Option HO) = some u := z; cases z') (fun b z => absurd rfl z) fun z => absurd rfl z
  | none =>
    refine core (fun b => if b = a then some (.frz { cls := .type "list", data := .seq vs.toArray } (.lst (ns.map V.int))) else none) (fun b => ?_) (.inl (.inr ⟨{ cls := .type "list", data := .seq vs.toArray }, if_pos rfl⟩)) (fun b u z => ?_) (fun b z => ?_) fun _ => hk
    · by_cases hb : b = a
      · exact .inr ⟨_, _, if_pos hb⟩
      · exact .inl (if_neg hb)
    · by_cases hb : b = a
      · have z' := (if_pos hb).symm.trans z
        cases z'
        subst hb
        exact ⟨ha, by rw [List.length_map]; exact hl, vs, _, rv, ha⟩
      · have z' := (if_neg hb).symm.trans z
        cases z'
    · by_cases hb : b = a
      · exact hb
      · exact absurd (if_neg hb) z
end L2
namespace L2
open PySem PySem.Spec PyProof.Rows
set_option genInjectivity false in
set_option genSizeOf false in
set_option genSizeOfSpec false in
theorem walk_of {l : PySem.W.OpenLaw} {n k : Nat} {q : Program} {loose : List Str} {XP : (Str → Option Value) → Heap → Prop} {YP : World → Heap → Prop} {d : DefRec} {K : Params → PySem.W.Frag} {CX : World → CXT} {sp : World → Sp} {x : Str}
    (hn : l.most = some n) (hn2 : n ≤ sizeLine) (hdf : d.params.defaults = []) (hr : Room k callerA)
    (hY : ∀ (w : World) (h : Heap), YP w h → (K w.params).In h)
    (F : ∀ (w : World) (mg : Str → Option Value) (fa : Addr) (h : Heap), (K w.params).In h → h.Ns mainGlobals mg → mg d.name = some (.ref fa) →
      ∃ fd : FuncData, (∀ (s : Shared) (u : Value), BindsTo s fd ⟨[u], []⟩ [(x, u)]) ∧
        ∀ base : Heap, (K w.params).In base → base.Ns mainGlobals mg → FnOk l.prog w (K w.params) mg base (CX w) k fa fd [x] (sp w))
    (hsp : ∀ (w : World) (H : Hp) (a : Addr) (ns : List Int), ns.length ≤ n → Only H → SqL (K w.params) H a (ns.map V.int) → sp w [.ref a] H (fun v _ => v = .bl true) fun _ _ _ => False)
    (hCX : ∀ (w : World) (H : Hp) (s : Shared) (e : Value) (s' : Shared), CX w [] H s (fun _ _ _ => False) e s' → False) :
    PySem.W.WalkO q loose XP YP l.row.toRowW d [] (fun f vs => PySem.call f vs) := by
  refine Att.attach_call hn hdf fun w s₀ s₁ mg mb fa o pm cd doc a vs ns G Y ho hd hcd hmg hobj hints hlen hg => ?_
  have KX := hY w _ Y
  refine Classical.byContradiction fun hnzq => ?_; obtain ⟨fd, hb, hF⟩ := F w mg fa _ KX G.T.g hmg
  refine hnzq ?_; clear hnzq
  exact law_call KX G.T.g G.T.b G.T.builtins G.T.nolimit hg hobj hints (Nat.le_trans hlen hn2) hr hF hb (fun H hO hS => hsp w H a ns hlen hO hS) fun H e s' => hCX w H s₁ e s'
end L2
namespace L2
open PySem PySem.Spec PyProof.Rows
noncomputable def defArgs (s : Stmt) : Arguments := match s with
  | .FunctionDef _ a _ _ _ _ _ _ _ _ => a
  | _ => { posonlyargs := [], args := [], vararg := none, kwonlyargs := [], kw_defaults := [], kwarg := none, defaults := [] }
noncomputable def defBody (s : Stmt) : List Stmt := match s with
  | .FunctionDef _ _ b _ _ _ _ _ _ _ => b
  | _ => []
noncomputable def defScope (s : Stmt) : Scope := match s with
  | .FunctionDef _ _ _ _ _ _ sc _ _ _ => sc
  | _ => { kind := .function, names := [], isGenerator := false, isCoroutine := false }
noncomputable abbrev CX0 : CXT := fun _ _ _ _ _ _ => False
noncomputable abbrev E0 : XK := fun _ _ _ => False
theorem pass0 {X : Cx} : Passes CX0 X E0 := fun _ _ _ _ _ _ _ h => h.elim
structure Fun (K : PySem.W.Frag) (x qual : Str) (st : Stmt) (f : Addr) (fd : FuncData) : Prop where
  ex : ∃ (oc : Value) (od : Option Addr) (kV doc pm : Value) (an : Option Addr) (cdv ct : Value) (osl : Array (Option Value)),
    fd = PySem.W.fnOf x qual (defArgs st) (defBody st) (defScope st) .none kV doc pm an cdv ct ∧ K.lookup f = some ⟨oc, od, .func fd, osl⟩ ∧ PySem.W.codeIn K cdv qual = true
  kp : PySem.W.keepIn K (.ref f) = true
section
variable {P : Program} {w : World} {K : PySem.W.Frag} {mg : Str → Option Value} {base : Heap}
theorem Fun.ok {x qual : Str} {st : Stmt} {f : Addr} {fd : FuncData} {N ps : List Str} {k : Nat} {sp : Sp} (F : Fun K x qual st f fd) (S : FnScope N ps (defScope st)) (len : ∀ vs H Q E, sp vs H Q E → vs.length = ps.length)
    (hbody : ∀ (cdv : Value) (A : Around) (outer : List Env) (s : Shared) (H : Hp) (vs : List V) (Q : VK) (E : XK), Room k (A.deeper (envOfC qual (defScope st) s.heap.objs.size f cdv)) → sp vs H Q E →
      ∃ t, PSs (cxOf CX0 P w K mg base N qual (defScope st) f cdv A outer s H E).nox (defBody st) t ∧ t { nx := fun _ H' => Q .non H', rt := Q } (start N vs) H) : FnOk P w K mg base CX0 (k + 1) f fd ps sp := by
  refine Classical.byContradiction fun hnzq => ?_; obtain ⟨oc, od, kV, doc, pm, an, cdv, ct, osl, rfl, lk, hcd⟩ := F.ex
  refine hnzq ?_; clear hnzq
  refine fn_of lk hcd S len fun A outer s H vs Q E hr hsp => ?_
  refine Classical.byContradiction fun hnzq => ?_; obtain ⟨t, h, q⟩ := hbody cdv A outer s H vs Q E hr hsp
  refine hnzq ?_; clear hnzq
  exact ⟨t, h.nox, q⟩
theorem Fun.binds {x qual : Str} {st : Stmt} {f : Addr} {fd : FuncData} {ps : List Str} (F : Fun K x qual st f fd)
    (h : ∀ (kV doc pm : Value) (an : Option Addr) (cdv ct : Value) (us : List Value), us.length = ps.length → bindArgs (PySem.W.fnOf x qual (defArgs st) (defBody st) (defScope st) .none kV doc pm an cdv ct) ⟨us, []⟩ = pure (ps.zip us)) : Binds K fd ps [] := by
  refine Classical.byContradiction fun hnzq => ?_; obtain ⟨oc, od, kV, doc, pm, an, cdv, ct, osl, rfl, lk, hcd⟩ := F.ex
  refine hnzq ?_; clear hnzq
  exact .all (h kV doc pm an cdv ct)
theorem fun_mk {x qual : Str} {st : Stmt} {f : Addr} {oc : Value} {od an : Option Addr} {osl : Array (Option Value)} {kV doc pm cdv ct : Value} (l : K.lookup f = some ⟨oc, od, .func (PySem.W.fnOf x qual (defArgs st) (defBody st) (defScope st) .none kV doc pm an cdv ct), osl⟩)
    (c : PySem.W.codeIn K cdv qual = true) (k : PySem.W.keepIn K (.ref f) = true) : Fun K x qual st f (PySem.W.fnOf x qual (defArgs st) (defBody st) (defScope st) .none kV doc pm an cdv ct) := ⟨⟨oc, od, kV, doc, pm, an, cdv, ct, osl, rfl, l, c⟩, k⟩
end
section
variable {X : Cx}
theorem pv (i : Nat) {x : Str} {pos : Pos} (hN : X.N[i]? = some x) (hv : Vis X.env.scope x) (hd : (x == ("__debug__" : Str)) = false)
    (hcd : (x == ("__classdict__" : Str)) = false) : PE X (.Name x pos) (tVar i) := pe_var hN hv hd hcd
end
theorem iteF {A B : Prop} (h : B) : if false = true then A else B := by
  rw [if_neg Bool.false_ne_true]
  exact h
theorem iteT {A B : Prop} (h : A) : if true = true then A else B := by
  rw [if_pos rfl]
  exact h
theorem ite2 {c A B : Prop} [Decidable c] (h1 : c → A) (h2 : ¬ c → B) : if c then A else B := by
  by_cases h : c
  · rw [if_pos h]
    exact h1 h
  · rw [if_neg h]
    exact h2 h
noncomputable def Same (H H' : Hp) : Prop := ∀ b o, H b = some o → H' b = some o
theorem Same.refl (H : Hp) : Same H H := fun _ _ h => h
theorem Same.trans {H H1 H2 : Hp} (a : Same H H1) (b : Same H1 H2) : Same H H2 := fun c o h => b c o (a c o h)
theorem Same.seq {K : PySem.W.Frag} {H H' : Hp} {a : Addr} {xs : List V} (e : Same H H') (h : SqL K H a xs) : SqL K H' a xs := by
  rcases h with (h | ⟨o, h⟩) | h
  · exact .inl (.inl (e _ _ h))
  · exact .inl (.inr ⟨o, e _ _ h⟩)
  · exact .inr h
end L2
set_option maxHeartbeats 4000000
namespace Bk
open PySem PySem.W PySem.Spec PySem.Calls PyProof.Rows Builtin Builtin.ObjectAttr Builtin.Getset_descriptor
set_option genInjectivity false in
set_option genSizeOf false in
set_option genSizeOfSpec false in
structure ExcK (K : Frag) (C : Addr) : Prop where
  cls : (clsIn K C).isSome = true
  ga : findIn K (.ref C) "__getattribute__" = some (some (.builtin "BaseException.__getattribute__"))
  gt : findIn K (.ref C) "__getattr__" = some none
  at_ : findIn K (.ref C) "__class__" = some (some (.builtin "object.__class__"))
  get : specialIn K (.builtin "object.__class__") "__get__" = some (some (.builtin "getset_descriptor.__get__"))
  tk : takesIn K (.builtin "object.__class__") = some true
  obj : mroIn K C (.type "object") = some true
  exc : mroIn K C (.type "BaseException") = some true
noncomputable def OfCls (x C : Addr) (h : Heap) : Prop := ∃ o, h.get? x = some o ∧ o.cls = .ref C
theorem OfCls.ty {M : Model} {x C : Addr} {h : Heap} (p : OfCls x C h) : Looks M h (typeOf (.ref x)) (.ref C) := by
  refine Classical.byContradiction fun hnzq => ?_; obtain ⟨o, h1, h2⟩ := p
  refine hnzq ?_; clear hnzq
  rw [← h2]
  exact (Looks.ld h1).andThen .now
section
variable {prog : Program} {w : World} {A : Around} {E : Value → Shared → Prop} {s : Shared} {K : Frag} {x C : Addr}
theorem exc_get {tp : Value} {R : Result → Shared → Prop} (X : K.In s.heap) (p : OfCls x C s.heap) (e : ExcK K C) (h : R (.ok (.ret (.ref C))) s) :
    codeAny (model prog w) A (.call (.builtin "getset_descriptor.__get__") ⟨[.builtin "object.__class__", .ref x, tp], []⟩) R s := by
  refine Classical.byContradiction fun hnzq => ?_; obtain ⟨hh, g, dr, t, os⟩ := s
  refine hnzq ?_; clear hnzq
  have Ty := p.ty (M := model prog w)
  have Sub := looks_mroIn (M := model prog w) X e.obj
  refine codeAny_call_builtin
    KF.slot_gs.plain KF.entry_gs ?_
  refine KF.slot_gs.check _ _ _ _ _ _ _ _
    KF.type_class (KF.args_gs _ _ _) ?_
  unfold Builtin.«getset_descriptor.__get__»
  unfold descrGet
  rw [dga_obj]
  refine wpAny_bind (wpAny_pure ?_)
  unfold descrGetter
  unfold descrCheckInstance descrNameAndClass
  unfold isInstance
  simp only [KF.owner_class]
  repeat lk
  refine ⟨Code.quiet_builtin _ (by decide +kernel), ?_⟩
  refine codeAny_builtin KF.entry_class ?_
  unfold Builtin.«object.__class__»
  unfold shownTypeOf
  repeat lk
  exact h
theorem exc_class {Q : Option Value → Shared → Prop} (e : ExcK K C) (X : K.In s.heap) (p : OfCls x C s.heap) (h : Q (some (.ref C)) { s with toks := s.toks + 1 }) : wpAny (model prog w) A (getAttr? (.ref x) "__class__") Q E s := by
  refine Classical.byContradiction fun hnzq => ?_; obtain ⟨hh, g, d, t, os⟩ := s
  refine hnzq ?_; clear hnzq
  have T0 := p.ty (M := model prog w)
  have T1 := looks_findIn (M := model prog w) X e.ga
  have T2 := looks_findIn (M := model prog w) X e.gt
  have G : Looks (model prog w) hh (Builtin.ObjectAttr.getOf (some (.builtin "object.__class__"))) (some (.builtin "getset_descriptor.__get__")) := looks_specialIn X e.get
  have D : Looks (model prog w) hh (Builtin.ObjectAttr.dataDescriptor? (some (.builtin "object.__class__")) (some (.builtin "getset_descriptor.__get__"))) (some (.builtin "getset_descriptor.__get__", .builtin "object.__class__")) :=
    (looks_takesIn X e.tk).andThen .now
  have T3 : Looks (model prog w) hh (Builtin.ObjectAttr.find (.ref x) (.ref C) (Str.ofString "__class__")) (.bind (.builtin "getset_descriptor.__get__") (.builtin "object.__class__")) :=
    (looks_findIn X e.at_).andThen (G.andThen (D.andThen (Looks.tag .now)))
  have T4 := looks_mroIn (M := model prog w) X e.exc
  have n2 : (Value.builtin "BaseException.__getattribute__" == Value.builtin "object.__getattribute__") = false := by decide +kernel
  unfold getAttr? getAttrBy? getAttrBy
  refine wpAny_bind (wpAny_mkText (wpAny_bind (wpAny_attempt (wpAny_holding ?_))))
  refine wpAny_bind (T0.at (wpAny_bind (T1.at ?_)))
  dsimp only
  rw [n2, Bool.and_false, if_neg (by decide)]
  unfold getAttrByItsOwn
  have f3 := PySem.F.attr_ValueError.ga.bind (.ref x)
  refine wpAny_bind ?_
  unfold hookBefore
  rw [if_pos (show onTheHeap (Value.ref C) = true from rfl)]
  refine T2.at (wpAny_bind (wpAny_attempt (wpAny_holding ?_)))
  unfold callGetattribute
  rw [if_neg (by decide)]
  unfold boundAndCalled
  rw [f3]
  refine wpAny_bind (wpAny_pure ?_)
  refine wpAny_call (codeAny_call_builtin PySem.F.attr_ValueError.ga.plain F.entry_bexc_ga ?_)
  have kd : builtinKind "BaseException.__getattribute__" = some .slot := by decide +kernel
  have sp : splitId "BaseException.__getattribute__" = some ("BaseException", "__getattribute__") := by decide +kernel
  have ha := F.args_bexc_ga (.ref x) (.str (Str.ofString "__class__") t)
  simp only [checkBuiltinCall, kd, sp]
  have LI : Looks (model prog w) hh (isInstance (.ref x) (.type "BaseException")) true := T0.andThen T4
  refine wpAny_bind (LI.at ?_)
  simp only [Bool.not_true, Bool.false_eq_true, if_false]
  repeat (any_goals (first | assumption | wp_step))
  refine Classical.byContradiction fun hnzq => ?_; obtain ⟨o, po, pc⟩ := p
  refine hnzq ?_; clear hnzq
  refine wpAny_loadPart po (wpAny_pure ?_)
  rw [pc]
  refine wpAny_bind (T3.at ?_)
  dsimp only
  unfold Builtin.ObjectAttr.bindTo
  repeat (any_goals (first | assumption | wp_step))
  exact exc_get (s := ⟨hh, g, d, t + 1, os⟩) X ⟨o, po, pc⟩ e (wpAny_pure (wpAny_pure (wpAny_pure h)))
end
theorem exc_lookup {K : Frag} {C : Addr} (h : (clsIn K C).isSome = true) : ∃ c d cd sl, K.lookup C = some ⟨c, d, .cls cd, sl⟩ := by
  unfold clsIn at h
  split at h
  · rename_i c d cd sl e
    exact ⟨c, d, cd, sl, e⟩
  · cases h
theorem kitx_exc {K : Frag} {C x : Addr} (e : ExcK K C) : KitX K (.ref x) (.ref C) (OfCls x C) where
  ty := fun _ _ _ p => p.ty
  it := fun M h X _ => by
    refine Classical.byContradiction fun hnzq => ?_; obtain ⟨c, d, cd, sl, q⟩ := exc_lookup e.cls
    refine hnzq ?_; clear hnzq
    intro A Q E s k z
    unfold isType loadHead
    exact wpAny_bind (wpAny_loadPart (k _ _ (X _ _ q)) (wpAny_pure z))
  ne := fun h tp dd its n sl X htp => by
    refine Classical.byContradiction fun hnzq => ?_; obtain ⟨c, d, cd, sl', q⟩ := exc_lookup e.cls
    refine hnzq ?_; clear hnzq
    refine Bool.eq_false_iff.mpr fun z => ?_
    have e2 : C = tp := Value.ref.inj (beq_iff_eq.mp z)
    rw [← e2, X _ _ q] at htp
    cases htp
  ca := fun X p k => exc_class e X p k
end Bk
namespace L2
open PySem PySem.Spec PyProof.Rows
set_option genInjectivity false in
set_option genSizeOf false in
set_option genSizeOfSpec false in
structure Aft (P : Program) (w : World) (l : List Env) (H H' : Hp) (s : Shared) (B h : Heap) : Prop where
  stays : B.StaysIn h
  hokB : HOk P w H' B
  kept : ∀ b o, s.heap.get? b = some o → H b = none → b ∉ frs l → B.get? b = some o
  thr : ∀ b o, s.heap.get? b = some o → b ∉ frs l → ∃ o', B.get? b = some o'
  slot : ∀ b o, s.heap.get? b = some o → b ∈ frs l → ∃ sl, h.get? b = some { o with slots := sl }
  free : ∀ b o, s.heap.get? b = some o → H b = none → H' b = none
  tups : ∀ b xs, H b = some (.tup xs) → H' b = some (.tup xs)
  frzs : ∀ b o u, H b = some (.frz o u) → H' b = some (.frz o u)
  tbls : ∀ b ps, H b = some (.tbl ps) → ∃ more, H' b = some (.tbl (ps ++ more))
section
variable {P : Program} {w : World} {l : List Env} {H H' : Hp} {s : Shared} {B h h' : Heap}
theorem Aft.un (a : Aft P w l H H' s B h) : Un (frs l) [] H H' s.heap h where
  keep := fun b o q n hb _ => a.stays b o (a.kept b o q n hb)
  slot := fun b o q _ hb _ => a.slot b o q hb
  free := fun b o q n _ => a.free b o q n
  there := fun b o q _ => by
    by_cases hb : b ∈ frs l
    · obtain ⟨sl, e⟩ := a.slot b o q hb
      exact ⟨_, e⟩
    · obtain ⟨o', e⟩ := a.thr b o q hb
      exact ⟨o', a.stays b o' e⟩
  tups := a.tups
  frzs := a.frzs
  tbls := a.tbls
theorem Aft.hok (a : Aft P w l H H' s B h) : HOk P w H' h := a.hokB.kept fun b o e => a.stays b o e
theorem Aft.next (a : Aft P w l H H' s B h) (k : B.StaysIn h') (hl : h.FunFrames B l) (u : h.UpToSlots h') : Aft P w l H H' s B h' where
  stays := k
  hokB := a.hokB
  kept := a.kept
  thr := a.thr
  slot := fun b o q hb => by
    obtain ⟨sl, e⟩ := a.slot b o q hb
    refine Classical.byContradiction fun hnzq => ?_; obtain ⟨_, o', e', nf⟩ := hl.mem hb
    refine hnzq ?_; clear hnzq
    rw [e] at e'
    cases e'
    obtain ⟨sl', z⟩ := u b _ e nf
    exact ⟨sl', z⟩
  free := a.free
  tups := a.tups
  frzs := a.frzs
  tbls := a.tbls
end
set_option genInjectivity false in
set_option genSizeOf false in
set_option genSizeOfSpec false in
structure Flew (P : Program) (w : World) (l : List Env) (H H' : Hp) (s s' : Shared) (e : Addr) (cls : Value) : Prop where
  os : s'.os = s.os
  bare : AllBare s'.gens
  fly : ∃ B a0, Heap.FlyingW B l e cls a0 s'.heap ∧ Aft P w l H H' s B s'.heap
  new : s.heap.get? e = none
  untr : H' e = none
noncomputable def CXb (P : Program) (w : World) : CXT := fun outer H s E x s' => ∃ e C H', x = .ref e ∧ Flew P w outer H H' s s' e (.ref C) ∧ E (.ref C) none H'
theorem ObjOk.some {P : Program} {w : World} {H : Hp} {h : Heap} {a : Addr} {o : HO} (x : ObjOk P w H h a o) : ∃ u, h.get? a = some u := by
  cases o with
  | lst xs => refine Classical.byContradiction fun hnzq => ?_; obtain ⟨_, _, _, _, e⟩ := x; refine hnzq ?_; clear hnzq; exact ⟨_, e⟩
  | tup xs => refine Classical.byContradiction fun hnzq => ?_; obtain ⟨_, _, _, ob, e, _⟩ := x; refine hnzq ?_; clear hnzq; exact ⟨_, e⟩
  | ins C dx fs => refine Classical.byContradiction fun hnzq => ?_; obtain ⟨_, _, _, e, _⟩ := x; refine hnzq ?_; clear hnzq; exact ⟨_, e⟩
  | own y => exact x
  | frz ob u => obtain ⟨e, _⟩ := x; exact ⟨_, e⟩
  | tbl ps => exact ⟨_, x⟩
section
variable {P : Program} {w : World} {K : PySem.W.Frag} {mg : Str → Option Value} {base : Heap} {N : List Str} {qual : Str} {scope : Scope} {f : Addr} {cd : Value} {A : Around} {outer : List Env} {s : Shared} {H : Hp} {E : XK}
noncomputable def Raises (X : Cx) (E : XK) : Prop := ∀ (pins : List (Addr × Obj)) (σ : St) (H : Hp) (s : Shared) (e C : Addr) (args : List Value) (h' : Heap), Inv X pins σ H s → Heap.MadeExcOf s.heap h' e (.ref C) args → E (.ref C) none H → X.xe (.ref e) { s with heap := h' }
theorem mem_frs {env : Env} {l : List Env} {b : Addr} (h : b ∈ frs (env :: l)) : env.frame = some b ∨ b ∈ frs l := by
  refine Classical.byContradiction fun hnzq => ?_; obtain ⟨v, hv, hf⟩ := List.mem_filterMap.mp h
  refine hnzq ?_; clear hnzq
  rcases List.mem_cons.mp hv with rfl | hv
  · exact .inl hf
  · exact .inr (List.mem_filterMap.mpr ⟨v, hv, hf⟩)
theorem frs_mem {env : Env} {l : List Env} {b : Addr} (h : b ∈ frs l) : b ∈ frs (env :: l) := by
  refine Classical.byContradiction fun hnzq => ?_; obtain ⟨v, hv, hf⟩ := List.mem_filterMap.mp h
  refine hnzq ?_; clear hnzq
  exact List.mem_filterMap.mpr ⟨v, List.mem_cons_of_mem _ hv, hf⟩
theorem raises_fn : Raises (cxOf (CXb P w) P w K mg base N qual scope f cd A outer s H E) E := by
  intro pins σ H1 s1 e C args h' I m q
  have stk : (cxOf (CXb P w) P w K mg base N qual scope f cd A outer s H E).stack = envOfC qual scope s.heap.objs.size f cd :: outer := rfl
  have st := I.stack
  rw [stk] at st
  have stF := I.stkFree
  rw [stk] at stF
  have old : ∀ b o, s.heap.get? b = some o → b ∉ frs outer → b ∉ frs (envOfC qual scope s.heap.objs.size f cd :: outer) := fun b o e1 n hm => by
    rcases mem_frs hm with z | z
    · have z' : some s.heap.objs.size = some b := z
      cases z'
      exact absurd (Heap.lt_size e1) (Nat.lt_irrefl _)
    · exact n z
  have hin : ∀ env ∈ (envOfC qual scope s.heap.objs.size f cd :: outer), ∀ a, env.frame = some a → a ∈ frs (envOfC qual scope s.heap.objs.size f cd :: outer) := fun env he a ha => List.mem_filterMap.mpr ⟨env, he, ha⟩
  refine wpAny_leaves_madeW (base := PySem.W.hideAll s1.heap (frs (envOfC qual scope s.heap.objs.size f cd :: outer))) (h := s1.heap) I.ok.frames rfl (fun b o z => PySem.W.of_hideAll _ z) (PySem.W.funFrames_hide st hin) m fun h3 t fl _ _ up => ?_
  have k3 : (PySem.W.hideAll s1.heap (frs (envOfC qual scope s.heap.objs.size f cd :: outer))).StaysIn h3 := fl.1
  refine ⟨e, C, H1, rfl, ⟨I.os, I.bare, ⟨_, _, fl, ⟨k3, fun a u z => ?_, fun b o e1 n nf => ?_, fun b o e1 nf => ?_, fun b o e1 hb => ?_, fun b o e1 n => I.base.free b o e1 n (fun z => nomatch z), I.base.tups, I.base.frzs, I.base.tbls⟩⟩, ?_, ?_⟩, q⟩
  · refine (I.hok a u z).stay (fun b v hb e2 => PySem.W.hideAll_get _ e2 fun hm => ?_) (fun _ z => z) fun _ _ z => z
    have hn := stF b hm
    rcases hb with rfl | hb
    · rw [hn] at z; cases z
    · rw [hn] at hb; cases hb
  · exact PySem.W.hideAll_get _ (I.base.keep b o e1 n nf (fun z => nomatch z)) (old b o e1 nf)
  · obtain ⟨o', e2⟩ := I.base.there b o e1 (fun z => nomatch z)
    exact ⟨o', PySem.W.hideAll_get _ e2 (old b o e1 nf)⟩
  · obtain ⟨sl, e2⟩ := I.base.slot b o e1 (I.ok.frf b hb) hb (fun z => nomatch z)
    refine Classical.byContradiction fun hnzq => ?_; obtain ⟨_, ob, e3, nf⟩ := st.mem (frs_mem hb)
    refine hnzq ?_; clear hnzq
    rw [e2] at e3
    cases e3
    obtain ⟨sl', e4⟩ := up b _ (m.keeps b _ e2) nf
    exact ⟨sl', e4⟩
  · cases z : s.heap.get? e with
    | none => rfl
    | some o =>
      obtain ⟨o', e2⟩ := I.base.there e o z (fun z => nomatch z)
      rw [m.new] at e2; cases e2
  · cases z : H1 e with
    | none => rfl
    | some o =>
      obtain ⟨u, e2⟩ := (I.hok e o z).some
      rw [m.new] at e2; cases e2
end
theorem Fun.okx {P : Program} {w : World} {K : PySem.W.Frag} {mg : Str → Option Value} {base : Heap} {x qual : Str} {st : Stmt} {f : Addr} {fd : FuncData} {N ps : List Str} {k : Nat} {sp : Sp} (F : Fun K x qual st f fd) (S : FnScope N ps (defScope st))
    (len : ∀ vs H Q E, sp vs H Q E → vs.length = ps.length)
    (hbody : ∀ (cdv : Value) (A : Around) (outer : List Env) (s : Shared) (H : Hp) (vs : List V) (Q : VK) (E : XK), Room k (A.deeper (envOfC qual (defScope st) s.heap.objs.size f cdv)) → sp vs H Q E →
      ∃ t, PSs (cxOf (CXb P w) P w K mg base N qual (defScope st) f cdv A outer s H E) (defBody st) t ∧ t { nx := fun _ H' => Q .non H', rt := Q } (start N vs) H) : FnOk P w K mg base (CXb P w) (k + 1) f fd ps sp := by
  refine Classical.byContradiction fun hnzq => ?_; obtain ⟨oc, od, kV, doc, pm, an, cdv, ct, osl, rfl, lk, hcd⟩ := F.ex
  refine hnzq ?_; clear hnzq
  exact fn_of lk hcd S len fun A outer s H vs Q E hr hsp => hbody cdv A outer s H vs Q E hr hsp
noncomputable def tRaise (E : XK) (C : Addr) (t : TA) : TS := fun _ σ H => t σ H fun us H1 => us.length ≤ sizeLine ∧ E (.ref C) none H1
theorem exc_there {K : PySem.W.Frag} {C : Addr} {bmB : List Value} {newId : String} (q : PySem.W.excIn K C bmB newId = true) :
    ∃ bm N nm qn bs hd sn sub ab col dd k0 k1 k2 k3 k5, K.lookup C = some (excClassObj nm qn C N bs bm hd sn sub ab col dd k0 k1 k2 k3 k5 newId) ∧ PySem.W.tailIn K bmB bm = true ∧ PySem.W.nsOkIn K N = true ∧ PySem.W.nsIn K N "__init__" = some none := by
  unfold PySem.W.excIn at q
  split at q
  · rename_i dd cd sl ho
    split at q
    · rename_i C' bm k0 k1 k2 k3 n k5 hm hs
      simp only [Bool.and_eq_true, beq_iff_eq, Bool.not_eq_true'] at q
      refine Classical.byContradiction fun hnzq => ?_; obtain ⟨⟨⟨⟨⟨e1, e2⟩, e3⟩, e4⟩, e5⟩, e6⟩ := q
      refine hnzq ?_; clear hnzq
      subst e1 e2
      refine Classical.byContradiction fun hnzq => ?_; obtain ⟨nm, bs, mro, ns, qn, hd, sn, sub, ab, col, del⟩ := cd
      refine hnzq ?_; clear hnzq
      dsimp only at hm e3 e5 e6
      subst hm e3
      have es : sl = #[k0, k1, k2, k3, some (.builtin n), k5] := by
        rw [← Array.toList_inj, hs]
      subst es
      exact ⟨bm, ns, nm, qn, bs, hd, sn, sub, ab, col, dd, k0, k1, k2, k3, k5, ho, e4, e5, e6⟩
    · cases q
  · cases q
section
variable {X : Cx} {x : Str} {C : Addr} {np cpos pos : Pos} {e : Expr} {es : List Expr} {t : TA} {E : XK}
theorem ps_raise (R : Raises X E) (hc : X.calm = true) (hg : Gl X x) (hm : X.mg x = some (.ref C)) (q : PySem.W.excIn X.K C [.type "ValueError", .type "Exception", .type "BaseException", .type "object"] "ValueError.__new__" = true) (ha : PA X (e :: es) t)
    (hdb : (x == ("__debug__" : Str)) = false := by decide) (hpl : (backTo cpos (starEach (e :: es) X.env)).any (·.1) = false := by rfl)
    (he : starEach (e :: es) X.env = (false, eval e X.env) :: starEach es X.env := by rfl) :
    PS X (.Raise (some (.Call (.Name x np) (e :: es) [] cpos)) none pos) (tRaise E C t) := by
  intro pins s σ H D I h
  refine Classical.byContradiction fun hnzq => ?_; obtain ⟨bm, N, nm, qn, bs, hd, sn, sub, ab, col, dd, k0, k1, k2, k3, k5, lk, e4, e5, e6⟩ := exc_there q
  refine hnzq ?_; clear hnzq
  have T0 := PySem.W.tail_of_in I.kIn e4
  have hA := ha cpos pins s σ H _ I h
  rw [he] at hA
  refine wpAny_Raise_call_subU (C := C) (nm := nm) (q := qn) (N := N) (bs := bs) (bm := bm) (hdct := hd) (sn := sn) (sub := sub) (ab := ab) (col := col) (dd := dd) (k0 := k0) (k1 := k1) (k2 := k2) (k3 := k3) (k5 := k5) (mN := s.heap.nsMap N)
    PySem.F.excBase_ValueError (by decide +kernel) PySem.F.excBase_ValueError (T0.hasType (by decide +kernel)) (I.ok.hd hc) hpl (PySem.W.nsMap_none_of_in I.kIn e5 e6) (ld_glob I hg hm ⟨rfl, ?_⟩ hdb)
  rw [he]
  refine Calls.evalArgs_plain (thn hA fun us s2 zzq => ?_)
  refine Classical.byContradiction fun hnzq => ?_; obtain ⟨vs, H2, I2, r2, z, q2⟩ := zzq; refine hnzq ?_; clear hnzq
  refine ⟨rfl, by rw [← r2.length]; exact z, I2.kIn _ _ lk, ?_, PySem.W.tail_of_in I2.kIn e4, fun h' ea m => R pins σ H2 s2 ea C us h' I2 m q2⟩
  have nn : s2.heap.Ns N (s2.heap.nsMap N) := .of_isNs (PySem.W.isNs_of_in I2.kIn e5)
  have eq : s2.heap.nsMap N = s.heap.nsMap N := by
    unfold PySem.W.nsOkIn at e5
    split at e5
    · rename_i lkN
      unfold Heap.nsMap
      rw [I2.kIn _ _ lkN, I.kIn _ _ lkN]
    · cases e5
  rw [← eq]
  exact nn
end
end L2
namespace L2
open PySem PySem.Spec PyProof.Rows
noncomputable def XP (X : Cx) (pins : List (Addr × Obj)) (Dx : Value → St → Hp → Prop) (x : Value) (s' : Shared) : Prop :=
  ∃ e C σ H s H', x = .ref e ∧ Inv X pins σ H s ∧ Flew X.prog X.w X.stack H H' s s' e (.ref C) ∧ Dx (.ref C) σ H'
noncomputable abbrev TEx := St → Hp → VK → (Value → Hp → Prop) → Prop
noncomputable abbrev TSx := Ends → (Value → St → Hp → Prop) → St → Hp → Prop
noncomputable def PEx (X : Cx) (e : Expr) (t : TEx) : Prop :=
  ∀ (pins : List (Addr × Obj)) (s : Shared) (σ : St) (H : Hp) (Q : VK) (Ex : Value → Hp → Prop), Inv X pins σ H s → t σ H Q Ex → wpAny (model X.prog X.w) X.A (eval e X.env) (EP X pins σ Q) (XP X pins fun C σ' H' => σ' = σ ∧ Ex C H') s
noncomputable def PX (X : Cx) (st : Stmt) (t : TSx) : Prop :=
  ∀ (pins : List (Addr × Obj)) (s : Shared) (σ : St) (H : Hp) (D : Ends) (Dx : Value → St → Hp → Prop), Inv X pins σ H s → t D Dx σ H → wpAny (model X.prog X.w) X.A (exec st X.env) (SP X pins D) (XP X pins Dx) s
noncomputable def PXs (X : Cx) (st : List Stmt) (t : TSx) : Prop :=
  ∀ (pins : List (Addr × Obj)) (s : Shared) (σ : St) (H : Hp) (D : Ends) (Dx : Value → St → Hp → Prop), Inv X pins σ H s → t D Dx σ H → wpAny (model X.prog X.w) X.A (execs st X.env) (SP X pins D) (XP X pins Dx) s
section
variable {X : Cx} {st : Stmt} {rest : List Stmt} {t u : TSx} {e : Expr} {te : TEx} {pos : Pos}
theorem pxs_one (h1 : PX X st t) : PXs X [st] t := by
  intro pins s σ H D Dx I h
  refine wpAny_execs_cons (thn (h1 pins s σ H D Dx I h) fun f s1 q => ?_)
  cases f with
  | next => exact wpAny_execs_nil q
  | ret v => exact q
  | brk => exact q
  | cont => exact q
noncomputable def xDrop (te : TEx) : TSx := fun D Dx σ H => te σ H (fun _ H1 => D.nx σ H1) fun C H1 => Dx C σ H1
theorem px_expr (he : PEx X e te) (hs : swapsWith e none pos.line X.env = pure false := by rfl) : PX X (.Expr e pos) (xDrop te) := by
  intro pins s σ H D Dx I h
  refine wpAny_Expr_any (wpAny_mono (he pins s σ H _ _ I h) (fun v s1 ⟨x, H1, I1, r1, q1⟩ => ⟨σ, H1, I1, q1⟩) fun x' s' z => ?_) I.quiet hs
  refine Classical.byContradiction fun hnzq => ?_; obtain ⟨a, C, σ', H0, s0, H', e1, I0, F, rfl, q⟩ := z
  refine hnzq ?_; clear hnzq
  exact ⟨a, C, σ', H0, s0, H', e1, I0, F, q⟩
noncomputable def xCall (sp : Sp) (dvs : List V) (t : TA) : TEx := fun σ H Q Ex => t σ H fun vs H1 => sp (vs ++ dvs) H1 Q fun C _ H2 => Ex C H2
theorem pex_call {k : Nat} {f : Addr} {fd : FuncData} {ps : List Str} {sp : Sp} {dvs : List V} {ds : List Value} {x : Str} {p : Pos} {es : List Expr} {ta : TA}
    (F : FnOk X.prog X.w X.K X.mg X.base (CXb X.prog X.w) k f fd ps sp) (hr : Room k X.A) (hg : Gl X x) (hm : X.mg x = some (.ref f)) (hk : PySem.W.keepIn X.K (.ref f) = true) (hb : Binds X.K fd ps ds) (hd : Vals dvs ds)
    (ha : PA X.nox (e :: es) ta) (hdb : (x == ("__debug__" : Str)) = false := by decide) (he : starEach (e :: es) X.env = (false, eval e X.env) :: starEach es X.env := by rfl) (hpl : (backTo pos (starEach es X.env)).any (·.1) = false := by rfl) :
    PEx X (.Call (.Name x p) (e :: es) [] pos) (xCall sp dvs ta) := by
  intro pins s σ H Q Ex I h
  refine wpAny_Call_Name_kw (ld_glob I hg hm ?_ hdb)
  refine PySem.W.callWith_K (h₀ := X.base) I.ok.mod.kin hk (wpAny_mono (ha pos pins s σ H _ (I.wish _) h) (fun us s1 ⟨vs, H1, I1, r, q⟩ => ⟨I1.kIn, ?_⟩) fun _ _ z => False.elim z) he hpl
  have I2 : Inv X pins σ H1 s1 := I1.unwish
  have r2 : Vals (vs ++ dvs) (us ++ ds) := r.append hd
  have hl : (us ++ ds).length = ps.length := by rw [← r2.length]; exact F.len _ _ _ _ q
  refine wpAny_call (codeAny_mono (F.run X.A X.stack s1 H1 ⟨us, []⟩ (us ++ ds) (vs ++ dvs) Q _ hr I2.env0 (hb s1 us I2.kIn hl) r2 q) fun r s' hq => ?_)
  cases r with
  | error x' =>
    refine Classical.byContradiction fun hnzq => ?_; obtain ⟨a, C, H', e1, Fl, z⟩ := hq
    refine hnzq ?_; clear hnzq
    exact ⟨a, C, σ, H1, s1, H', e1, I2, Fl, rfl, z⟩
  | ok fl =>
    cases fl with
    | ret u => exact I2.after hq
    | next => exact False.elim hq
    | brk => exact False.elim hq
    | cont => exact False.elim hq
end
noncomputable def Cx.caught (X : Cx) (e : Addr) (oe : Obj) : Cx := { X with A := X.A.mark (some (.ref e)), calm := false, pn := (e, oe) :: X.pn, xe := fun _ _ => False }
theorem Inv.caught {X : Cx} {σ : St} {H H' : Hp} {s s' : Shared} {e : Addr} {oe : Obj} {pins : List (Addr × Obj)} (I : Inv X pins σ H s) (os : s'.os = s.os) (bare : AllBare s'.gens) (un : Un (frs X.stack) [] H H' s.heap s'.heap) (hok : HOk X.prog X.w H' s'.heap)
    (he : s'.heap.get? e = some oe) (hn : s.heap.get? e = none) (hu : H' e = none) (hc : ∀ v, oe.data ≠ .cell v) (hst : X.stack = X.env :: X.outer) : Inv (X.caught e oe) pins σ H' s' := by
  have J : Inv X pins σ H' s' := I.call' os un hok bare (fun b z => absurd z (by simp))
  have ne : e ≠ X.env.locals := fun z => by
    refine Classical.byContradiction fun hnzq => ?_; obtain ⟨m, ⟨o, _, _, ho, _⟩, _⟩ := I.loc
    refine hnzq ?_; clear hnzq
    rw [← z, hn] at ho; cases ho
  have nf : e ∉ X.fs := fun z => by
    refine Classical.byContradiction fun hnzq => ?_; obtain ⟨_, o, ho, _⟩ := I.funs.mem z
    refine hnzq ?_; clear hnzq
    rw [hn] at ho; cases ho
  have ok := J.ok
  refine ⟨⟨ok.mod, ok.kind, ok.glob, ok.blt, ok.above, ok.inj, ok.has, ok.cab, (fun z => by cases z), ok.frames, ok.stk, ok.exf, ok.bs, ok.bsz, ok.noex, ok.exfs, ok.funs, ok.frf⟩, J.os, J.bare, J.base, J.loc, J.cell, J.free, J.freeC, fun p hp => ?_, J.hok, J.len⟩
  have hp' : p = (e, oe) ∨ p ∈ X.pn ++ pins := by
    have z : p ∈ (e, oe) :: (X.pn ++ pins) := hp
    exact List.mem_cons.mp z
  rcases hp' with rfl | hp'
  · exact ⟨he, hu, ne, nf, hc⟩
  · exact J.pin p hp'
theorem Inv.uncaught {X : Cx} {σ : St} {H : Hp} {s : Shared} {e : Addr} {oe : Obj} {pins : List (Addr × Obj)} (ok : X.Ok) (J : Inv (X.caught e oe) pins σ H s) : Inv X pins σ H s :=
  ⟨ok, J.os, J.bare, J.base, J.loc, J.cell, J.free, J.freeC, fun p hp => J.pin p (List.mem_cons_of_mem (e, oe) hp), J.hok, J.len⟩
theorem Inv.forget {X : Cx} {σ : St} {H : Hp} {s : Shared} {pins : List (Addr × Obj)} {i t : Nat} {n : Str} {m : Str → Option Value} {v : Option Value} {h' : Heap} (I : Inv X pins σ H s) (hN : X.N.Nodup) (hi : X.N[i]? = some n)
    (hm : s.heap.Ns X.env.locals m) (hl : ∀ (j : Nat) (x : Str) (v : V), X.N[j]? = some x → σ[j]? = some (some v) → Vis X.env.scope x → ∃ u, RelV v u ∧ Look X.env s.heap m x u)
    (hn : h'.Ns X.env.locals (fun x => if x = n then v else m x)) (hs : Heap.SameBut X.env.locals s.heap h') : Inv X pins (σ.set i none) H { s with heap := h', toks := t } := by
  have iσ : i < σ.length := by rw [I.len]; exact (List.getElem?_eq_some_iff.mp hi).1
  refine ⟨I.ok, I.os, I.bare, ⟨fun b o e n hb hx => ?_, fun b o e n hb hx => ?_, I.base.free, fun b o e hx => ?_, I.base.tups, I.base.frzs, I.base.tbls⟩, ⟨_, hn, fun j y v' e1 e2 e3 => ?_⟩, fun y c e => ?_, I.free, I.freeC, fun p hp => ?_, fun b u e => ?_, by simpa using I.len⟩
  · exact (hs.2 b (Nat.ne_of_lt (Nat.lt_of_lt_of_le (Heap.lt_size e) I.ok.above))).trans (I.base.keep b o e n hb hx)
  · obtain ⟨sl, e1⟩ := I.base.slot b o e n hb hx
    exact ⟨sl, (hs.2 b (Nat.ne_of_lt (Nat.lt_of_lt_of_le (Heap.lt_size e) I.ok.above))).trans e1⟩
  · obtain ⟨o', e1⟩ := I.base.there b o e hx
    exact ⟨o', (hs.2 b (Nat.ne_of_lt (Nat.lt_of_lt_of_le (Heap.lt_size e) I.ok.above))).trans e1⟩
  · by_cases hj : j = i
    · subst hj
      rw [List.getElem?_set_self iσ] at e2
      cases e2
    · rw [List.getElem?_set_ne (Ne.symm hj)] at e2
      refine Classical.byContradiction fun hnzq => ?_; obtain ⟨u', r', q⟩ := hl j y v' e1 e2 e3
      refine hnzq ?_; clear hnzq
      refine ⟨u', r', ?_⟩
      have ny : y ≠ n := fun z => hj (nodup_ix hN e1 (z ▸ hi))
      rcases q with ⟨k, e⟩ | ⟨k, c, e, z⟩
      · exact .inl ⟨k, (if_neg ny).trans e⟩
      · exact .inr ⟨k, c, e, z.sameBut hs (I.cne y c e)⟩
  · obtain ⟨w', z⟩ := I.cell y c e
    exact ⟨w', z.sameBut hs (I.cne y c e)⟩
  · refine Classical.byContradiction fun hnzq => ?_; obtain ⟨e, n, ne, nf, d⟩ := I.pin p hp
    refine hnzq ?_; clear hnzq
    exact ⟨(hs.2 p.1 ne).trans e, n, ne, nf, d⟩
  · refine (I.hok b u e).stay (fun c v hc q => (hs.2 c ?_).trans q) (fun _ z => z) fun _ _ z => z
    rintro rfl
    rcases hc with z | z
    · rw [← z, I.free] at e; cases e
    · rw [I.free] at z; cases z
section
variable {X : Cx} {body suite : List Stmt} {b₀ : Stmt} {t : TSx} {ts : Addr → Obj → TS} {c n : Str} {c₀ : Value} {i : Nat} {np hpos pos : Pos}
noncomputable def tTry (K : PySem.W.Frag) (c₀ : Value) (i : Nat) (t : TSx) (ts : Addr → Obj → TS) : TS := fun D σ H => t D (fun C σ' H' => PySem.W.exmOne K C c₀ = some true ∧ ∀ (e : Addr) (oe : Obj), oe.cls = C → H' e = none →
  ts e oe { nx := fun σ2 H2 => D.nx (σ2.set i none) H2, rt := D.rt, bk := fun σ2 H2 => D.bk (σ2.set i none) H2, ct := fun σ2 H2 => D.ct (σ2.set i none) H2 } (σ'.set i (some (.ref e))) H') σ H
theorem ps_try (hst : X.stack = X.env :: X.outer) (hfr : X.env.frame = some X.env.locals) (hN : X.N.Nodup) (hi : X.N[i]? = some n) (hn : X.env.kindOf n = some .local) (hg : Gl X c) (hm : X.mg c = some c₀)
    (hb : PXs X body t) (hs : ∀ e oe, PSs (X.caught e oe) (b₀ :: suite) (ts e oe)) (hdb : (c == ("__debug__" : Str)) = false := by decide) :
    PS X (.Try body [.ExceptHandler (some (.Name c np)) (some n) (b₀ :: suite) hpos] [] [] pos) (tTry X.K c₀ i t ts) := by
  intro pins s σ H D I h
  refine wpAny_Try_except (wpAny_mono (hb pins s σ H D _ I h) (fun f s1 q => ?_) fun x s1 q => ?_)
  · cases f with
    | next => exact wpAny_execs_nil q
    | ret v => exact q
    | brk => exact q
    | cont => exact q
  refine Classical.byContradiction fun hnzq => ?_; obtain ⟨e, C, σ', H0, s0, H', rfl, I0, F, hx, q⟩ := q
  refine hnzq ?_; clear hnzq
  refine Classical.byContradiction fun hnzq => ?_; obtain ⟨B, a0, fl, a⟩ := F.fly
  refine hnzq ?_; clear hnzq
  rw [hst] at fl
  have frm : X.A.frames = some (X.env :: X.outer) := by rw [← hst]; exact I0.ok.frames
  have stkE : frs X.stack = frs (X.env :: X.outer) := by rw [hst]
  refine wpAny_looks_onW (base := B) frm hfr fl fun h4 hd4 up4 => ?_
  have a4 : Aft X.prog X.w X.stack H0 H' s0 B h4 := a.next hd4.1 (by rw [hst]; exact fl.2.2.1) up4
  refine wpAny_landsW hd4 fun h5 fl5 up5 => ?_
  have a5 : Aft X.prog X.w X.stack H0 H' s0 B h5 := a4.next fl5.1 (by rw [hst]; exact hd4.2.2.1) up5
  refine Classical.byContradiction fun hnzq => ?_; obtain ⟨oe5, ws5, he5, hc5, hd5, _⟩ := fl5.first
  refine hnzq ?_; clear hnzq
  have J5 : Inv (X.caught e oe5) pins σ' H' { s1 with heap := h5 } := I0.caught (s' := { s1 with heap := h5 }) F.os F.bare a5.un a5.hok he5 F.new F.untr (fun v z => by rw [hd5] at z; cases z) hst
  refine wpAny_handleBy_cons (codeAny_handlers_test (ld_glob (X := X.caught e oe5) J5 hg hm ?_ hdb)) (by intro z; cases z)
  have LT : PySem.W.Looks (model X.prog X.w) h5 (typeOf (.ref e)) (.ref C) := hc5 ▸ (PySem.W.Looks.ld he5).andThen .now
  refine (PySem.W.exm_one (K := X.K) J5.kIn LT hx).here ?_
  refine codeAny_handlers_suite_as (lands_againW fl5 fun h6 fl6 up6 => ?_)
  have a6 : Aft X.prog X.w X.stack H0 H' s0 B h6 := a5.next fl6.1 (by rw [hst]; exact fl5.2.2.1) up6
  refine Classical.byContradiction fun hnzq => ?_; obtain ⟨oe, ws, he6, hc6, hd6, _⟩ := fl6.first
  refine hnzq ?_; clear hnzq
  have J6 : Inv (X.caught e oe) pins σ' H' { s1 with heap := h6 } := I0.caught (s' := { s1 with heap := h6 }) F.os F.bare a6.un a6.hok he6 F.new F.untr (fun v z => by rw [hd6] at z; cases z) hst
  refine store_ok (X := X.caught e oe) (v := .ref e) J6 hN hi (.inl hn) rfl (fun s7 I7 => ?_) (.inr hn)
  refine wpAny_mono (hs e oe pins s7 _ H' _ I7 (q e oe hc6 F.untr)) (fun f s8 z => ?_) fun _ _ z => False.elim z
  have goes : ∀ {σ2 : St} {H2 : Hp} {Q : Unit → Shared → Prop}, Inv (X.caught e oe) pins σ2 H2 s8 → (∀ s9, Inv X pins (σ2.set i none) H2 s9 → Q () s9) → wpAny (model X.prog X.w) X.A (do bindName X.env n .none; unbindBehindTheSuite X.env n hpos) Q X.xe s8 := by
    intro σ2 H2 Q I2 k
    have I3 : Inv X pins σ2 H2 s8 := Inv.uncaught I0.ok I2
    refine Classical.byContradiction fun hnzq => ?_; obtain ⟨m, hm2, hl2⟩ := I3.loc
    refine hnzq ?_; clear hnzq
    refine wpAny_nameGoes_keeps hn hm2 (by rw [I3.ok.kind]; rfl) fun h9 v hn9 hs9 => k _ (I3.forget (t := s8.toks + 1) hN hi hm2 hl2 hn9 hs9)
  cases f with
  | next =>
    refine Classical.byContradiction fun hnzq => ?_; obtain ⟨σ2, H2, I2, z⟩ := z
    refine hnzq ?_; clear hnzq
    exact goes I2 fun s9 I9 => ⟨_, H2, I9, z⟩
  | brk =>
    refine Classical.byContradiction fun hnzq => ?_; obtain ⟨σ2, H2, I2, z⟩ := z
    refine hnzq ?_; clear hnzq
    exact goes I2 fun s9 I9 => ⟨_, H2, I9, z⟩
  | cont =>
    refine Classical.byContradiction fun hnzq => ?_; obtain ⟨σ2, H2, I2, z⟩ := z
    refine hnzq ?_; clear hnzq
    exact goes I2 fun s9 I9 => ⟨_, H2, I9, z⟩
  | ret u =>
    refine Classical.byContradiction fun hnzq => ?_; obtain ⟨v, σ2, H2, I2, r, z⟩ := z
    refine hnzq ?_; clear hnzq
    exact goes I2 fun s9 I9 => ⟨v, _, H2, I9, r, z⟩
end
end L2
namespace L2
open PySem PySem.Spec PyProof.Rows
section
variable {X : Cx}
noncomputable def cVal : V → Option Value
  | .ref a => some (.ref a)
  | .ty n => some (.type n)
  | _ => none
theorem cVal_rel {c : V} {k u : Value} (e : cVal c = some k) (r : RelV c u) : u = k := by
  cases c with
  | ref a => cases e; exact r
  | ty n => cases e; exact r
  | _ => cases e
theorem call_isinst : CallR X (.builtin "isinstance") (fun xs H Q => ∃ x c t k b, xs = [x, c] ∧ TyOf X.K H x t ∧ cVal c = some k ∧ PySem.W.kitOne X.K t k = some b ∧ Q (.bl b) H) := by
  intro pins s σ H xs us Q I r h
  refine Classical.byContradiction fun hnzq => ?_; obtain ⟨x, c, t, k, b, rfl, ty, ck, e, q⟩ := h
  refine hnzq ?_; clear hnzq
  refine Classical.byContradiction fun hnzq => ?_; obtain ⟨u, w, rfl, ru, rw'⟩ := vals2 r
  refine hnzq ?_; clear hnzq
  obtain rfl := cVal_rel ck rw'
  exact isinst_ok I ru ty e fun tk => ⟨.bl b, H, I.tok tk, rfl, q⟩
theorem call_isinst_exc : CallR X (.builtin "isinstance") (fun xs H Q => ∃ (a : Addr) (oe : Obj) (C : Addr) (c : V) (k : Value) (b : Bool), xs = [.ref a, c] ∧ (a, oe) ∈ X.pn ∧ oe.cls = .ref C ∧ Bk.ExcK X.K C ∧ cVal c = some k ∧ PySem.W.kitOne X.K (.ref C) k = some b ∧ Q (.bl b) H) := by
  intro pins s σ H xs us Q I r h
  refine Classical.byContradiction fun hnzq => ?_; obtain ⟨a, oe, C, c, k, b, rfl, hp, hc, ek, ck, e, q⟩ := h
  refine hnzq ?_; clear hnzq
  refine Classical.byContradiction fun hnzq => ?_; obtain ⟨u, w, rfl, ru, rw'⟩ := vals2 r
  refine hnzq ?_; clear hnzq
  obtain rfl := cVal_rel ck rw'
  cases ru
  exact PySem.W.kia_one (Bk.kitx_exc ek) I.kIn ⟨oe, (I.pin _ (List.mem_append_left _ hp)).1, hc⟩ e (fun z => nomatch z) fun tk => ⟨.bl b, H, I.tok tk, rfl, q⟩
theorem cVals_rel {cs : List V} {ks us : List Value} (h : cs.map cVal = ks.map some) (r : Vals cs us) : us = ks := by
  unfold Vals at r
  induction r generalizing ks with
  | nil =>
    cases ks with
    | nil => rfl
    | cons k ks => cases h
  | cons r t ih =>
    cases ks with
    | nil => cases h
    | cons k ks =>
      rw [List.map_cons, List.map_cons] at h
      injection h with h1 h2
      rw [cVal_rel h1 r, ih h2]
theorem call_isinst_excT : CallR X (.builtin "isinstance") (fun xs H Q => ∃ (a tp : Addr) (oe : Obj) (C : Addr) (cs : List V) (ks : List Value) (b : Bool), xs = [.ref a, .ref tp] ∧ (a, oe) ∈ X.pn ∧ oe.cls = .ref C ∧ Bk.ExcK X.K C ∧ H tp = some (.tup cs) ∧
    cs.map cVal = ks.map some ∧ PySem.W.kitAny X.K (.ref C) ks = some b ∧ Q (.bl b) H) := by
  intro pins s σ H xs us Q I r h
  refine Classical.byContradiction fun hnzq => ?_; obtain ⟨a, tp, oe, C, cs, ks, b, rfl, hp, hc, ek, ht, hk, e, q⟩ := h
  refine hnzq ?_; clear hnzq
  refine Classical.byContradiction fun hnzq => ?_; obtain ⟨u, w, rfl, ru, rw'⟩ := vals2 r
  refine hnzq ?_; clear hnzq
  cases ru
  cases rw'
  refine Classical.byContradiction fun hnzq => ?_; obtain ⟨_, its, rv, o, e1, e2, n, e3⟩ := (show ObjOk X.prog X.w H s.heap tp (.tup cs) from I.hok tp _ ht)
  refine hnzq ?_; clear hnzq
  obtain rfl := cVals_rel hk rv
  refine Classical.byContradiction fun hnzq => ?_; obtain ⟨oc, dd, dt, sl⟩ := o
  refine hnzq ?_; clear hnzq
  have e2' : oc = .type "tuple" := e2
  have e3' : dt = .seq its.toArray n := e3
  subst e2' e3'
  exact PySem.W.kia_tup (Bk.kitx_exc ek) I.kIn ⟨oe, (I.pin _ (List.mem_append_left _ hp)).1, hc⟩ e1 e (fun z => nomatch z) fun tk => ⟨.bl b, H, I.tok tk, rfl, q⟩
end
end L2
namespace L2
open PySem PySem.Spec PyProof.Rows
set_option genInjectivity false in
set_option genSizeOf false in
set_option genSizeOfSpec false in
structure Dv (K : PySem.W.Frag) (mg : Str → Option Value) (x : Str) (st : Stmt) (ps : List Str) where
  f : Addr
  fd : FuncData
  F : Fun K x x st f fd
  b : Binds K fd ps []
  m : mg x = some (.ref f)
section
variable {X : Cx} {x : Str} {st : Stmt} {ps : List Str} {CX : CXT} {k : Nat} {sp : Sp} {E : XK} {p pos : Pos} {e : Expr} {es : List Expr} {t : TA}
end
noncomputable def cell (ns : List Int) (k : Int) : Int := if k < (ns.length : Int) then ns.getD k.toNat 0 else 0
theorem at_cell {ns : List Int} {k : Int} (h0 : 0 ≤ k) (h : k < (ns.length : Int)) : atI (ns.map V.int) k = some (V.int (ns.getD k.toNat 0)) := by
  have hk : k.toNat < ns.length := (Int.toNat_lt h0).mpr h
  have e : k = ((k.toNat : Nat) : Int) := (Int.toNat_of_nonneg h0).symm
  rw [e]
  refine atI_nat ?_
  rw [List.getElem?_map, Int.toNat_natCast]
  simp [List.getD_eq_getElem?_getD, hk]
end L2
namespace L2
open PySem PySem.Spec PyProof.Rows
section
variable {X : Cx} {ts M : List Str} {scope : Scope} {cl : List (Str × Addr)} {C : Addr} {fp : List Addr} {pins : List (Addr × Obj)} {σ : St} {H : Hp} {s s1 : Shared}
end
section
variable {prog : Program} {w : World} {A : Around} {R : Result → Shared → Prop} {s : Shared}
end
section
variable {X : Cx} {ts : List Str} {elt tg iter : Expr} {ifs : List Expr} {scope : Scope} {pos : Pos} {wi : TI} {g : TG} {tf : TT} {te : TE}
end
section
variable {X : Cx} {N : List Str} {sc scope : Scope} {x : Str} {px pos : Pos} {elt iter : Expr} {ifs : List Expr} {wi : TI} {tf : TT} {te : TE}
end
end L2
namespace L2
open PySem PySem.Spec PyProof.Rows
theorem passb0 {X : Cx} {P : Program} {w : World} : Passes (CXb P w) X E0 := fun _ _ _ _ _ _ _ h => by
  refine Classical.byContradiction fun hnzq => ?_; obtain ⟨_, _, _, _, _, q⟩ := h
  refine hnzq ?_; clear hnzq
  exact q.elim
theorem at_upd {H : Hp} {l p : Addr} {o u : HO} (h : H l = some o) (hp : H p = none) : upd H p u l = some o := by
  rw [upd_ne (ne_of_none h hp)]; exact h
theorem same_upd {H : Hp} {p : Addr} {u : HO} (hp : H p = none) : Same H (upd H p u) := fun _ _ h => at_upd h hp
theorem same_upd' {H H1 : Hp} {p : Addr} {u : HO} (h : Same H H1) (hp : H1 p = none) : Same H (upd H1 p u) := h.trans (same_upd hp)
theorem kf {K : PySem.W.Frag} {t c : Value} {r : List Value} (h : PySem.W.kitOne K t c = some false) (h2 : PySem.W.kitAny K t r = some false) : PySem.W.kitAny K t (c :: r) = some false := by
  unfold PySem.W.kitAny
  rw [h]
  exact h2
theorem kn {K : PySem.W.Frag} {t : Value} : PySem.W.kitAny K t [] = some false := rfl
theorem szOk {n : Nat} (h : n ≤ 16777216) : n ≤ sizeLine := by rw [sizeLine_eq]; exact h
end L2
namespace L2
open PySem PySem.Spec PyProof.Rows
noncomputable def tCut (t u : TS) : TS := fun D σ H => ∃ N : St → Hp → Prop, t { D with nx := N } σ H ∧ ∀ σ' H', N σ' H' → u D σ' H'
theorem pss_cut {X : Cx} {st : Stmt} {rest : List Stmt} {t u : TS} (h1 : PS X st t) (h2 : PSs X rest u) : PSs X (st :: rest) (tCut t u) := by
  intro pins s σ H D I h
  refine Classical.byContradiction fun hnzq => ?_; obtain ⟨N, hN, hu⟩ := h
  refine hnzq ?_; clear hnzq
  refine wpAny_execs_cons (thn (h1 pins s σ H { D with nx := N } I hN) fun f s1 q => ?_)
  cases f with
  | next =>
    refine Classical.byContradiction fun hnzq => ?_; obtain ⟨σ', H', I', q⟩ := q
    refine hnzq ?_; clear hnzq
    exact h2 pins s1 σ' H' D I' (hu σ' H' q)
  | ret v => exact q
  | brk => exact q
  | cont => exact q
end L2
namespace L2
open PySem PySem.Spec PyProof.Rows
section
variable {X : Cx}
end
end L2
namespace L2
open PySem PySem.Spec PyProof.Rows
section
variable {prog : Program} {w : World} {A : Around} {R : Result → Shared → Prop} {I p : Addr} {its : List Value} {ns : List Int} {d : Value}
end
end L2
namespace L2
open PySem PySem.Spec PyProof.Rows
section
variable {prog : Program} {w : World} {A : Around} {R : Result → Shared → Prop} {I p : Addr} {its : List Value} {ns : List Int} {d : Value}
end
section
variable {X : Cx} {x : Str} {p pos : Pos} {e : Expr} {es : List Expr} {t tk : TA} {id : String} {kws : List Keyword} {ks : List Str} {r : List V → List V → Hp → VK → Prop}
end
end L2
namespace L2
open PySem PySem.Spec PyProof.Rows
section
variable {X : Cx}
end
end L2
namespace L2
open PySem PySem.Spec PyProof.Rows
section
variable {X : Cx}
end
end L2
namespace L2
open PySem PySem.Spec PyProof.Rows
end L2
namespace L2
open PySem PySem.Spec PyProof.Rows
section
variable {X : Cx} {tg : Expr}
end
end L2
namespace L2
open PySem PySem.Spec PyProof.Rows
inductive StrEs : List Expr → List Str → Prop where
  | nil : StrEs [] []
  | cons {x : Str} {j : Nat} {pos : Pos} {es : List Expr} {xs : List Str} : StrEs es xs → StrEs (.Constant (.str x) j pos :: es) (x :: xs)
theorem StrEs.pa {X : Cx} {es : List Expr} {xs : List Str} (h : StrEs es xs) : PA X es (fun σ H Q => Q (xs.map V.str) H) := by
  induction h with
  | nil => exact pa_nil
  | cons h ih => exact pa_cons (t := fun _ H Q => Q (List.map V.str _) H) pe_str ih
end L2
namespace L2
open PySem PySem.Spec PyProof.Rows
section
variable {X : Cx}
end
end L2
namespace L2
open PySem PySem.Spec PyProof.Rows
set_option genInjectivity false in
set_option genSizeOf false in
set_option genSizeOfSpec false in
structure MkN (K : PySem.W.Frag) (C : Addr) : Prop where
  makes : PySem.W.makesIn K C = true
  init : PySem.W.findIn K (.ref C) "__init__" = some (some (.builtin "object.__init__"))
  kp : PySem.W.keepIn K (.ref C) = true
section
variable {X : Cx} {C : Addr}
theorem run_makeN {pins : List (Addr × Obj)} {σ : St} {H : Hp} {s : Shared} {Q : VK} (M : MkN X.K C) (I : Inv X pins σ H s)
    (h : ∀ x dx, H x = none → H dx = none → dx ≠ x → Q (.ref x) (upd (upd H dx (.own x)) x (.ins C dx []))) :
    wpAny (model X.prog X.w) X.A (call (.ref C) []) (EP X pins σ Q) X.xe s := by
  have hq := h (s.heap.objs.size + 1) s.heap.objs.size (I.hok.fresh (Nat.le_succ _)) (I.hok.fresh (Nat.le_refl _)) (Nat.ne_of_lt (Nat.lt_succ_self _))
  have I2 := Inv.made (C := C) I
  have Y := PySem.W.makes_of (M := model X.prog X.w) I.kIn M.makes
  have e2 : ((s.heap.push PySem.W.emptyDict).push (PySem.W.instObj C s.heap.objs.size)).get? (s.heap.objs.size + 1) = some (PySem.W.instObj C s.heap.objs.size) := by
    have := Heap.get?_push_size (s.heap.push PySem.W.emptyDict) (o := PySem.W.instObj C s.heap.objs.size) rfl
    rwa [Heap.size_push] at this
  refine wpAny_call (make_map0 I.kIn M.makes M.init (fun self => PySem.W.Looks.of_pure (PySem.W.oi_bind self)) ?_)
  have t1 : PySem.W.Looks (model X.prog X.w) ((s.heap.push PySem.W.emptyDict).push (PySem.W.instObj C s.heap.objs.size)) (typeOf (.ref (s.heap.objs.size + 1))) (.ref C) := (PySem.W.Looks.ld e2).andThen .now
  have t2 : PySem.W.Looks (model X.prog X.w) ((s.heap.push PySem.W.emptyDict).push (PySem.W.instObj C s.heap.objs.size)) (isInstance (.ref (s.heap.objs.size + 1)) (.type "object")) true := t1.andThen (Y.top.keeps fun b o e => Heap.get?_push_of_some _ (Heap.get?_push_of_some _ e))
  refine codeAny_call_builtin PySem.W.oi_plain PySem.W.entry_oi (@PySem.W.check_slot (model X.prog X.w) _ _ _ "object.__init__" "object" "__init__" (.ref (s.heap.objs.size + 1)) [] [] _ PySem.W.oi_kind PySem.W.oi_split t2 (PySem.W.oi_args (.ref (s.heap.objs.size + 1))) ?_)
  rw [PySem.W.oi_run]
  exact wpAny_pure (And.intro rfl ⟨V.ref (s.heap.objs.size + 1), _, I2, rfl, hq⟩)
noncomputable def tMakeN (C : Addr) : TE := fun _ H Q => ∀ x dx, H x = none → H dx = none → dx ≠ x → Q (.ref x) (upd (upd H dx (.own x)) x (.ins C dx []))
theorem pe_makeN {x : Str} {p pos : Pos} (M : MkN X.K C) (hg : Gl X x) (hm : X.mg x = some (.ref C)) (hdb : (x == ("__debug__" : Str)) = false := by decide) : PE X (.Call (.Name x p) [] [] pos) (tMakeN C) := by
  intro pins s σ H Q I h
  refine wpAny_Call_Name_kw (ld_glob I hg hm ?_ hdb)
  exact PySem.W.callWith_K0 I.kIn M.kp (run_makeN M I h)
end
section
variable {X : Cx} {CX : CXT} {k : Nat} {ι : Type} {C f : ι → Addr} {fd : ι → FuncData} {ps : List Str} {sp : ι → Sp} {E : XK} {m : Str} {pos apos : Pos} {e o : Expr} {es : List Expr} {ta : TE} {t : TA}
noncomputable def tMethI (C : ι → Addr) (m : Str) (sp : ι → Sp) (E : XK) (ta : TE) (t : TA) : TE := fun σ H Q => ta σ H fun x H1 => ∃ (i : ι) (a dx : Addr) (fs : List (Str × V)), x = .ref a ∧ H1 a = some (.ins (C i) dx fs) ∧ fs.lookup m = none ∧ t σ H1 fun vs H2 => sp i (.ref a :: vs) H2 Q E
theorem pe_methI {pl : Sem Bool} (he : PE X o ta) (c : ∀ i, Cls X.K (C i)) (hm : ∀ i, Meth X.K (C i) m (f i)) (F : ∀ i, FnOk X.prog X.w X.K X.mg X.base CX k (f i) (fd i) ps (sp i)) (hr : Room k X.A) (hb : ∀ i, Binds X.K (fd i) ps []) (hx : Passes CX X E) (ha : PA X (e :: es) t)
    (hst : starEach (e :: es) X.env = (false, eval e X.env) :: starEach es X.env := by rfl) (hpl : (backTo pos (starEach es X.env)).any (·.1) = false := by rfl)
    (ht : eval (.Call (.Attribute o m apos) (e :: es) [] pos) X.env = (do
      let ov ← eval o X.env
      standAt apos.atName
      let (f, first) ← holding [ov] (getMethod ov m pl)
      callWith pos f first (backTo pos (starEach (e :: es) X.env)) (backToKw pos (keywordEach [] X.env))) := by rfl) :
    PE X (.Call (.Attribute o m apos) (e :: es) [] pos) (tMethI C m sp E ta t) := by
  intro pins s σ H Q I h
  refine PySem.W.methodCall_KW (pl := pl) (thnE (he pins s σ H _ I h) fun u s1 x H1 I1 rx zq => ?_) ht
  refine Classical.byContradiction fun hnzq => ?_; obtain ⟨i, a, dx, fs, ex, ea, l, q⟩ := zq
  refine hnzq ?_; clear hnzq
  subst ex
  obtain rfl : u = Value.ref a := rx
  refine getmeth_ok I1 ea (c i) (hm i) l ?_
  refine PySem.W.callWith_K (first := [.ref a]) (h₀ := X.base) I.ok.mod.kin (hm i).kp (thnA (ha pos pins s1 σ H1 _ I1 q) fun us s2 vs H2 I2 r q2 => ⟨I2.kIn, ?_⟩) hst hpl
  exact run_fn (us := .ref a :: us) (vs := .ref a :: vs) (F i) hr (hb i) .nil hx I2 (.cons rfl r) (by rw [List.append_nil]; exact q2)
theorem pe_methI0 {pl : Sem Bool} (he : PE X o ta) (c : ∀ i, Cls X.K (C i)) (hm : ∀ i, Meth X.K (C i) m (f i)) (F : ∀ i, FnOk X.prog X.w X.K X.mg X.base CX k (f i) (fd i) ps (sp i)) (hr : Room k X.A) (hb : ∀ i, Binds X.K (fd i) ps []) (hx : Passes CX X E)
    (ht : eval (.Call (.Attribute o m apos) [] [] pos) X.env = (do
      let ov ← eval o X.env
      standAt apos.atName
      let (f, first) ← holding [ov] (getMethod ov m pl)
      callWith pos f first (backTo pos (starEach [] X.env)) (backToKw pos (keywordEach [] X.env))) := by rfl) :
    PE X (.Call (.Attribute o m apos) [] [] pos) (tMethI C m sp E ta tNil) := by
  intro pins s σ H Q I h
  refine PySem.W.methodCall_KW (pl := pl) (thnE (he pins s σ H _ I h) fun u s1 x H1 I1 rx zq => ?_) ht
  refine Classical.byContradiction fun hnzq => ?_; obtain ⟨i, a, dx, fs, ex, ea, l, q⟩ := zq
  refine hnzq ?_; clear hnzq
  subst ex
  obtain rfl : u = Value.ref a := rx
  refine getmeth_ok I1 ea (c i) (hm i) l ?_
  exact PySem.W.callWith_K0 (first := [.ref a]) I1.kIn (hm i).kp (run_fn (us := [.ref a]) (vs := [.ref a]) (F i) hr (hb i) .nil hx I1 (.cons rfl .nil) q)
end
end L2
namespace L2
open PySem PySem.Spec PyProof.Rows
noncomputable def clsBody (s : Stmt) : List Stmt := match s with
  | .ClassDef _ _ _ b _ _ _ _ _ _ _ => b
  | _ => []
set_option genInjectivity false in
set_option genSizeOf false in
set_option genSizeOfSpec false in
structure Mv (K : PySem.W.Frag) (x qual : Str) (st : Stmt) (ps : List Str) where
  f : Addr
  fd : FuncData
  F : Fun K x qual st f fd
  b : Binds K fd ps []
set_option genInjectivity false in
set_option genSizeOf false in
set_option genSizeOfSpec false in
structure Ty (K : PySem.W.Frag) (C : Addr) : Prop where
  cl : Cls K C
  ca : PySem.W.findIn K (.ref C) "__class__" = some (some (.builtin "object.__class__"))
  cg : PySem.W.specialIn K (.builtin "object.__class__") "__get__" = some (some (.builtin "getset_descriptor.__get__"))
  ct : PySem.W.takesIn K (.builtin "object.__class__") = some true
  mo : PySem.W.mroIn K C (.type "object") = some true
theorem Ty.of {K : PySem.W.Frag} {C a dx : Addr} {H : Hp} {fs : List (Str × V)} (T : Ty K C) (e : H a = some (.ins C dx fs)) : TyOf K H (.ref a) (.ref C) := .ins e T.cl T.ca T.cg T.ct T.mo
theorem same_made {H : Hp} {x dx C : Addr} (hx : H x = none) (hd : H dx = none) (hne : dx ≠ x) : Same H (upd (upd H dx (.own x)) x (.ins C dx [])) :=
  same_upd' (same_upd hd) (by rw [upd_ne (Ne.symm hne)]; exact hx)
end L2
namespace K16
theorem lcn {α : Type _} {C : List α → Prop} (us : List α) (n : Nat) (h : us.length = n + 1) (f : ∀ a l, l.length = n → C (a :: l)) : C us := by
  cases us with
  | nil => cases h
  | cons a l => exact f a l (Nat.succ.inj h)
theorem lcz {α : Type _} {C : List α → Prop} (us : List α) (h : us.length = 0) (f : C []) : C us := by
  cases us with
  | nil => exact f
  | cons a l => cases h
@[elab_as_elim] theorem ln1 {α : Type _} {C : List α → Prop} (us : List α) (f : ∀ a0, C [a0]) (h : us.length = 1) : C us :=
  lcn us 0 h fun a0 l0 h0 => lcz (C := fun l => C (a0 :: l)) l0 h0 (f a0)
@[elab_as_elim] theorem ln2 {α : Type _} {C : List α → Prop} (us : List α) (f : ∀ a0 a1, C [a0, a1]) (h : us.length = 2) : C us :=
  lcn us 1 h fun a0 l0 h0 => lcn (C := fun l => C (a0 :: l)) l0 0 h0 fun a1 l1 h1 => lcz (C := fun l => C (a0 :: a1 :: l)) l1 h1 (f a0 a1)
@[elab_as_elim] theorem ln4 {α : Type _} {C : List α → Prop} (us : List α) (f : ∀ a0 a1 a2 a3, C [a0, a1, a2, a3]) (h : us.length = 4) : C us :=
  lcn us 3 h fun a0 l0 h0 => lcn (C := fun l => C (a0 :: l)) l0 2 h0 fun a1 l1 h1 => lcn (C := fun l => C (a0 :: a1 :: l)) l1 1 h1 fun a2 l2 h2 => lcn (C := fun l => C (a0 :: a1 :: a2 :: l)) l2 0 h2 fun a3 l3 h3 => lcz (C := fun l => C (a0 :: a1 :: a2 :: a3 :: l)) l3 h3 (f a0 a1 a2 a3)
open PySem L2
noncomputable def sub (i j : Nat) : Stmt := (L2.clsBody (PySem.Challenge.pw_bellbook_k16_kinds.main.body.getD i (.Pass ⟨0, 0, 0, 0⟩))).getD j (.Pass ⟨0, 0, 0, 0⟩)
noncomputable def top (i : Nat) : Stmt := PySem.Challenge.pw_bellbook_k16_kinds.main.body.getD i (.Pass ⟨0, 0, 0, 0⟩)
set_option genInjectivity false in
set_option genSizeOf false in
set_option genSizeOfSpec false in
structure Bl (mg : Str → Option Value) : Prop where
  b_ValueError : mg "ValueError" = none
  b_bool : mg "bool" = none
  b_isinstance : mg "isinstance" = none
  b_len : mg "len" = none
  b_range : mg "range" = none
set_option genInjectivity false in
set_option genSizeOf false in
set_option genSizeOfSpec false in
structure Co (mg : Str → Option Value) where
set_option genInjectivity false in
set_option genSizeOf false in
set_option genInjectivity false in
set_option genSizeOf false in
set_option genSizeOfSpec false in
structure AdT where
  c_BadKind : Addr
  c_BadName : Addr
  c_BadNumber : Addr
  c_BadPhase : Addr
  c_BadSide : Addr
  c_BourseError : Addr
  c_Kind : Addr
  c_Limit : Addr
  c_NoDeed : Addr
  c_NoOrder : Addr
  c_NoSeat : Addr
  c_NoTape : Addr
  c_NoWare : Addr
  c_NoWeight : Addr
  c_NotNow : Addr
  c_Now : Addr
  c_Quiet : Addr
  c_Ring : Addr
  c_Short : Addr
  c_Twice : Addr
  c_Unheld : Addr
  c_Whole : Addr
set_option genInjectivity false in
set_option genSizeOf false in
set_option genSizeOfSpec false in
structure Er (K : PySem.W.Frag) (mg : Str → Option Value) (Ad : AdT) : Prop where
  m_BadKind : mg "BadKind" = some (.ref Ad.c_BadKind)
  m_BadName : mg "BadName" = some (.ref Ad.c_BadName)
  m_BadNumber : mg "BadNumber" = some (.ref Ad.c_BadNumber)
  m_BadPhase : mg "BadPhase" = some (.ref Ad.c_BadPhase)
  m_BadSide : mg "BadSide" = some (.ref Ad.c_BadSide)
  m_BourseError : mg "BourseError" = some (.ref Ad.c_BourseError)
  m_Kind : mg "Kind" = some (.ref Ad.c_Kind)
  m_Limit : mg "Limit" = some (.ref Ad.c_Limit)
  m_NoDeed : mg "NoDeed" = some (.ref Ad.c_NoDeed)
  m_NoOrder : mg "NoOrder" = some (.ref Ad.c_NoOrder)
  m_NoSeat : mg "NoSeat" = some (.ref Ad.c_NoSeat)
  m_NoTape : mg "NoTape" = some (.ref Ad.c_NoTape)
  m_NoWare : mg "NoWare" = some (.ref Ad.c_NoWare)
  m_NoWeight : mg "NoWeight" = some (.ref Ad.c_NoWeight)
  m_NotNow : mg "NotNow" = some (.ref Ad.c_NotNow)
  m_Now : mg "Now" = some (.ref Ad.c_Now)
  m_Quiet : mg "Quiet" = some (.ref Ad.c_Quiet)
  m_Ring : mg "Ring" = some (.ref Ad.c_Ring)
  m_Short : mg "Short" = some (.ref Ad.c_Short)
  m_Twice : mg "Twice" = some (.ref Ad.c_Twice)
  m_Unheld : mg "Unheld" = some (.ref Ad.c_Unheld)
  m_Whole : mg "Whole" = some (.ref Ad.c_Whole)
  x_BadKind : PySem.W.excIn K Ad.c_BadKind [.type "ValueError", .type "Exception", .type "BaseException", .type "object"] "ValueError.__new__" = true
  e_BadKind : PySem.W.exmOne K (.ref Ad.c_BadKind) (.ref Ad.c_BourseError) = some true
  i_BadKind_BadKind : PySem.W.kitOne K (.ref Ad.c_BadKind) (.ref Ad.c_BadKind) = some true
  i_BadKind_BadName : PySem.W.kitOne K (.ref Ad.c_BadKind) (.ref Ad.c_BadName) = some false
  i_BadKind_BadNumber : PySem.W.kitOne K (.ref Ad.c_BadKind) (.ref Ad.c_BadNumber) = some false
  i_BadKind_BadPhase : PySem.W.kitOne K (.ref Ad.c_BadKind) (.ref Ad.c_BadPhase) = some false
  i_BadKind_BadSide : PySem.W.kitOne K (.ref Ad.c_BadKind) (.ref Ad.c_BadSide) = some false
  i_BadKind_NoDeed : PySem.W.kitOne K (.ref Ad.c_BadKind) (.ref Ad.c_NoDeed) = some false
  i_BadKind_NoOrder : PySem.W.kitOne K (.ref Ad.c_BadKind) (.ref Ad.c_NoOrder) = some false
  i_BadKind_NoSeat : PySem.W.kitOne K (.ref Ad.c_BadKind) (.ref Ad.c_NoSeat) = some false
  i_BadKind_NoTape : PySem.W.kitOne K (.ref Ad.c_BadKind) (.ref Ad.c_NoTape) = some false
  i_BadKind_NoWare : PySem.W.kitOne K (.ref Ad.c_BadKind) (.ref Ad.c_NoWare) = some false
  i_BadKind_NoWeight : PySem.W.kitOne K (.ref Ad.c_BadKind) (.ref Ad.c_NoWeight) = some false
  i_BadKind_NotNow : PySem.W.kitOne K (.ref Ad.c_BadKind) (.ref Ad.c_NotNow) = some false
  i_BadKind_Ring : PySem.W.kitOne K (.ref Ad.c_BadKind) (.ref Ad.c_Ring) = some false
  i_BadKind_Short : PySem.W.kitOne K (.ref Ad.c_BadKind) (.ref Ad.c_Short) = some false
  i_BadKind_Twice : PySem.W.kitOne K (.ref Ad.c_BadKind) (.ref Ad.c_Twice) = some false
  i_BadKind_Unheld : PySem.W.kitOne K (.ref Ad.c_BadKind) (.ref Ad.c_Unheld) = some false
  i_BadKind_ValueError : PySem.W.kitOne K (.ref Ad.c_BadKind) (.type "ValueError") = some true
  k_BadKind : Bk.ExcK K Ad.c_BadKind
  mkn_Kind : L2.MkN K Ad.c_Kind
  ty_Kind : L2.Ty K Ad.c_Kind
  mkn_Limit : L2.MkN K Ad.c_Limit
  ty_Limit : L2.Ty K Ad.c_Limit
  mkn_Now : L2.MkN K Ad.c_Now
  ty_Now : L2.Ty K Ad.c_Now
  mkn_Whole : L2.MkN K Ad.c_Whole
  ty_Whole : L2.Ty K Ad.c_Whole
  mkn_Quiet : L2.MkN K Ad.c_Quiet
  ty_Quiet : L2.Ty K Ad.c_Quiet
  ki_Limit_Kind : PySem.W.kitOne K (.ref Ad.c_Limit) (.ref Ad.c_Kind) = some true
  ki_Limit_Limit : PySem.W.kitOne K (.ref Ad.c_Limit) (.ref Ad.c_Limit) = some true
  ki_Now_Kind : PySem.W.kitOne K (.ref Ad.c_Now) (.ref Ad.c_Kind) = some true
  ki_Now_Now : PySem.W.kitOne K (.ref Ad.c_Now) (.ref Ad.c_Now) = some true
  ki_Whole_Kind : PySem.W.kitOne K (.ref Ad.c_Whole) (.ref Ad.c_Kind) = some true
  ki_Whole_Whole : PySem.W.kitOne K (.ref Ad.c_Whole) (.ref Ad.c_Whole) = some true
  ki_Quiet_Kind : PySem.W.kitOne K (.ref Ad.c_Quiet) (.ref Ad.c_Kind) = some true
  ki_Quiet_Quiet : PySem.W.kitOne K (.ref Ad.c_Quiet) (.ref Ad.c_Quiet) = some true
inductive Ki where
  | kind | limit | now | whole | quiet
noncomputable def kiD {α : Type} (a b c d e : α) : Ki → α := Ki.rec a b c d e
theorem kiE {α : Ki → Prop} (a : α .kind) (b : α .limit) (c : α .now) (d : α .whole) (e : α .quiet) : ∀ i, α i := Ki.rec a b c d e
noncomputable def wd : Ki → Str
  | .kind => ""
  | .limit => "limit"
  | .now => "now"
  | .whole => "whole"
  | .quiet => "quiet"
noncomputable def letsB (i : Ki) (cr : Bool) (am wi : Int) : Bool := match i with
  | .whole => decide (wi ≤ am)
  | .quiet => !cr
  | _ => true
noncomputable def keepsB : Ki → Bool
  | .now => false
  | .whole => false
  | _ => true
theorem w_ln : ¬ ("limit" : Str) = "now" := by decide +kernel
theorem w_lw : ¬ ("limit" : Str) = "whole" := by decide +kernel
theorem w_lq : ¬ ("limit" : Str) = "quiet" := by decide +kernel
theorem w_nw : ¬ ("now" : Str) = "whole" := by decide +kernel
theorem w_nq : ¬ ("now" : Str) = "quiet" := by decide +kernel
theorem w_wq : ¬ ("whole" : Str) = "quiet" := by decide +kernel
noncomputable def isW (z : Str) : Prop := z = "limit" ∨ z = "now" ∨ z = "whole" ∨ z = "quiet"
noncomputable def isWB (z : Str) : Bool := decide (z = "limit") || (decide (z = "now") || (decide (z = "whole") || decide (z = "quiet")))
theorem isWB_iff {z : Str} : isWB z = true ↔ isW z := by unfold isWB isW; simp
theorem noW {z : Str} (h : isWB z = false) : ¬ isW z := fun w => by rw [isWB_iff.mpr w] at h; cases h
theorem at_sgn2 {z : Str} {i : Int} (h0 : 0 ≤ i) (h1 : i < (z.cps.size : Int)) : atI z.cps.toList i = some (z.cps.getD i.toNat 0) := by
  obtain ⟨k, rfl⟩ := Int.eq_ofNat_of_zero_le h0
  have hk : k < z.cps.size := by (exact Int.ofNat_lt.mp (by assumption))
  refine atI_nat ?_
  rw [Array.getElem?_toList, Array.getElem?_eq_getElem hk, Array.getD_eq_getD_getElem?]
  simp [hk]
noncomputable def LET : Str := "abcdefghijklmnopqrstuvwxyz"
theorem let_sz : LET.cps.size = 26 := by decide +kernel
theorem let_ok : LET.length ≤ sizeLine := szOk (by show LET.cps.size ≤ _; rw [let_sz]; decide)
theorem one_sz (c : Nat) : (Str.mk #[c]).length = 1 := rfl
theorem in_words (z : Str) : inV (.str z) [V.str "limit", V.str "now", V.str "whole", V.str "quiet"] = isWB z := by
  unfold inV
  show (("limit" : Str) == z || (("now" : Str) == z || (("whole" : Str) == z || (("quiet" : Str) == z || false)))) = _
  rw [Bool.or_false]
  have h : ∀ a : Str, (a == z) = decide (z = a) := fun a => by
    by_cases e : z = a
    · subst e; simp
    · rw [decide_eq_false e]
      exact beq_eq_false_iff_ne.mpr fun q => e q.symm
  rw [h, h, h, h]
  rfl
theorem isW_wd {i : Ki} (h : i ≠ .kind) : isW (wd i) := by
  cases i with
  | kind => exact absurd rfl h
  | limit => exact .inl rfl
  | now => exact .inr (.inl rfl)
  | whole => exact .inr (.inr (.inl rfl))
  | quiet => exact .inr (.inr (.inr rfl))
theorem wd_inj {i j : Ki} (hi : i ≠ .kind) (hj : j ≠ .kind) (e : wd i = wd j) : i = j := by
  cases i <;> cases j <;> first | rfl | exact absurd rfl hi | exact absurd rfl hj | exact absurd e w_ln | exact absurd e w_lw | exact absurd e w_lq | exact absurd e w_nw | exact absurd e w_nq | exact absurd e w_wq | exact absurd e.symm w_ln | exact absurd e.symm w_lw | exact absurd e.symm w_lq | exact absurd e.symm w_nw | exact absurd e.symm w_nq | exact absurd e.symm w_wq
noncomputable def spL (i : Ki) : Sp := fun vs H Q _ => ∃ (x : V) (cr : Bool) (am wi : Int), vs = [x, .bl cr, .int am, .int wi] ∧ Q (.bl (letsB i cr am wi)) H
noncomputable def spK (i : Ki) : Sp := fun vs H Q _ => ∃ (x : V), vs = [x] ∧ Q (.bl (keepsB i)) H
noncomputable def WS : List V := [.str "limit", .str "now", .str "whole", .str "quiet"]
theorem ws_rot {st : Int} (h : st = 0 ∨ st = 1 ∨ st = 2 ∨ st = 3) : ∃ i0 i1 i2 i3 : Ki, (i0 ≠ .kind ∧ i1 ≠ .kind ∧ i2 ≠ .kind ∧ i3 ≠ .kind) ∧ cutV WS (some st) none ++ cutV WS none (some st) = [V.str (wd i0), V.str (wd i1), V.str (wd i2), V.str (wd i3)] := by
  rcases h with rfl | rfl | rfl | rfl
  · exact ⟨.limit, .now, .whole, .quiet, ⟨(by intro z; cases z), (by intro z; cases z), (by intro z; cases z), (by intro z; cases z)⟩, rfl⟩
  · exact ⟨.now, .whole, .quiet, .limit, ⟨(by intro z; cases z), (by intro z; cases z), (by intro z; cases z), (by intro z; cases z)⟩, rfl⟩
  · exact ⟨.whole, .quiet, .limit, .now, ⟨(by intro z; cases z), (by intro z; cases z), (by intro z; cases z), (by intro z; cases z)⟩, rfl⟩
  · exact ⟨.quiet, .limit, .now, .whole, ⟨(by intro z; cases z), (by intro z; cases z), (by intro z; cases z), (by intro z; cases z)⟩, rfl⟩
noncomputable abbrev tAny (X : Cx) (ss : List Stmt) : TS := fun D σ H => ∃ t, PSs X ss t ∧ t D σ H
theorem pss_any {X : Cx} {ss : List Stmt} : PSs X ss (tAny X ss) := fun pins s σ H D I ⟨_, h1, h2⟩ => h1 pins s σ H D I h2
theorem okk_cut {X : Cx} {st : Stmt} {rest : List Stmt} {t : TS} {D : Ends} {σ : St} {H : Hp} (N : St → Hp → Prop) (h1 : PS X st t) (h2 : t { D with nx := N } σ H) (h3 : ∀ σ' H', N σ' H' → ∃ u, PSs X rest u ∧ u D σ' H') : ∃ u, PSs X (st :: rest) u ∧ u D σ H := ⟨_, pss_cut h1 pss_any, N, h2, h3⟩
theorem okk_cutD {X : Cx} {st : Stmt} {rest : List Stmt} {t : TS} {D : Ends} {σ : St} {H : Hp} (N : St → Hp → Prop) (h1 : PS X st t) (h2 : ∀ D' : Ends, (∀ σ' H', N σ' H' → D'.nx σ' H') → t D' σ H) (h3 : ∀ σ' H', N σ' H' → ∃ u, PSs X rest u ∧ u D σ' H') : ∃ u, PSs X (st :: rest) u ∧ u D σ H := ⟨_, pss_cut h1 pss_any, N, h2 _ fun _ _ z => z, h3⟩
theorem okk_dn {X : Cx} {ss : List Stmt} {D : Ends} {σ : St} {H : Hp} (h : ∀ D' : Ends, (∀ σ' H', D.nx σ' H' → D'.nx σ' H') → ∃ u, PSs X ss u ∧ u D' σ H) : ∃ u, PSs X ss u ∧ u D σ H := h D fun _ _ z => z
theorem okk_seq {X : Cx} {st : Stmt} {rest : List Stmt} {t : TS} {D : Ends} {σ : St} {H : Hp} (h1 : PS X st t) (h2 : t { D with nx := fun σ' H' => ∃ u, PSs X rest u ∧ u D σ' H' } σ H) : ∃ u, PSs X (st :: rest) u ∧ u D σ H := ⟨_, pss_cons h1 pss_any, h2⟩
theorem okk_one {X : Cx} {st : Stmt} {t : TS} {D : Ends} {σ : St} {H : Hp} (h1 : PS X st t) (h2 : t D σ H) : ∃ u, PSs X [st] u ∧ u D σ H := ⟨_, pss_one h1, h2⟩
section
variable {P : Program} {w : World} {K : PySem.W.Frag} {mg : Str → Option Value} {base : Heap}
seal PySem.wpAny
theorem sc_Kind_lets : FnScope ["self", "crosses", "amount", "wanted"] ["self", "crosses", "amount", "wanted"] (defScope (sub 19 0)) := ⟨rfl, rfl, rfl, by decide +kernel, rfl, by decide +kernel, by decide +kernel⟩
noncomputable def sp_Kind_lets (K : PySem.W.Frag) : Sp := fun vs H Q _ => ∃ (x : V) (cr : Bool) (am wi : Int), vs = [x, .bl cr, .int am, .int wi] ∧ Q (.bl (letsB .kind cr am wi)) H
theorem ok_Kind_lets (d_Kind_lets : L2.Mv K "lets" "Kind.lets" (sub 19 0) ["self", "crosses", "amount", "wanted"]) (B : Bl mg) (C : Co mg) {Ad : AdT} (R : Er K mg Ad)  : FnOk P w K mg base CX0 1 d_Kind_lets.f d_Kind_lets.fd ["self", "crosses", "amount", "wanted"] (sp_Kind_lets K) := by
  refine d_Kind_lets.F.ok sc_Kind_lets (fun vs H Q E h => ?_) (fun cdv A outer s H vs Q E hr h => ?_)
  · refine Classical.byContradiction fun hnzq => ?_; obtain ⟨_, _, _, _, rfl, _⟩ := h; refine hnzq ?_; clear hnzq; rfl
  refine Classical.byContradiction fun hnzq => ?_; obtain ⟨x, cr, am, wi, rfl, q⟩ := h
  refine hnzq ?_; clear hnzq
  refine ⟨_, (pss_one (ps_ret pe_bl)), ?_⟩
  exact q
theorem sc_Kind_keeps : FnScope ["self"] ["self"] (defScope (sub 19 1)) := ⟨rfl, rfl, rfl, by decide +kernel, rfl, by decide +kernel, by decide +kernel⟩
noncomputable def sp_Kind_keeps (K : PySem.W.Frag) : Sp := fun vs H Q _ => ∃ (x : V), vs = [x] ∧ Q (.bl (keepsB .kind)) H
theorem ok_Kind_keeps (d_Kind_keeps : L2.Mv K "keeps" "Kind.keeps" (sub 19 1) ["self"]) (B : Bl mg) (C : Co mg) {Ad : AdT} (R : Er K mg Ad)  : FnOk P w K mg base CX0 1 d_Kind_keeps.f d_Kind_keeps.fd ["self"] (sp_Kind_keeps K) := by
  refine d_Kind_keeps.F.ok sc_Kind_keeps (fun vs H Q E h => ?_) (fun cdv A outer s H vs Q E hr h => ?_)
  · refine Classical.byContradiction fun hnzq => ?_; obtain ⟨_, rfl, _⟩ := h; refine hnzq ?_; clear hnzq; rfl
  refine Classical.byContradiction fun hnzq => ?_; obtain ⟨x, rfl, q⟩ := h
  refine hnzq ?_; clear hnzq
  refine ⟨_, (pss_one (ps_ret pe_bl)), ?_⟩
  exact q
theorem sc_Now_keeps : FnScope ["self"] ["self"] (defScope (sub 21 0)) := ⟨rfl, rfl, rfl, by decide +kernel, rfl, by decide +kernel, by decide +kernel⟩
noncomputable def sp_Now_keeps (K : PySem.W.Frag) : Sp := fun vs H Q _ => ∃ (x : V), vs = [x] ∧ Q (.bl (keepsB .now)) H
theorem ok_Now_keeps (d_Now_keeps : L2.Mv K "keeps" "Now.keeps" (sub 21 0) ["self"]) (B : Bl mg) (C : Co mg) {Ad : AdT} (R : Er K mg Ad)  : FnOk P w K mg base CX0 1 d_Now_keeps.f d_Now_keeps.fd ["self"] (sp_Now_keeps K) := by
  refine d_Now_keeps.F.ok sc_Now_keeps (fun vs H Q E h => ?_) (fun cdv A outer s H vs Q E hr h => ?_)
  · refine Classical.byContradiction fun hnzq => ?_; obtain ⟨_, rfl, _⟩ := h; refine hnzq ?_; clear hnzq; rfl
  refine Classical.byContradiction fun hnzq => ?_; obtain ⟨x, rfl, q⟩ := h
  refine hnzq ?_; clear hnzq
  refine ⟨_, (pss_one (ps_ret pe_bl)), ?_⟩
  exact q
theorem sc_Whole_lets : FnScope ["self", "crosses", "amount", "wanted"] ["self", "crosses", "amount", "wanted"] (defScope (sub 22 0)) := ⟨rfl, rfl, rfl, by decide +kernel, rfl, by decide +kernel, by decide +kernel⟩
noncomputable def sp_Whole_lets (K : PySem.W.Frag) : Sp := fun vs H Q _ => ∃ (x : V) (cr : Bool) (am wi : Int), vs = [x, .bl cr, .int am, .int wi] ∧ Q (.bl (letsB .whole cr am wi)) H
theorem ok_Whole_lets (d_Whole_lets : L2.Mv K "lets" "Whole.lets" (sub 22 0) ["self", "crosses", "amount", "wanted"]) (B : Bl mg) (C : Co mg) {Ad : AdT} (R : Er K mg Ad)  : FnOk P w K mg base CX0 1 d_Whole_lets.f d_Whole_lets.fd ["self", "crosses", "amount", "wanted"] (sp_Whole_lets K) := by
  refine d_Whole_lets.F.ok sc_Whole_lets (fun vs H Q E h => ?_) (fun cdv A outer s H vs Q E hr h => ?_)
  · refine Classical.byContradiction fun hnzq => ?_; obtain ⟨_, _, _, _, rfl, _⟩ := h; refine hnzq ?_; clear hnzq; rfl
  refine Classical.byContradiction fun hnzq => ?_; obtain ⟨x, cr, am, wi, rfl, q⟩ := h
  refine hnzq ?_; clear hnzq
  refine ⟨_, (pss_one (ps_ret (pe_cmpR op_ge (pv 2 rfl (Or.inl rfl) rfl rfl) (pv 3 rfl (Or.inl rfl) rfl rfl) (nomark _)))), ?_⟩
  exact ⟨_, rfl, _, rfl, _, _, rfl, rfl, q⟩
theorem sc_Whole_keeps : FnScope ["self"] ["self"] (defScope (sub 22 1)) := ⟨rfl, rfl, rfl, by decide +kernel, rfl, by decide +kernel, by decide +kernel⟩
noncomputable def sp_Whole_keeps (K : PySem.W.Frag) : Sp := fun vs H Q _ => ∃ (x : V), vs = [x] ∧ Q (.bl (keepsB .whole)) H
theorem ok_Whole_keeps (d_Whole_keeps : L2.Mv K "keeps" "Whole.keeps" (sub 22 1) ["self"]) (B : Bl mg) (C : Co mg) {Ad : AdT} (R : Er K mg Ad)  : FnOk P w K mg base CX0 1 d_Whole_keeps.f d_Whole_keeps.fd ["self"] (sp_Whole_keeps K) := by
  refine d_Whole_keeps.F.ok sc_Whole_keeps (fun vs H Q E h => ?_) (fun cdv A outer s H vs Q E hr h => ?_)
  · refine Classical.byContradiction fun hnzq => ?_; obtain ⟨_, rfl, _⟩ := h; refine hnzq ?_; clear hnzq; rfl
  refine Classical.byContradiction fun hnzq => ?_; obtain ⟨x, rfl, q⟩ := h
  refine hnzq ?_; clear hnzq
  refine ⟨_, (pss_one (ps_ret pe_bl)), ?_⟩
  exact q
theorem sc_Quiet_lets : FnScope ["self", "crosses", "amount", "wanted"] ["self", "crosses", "amount", "wanted"] (defScope (sub 23 0)) := ⟨rfl, rfl, rfl, by decide +kernel, rfl, by decide +kernel, by decide +kernel⟩
noncomputable def sp_Quiet_lets (K : PySem.W.Frag) : Sp := fun vs H Q _ => ∃ (x : V) (cr : Bool) (am wi : Int), vs = [x, .bl cr, .int am, .int wi] ∧ Q (.bl (letsB .quiet cr am wi)) H
theorem ok_Quiet_lets (d_Quiet_lets : L2.Mv K "lets" "Quiet.lets" (sub 23 0) ["self", "crosses", "amount", "wanted"]) (B : Bl mg) (C : Co mg) {Ad : AdT} (R : Er K mg Ad)  : FnOk P w K mg base CX0 1 d_Quiet_lets.f d_Quiet_lets.fd ["self", "crosses", "amount", "wanted"] (sp_Quiet_lets K) := by
  refine d_Quiet_lets.F.ok sc_Quiet_lets (fun vs H Q E h => ?_) (fun cdv A outer s H vs Q E hr h => ?_)
  · refine Classical.byContradiction fun hnzq => ?_; obtain ⟨_, _, _, _, rfl, _⟩ := h; refine hnzq ?_; clear hnzq; rfl
  refine Classical.byContradiction fun hnzq => ?_; obtain ⟨x, cr, am, wi, rfl, q⟩ := h
  refine hnzq ?_; clear hnzq
  refine ⟨_, (pss_one (ps_ret (pe_not (pv 1 rfl (Or.inl rfl) rfl rfl)))), ?_⟩
  exact ⟨_, rfl, _, rfl, q⟩
theorem sc_kind_of : FnScope ["word"] ["word"] (defScope (top 24)) := ⟨rfl, rfl, rfl, by decide +kernel, rfl, by decide +kernel, by decide +kernel⟩
noncomputable def kiC (ck cl cn cw cq : Addr) : Ki → Addr
  | .limit => cl
  | .now => cn
  | .whole => cw
  | .quiet => cq
  | .kind => ck
noncomputable def sp_kind_of (CB ck cl cn cw cq : Addr) : Sp := fun vs H Q E => ∃ (z : Str), vs = [.str z] ∧ (∀ i : Ki, i ≠ .kind → z = wd i → ∀ (H' : Hp) (x dx : Addr), Same H H' → H' x = some (.ins (kiC ck cl cn cw cq i) dx []) → Q (.ref x) H') ∧ (¬ isW z → E (.ref CB) none H)
theorem ok_kind_of (d_kind_of : Dv K mg "kind_of" (top 24) ["word"]) (B : Bl mg) (C : Co mg) {Ad : AdT} (R : Er K mg Ad)  : FnOk P w K mg base (CXb P w) 1 d_kind_of.f d_kind_of.fd ["word"] (sp_kind_of Ad.c_BadKind Ad.c_Kind Ad.c_Limit Ad.c_Now Ad.c_Whole Ad.c_Quiet) := by
  refine d_kind_of.F.okx sc_kind_of (fun vs H Q E h => ?_) (fun cdv A outer s H vs Q E hr h => ?_)
  · refine Classical.byContradiction fun hnzq => ?_; obtain ⟨_, rfl, _⟩ := h; refine hnzq ?_; clear hnzq; rfl
  refine Classical.byContradiction fun hnzq => ?_; obtain ⟨z, rfl, q, qe⟩ := h
  refine hnzq ?_; clear hnzq
  refine ⟨_, (pss_cons (ps_if (pt_cmpR op_eq (pv 0 rfl (Or.inl rfl) rfl rfl) pe_str (nomark _)) (pss_one (ps_ret (pe_makeN R.mkn_Limit rfl R.m_Limit))) pss_nil) (pss_cons (ps_if (pt_cmpR op_eq (pv 0 rfl (Or.inl rfl) rfl rfl) pe_str (nomark _)) (pss_one (ps_ret (pe_makeN R.mkn_Now rfl R.m_Now))) pss_nil) (pss_cons (ps_if (pt_cmpR op_eq (pv 0 rfl (Or.inl rfl) rfl rfl) pe_str (nomark _)) (pss_one (ps_ret (pe_makeN R.mkn_Whole rfl R.m_Whole))) pss_nil) (pss_cons (ps_if (pt_cmpR op_eq (pv 0 rfl (Or.inl rfl) rfl rfl) pe_str (nomark _)) (pss_one (ps_ret (pe_makeN R.mkn_Quiet rfl R.m_Quiet))) pss_nil) (pss_one (ps_raise raises_fn rfl rfl R.m_BadKind R.x_BadKind (pa_cons pe_str pa_nil))))))), ?_⟩
  refine ⟨_, rfl, rfl, _, rfl, ?_⟩
  refine ite2 (fun c => ?_) (fun c1 => ?_)
  · exact fun x dx hx hd hne => q .limit (by intro z; cases z) (V.str.inj (of_decide_eq_true c)) _ x dx (same_made hx hd hne) upd_same
  refine ⟨_, rfl, rfl, _, rfl, ?_⟩
  refine ite2 (fun c => ?_) (fun c2 => ?_)
  · exact fun x dx hx hd hne => q .now (by intro z; cases z) (V.str.inj (of_decide_eq_true c)) _ x dx (same_made hx hd hne) upd_same
  refine ⟨_, rfl, rfl, _, rfl, ?_⟩
  refine ite2 (fun c => ?_) (fun c3 => ?_)
  · exact fun x dx hx hd hne => q .whole (by intro z; cases z) (V.str.inj (of_decide_eq_true c)) _ x dx (same_made hx hd hne) upd_same
  refine ⟨_, rfl, rfl, _, rfl, ?_⟩
  refine ite2 (fun c => ?_) (fun c4 => ?_)
  · exact fun x dx hx hd hne => q .quiet (by intro z; cases z) (V.str.inj (of_decide_eq_true c)) _ x dx (same_made hx hd hne) upd_same
  refine ⟨by (first | exact szOk (Nat.le_of_ble_eq_true rfl) | exact szLt (Nat.le_of_ble_eq_true rfl) | omega), qe ?_⟩
  rintro (rfl | rfl | rfl | rfl)
  · exact c1 (by simp)
  · exact c2 (by simp)
  · exact c3 (by simp)
  · exact c4 (by simp)
theorem sc__law_cell_at : FnScope ["script", "k"] ["script", "k"] (defScope (top 26)) := ⟨rfl, rfl, rfl, by decide +kernel, rfl, by decide +kernel, by decide +kernel⟩
noncomputable def sp__law_cell_at (K : PySem.W.Frag) : Sp := fun vs H Q _ => ∃ (a : Addr) (ns : List Int) (k : Int), vs = [.ref a, .int k] ∧ SqL K H a (ns.map V.int) ∧ 0 ≤ k ∧ Q (.int (cell ns k)) H
theorem ok__law_cell_at (d__law_cell_at : Dv K mg "_law_cell_at" (top 26) ["script", "k"]) (B : Bl mg) (C : Co mg) {Ad : AdT} (R : Er K mg Ad)  : FnOk P w K mg base CX0 1 d__law_cell_at.f d__law_cell_at.fd ["script", "k"] (sp__law_cell_at K) := by
  refine d__law_cell_at.F.ok sc__law_cell_at (fun vs H Q E h => ?_) (fun cdv A outer s H vs Q E hr h => ?_)
  · refine Classical.byContradiction fun hnzq => ?_; obtain ⟨_, _, _, rfl, _⟩ := h; refine hnzq ?_; clear hnzq; rfl
  refine Classical.byContradiction fun hnzq => ?_; obtain ⟨a, ns, k, rfl, hS, h0, q⟩ := h
  refine hnzq ?_; clear hnzq
  refine ⟨_, (pss_cons (ps_if (pt_cmpR op_lt (pv 1 rfl (Or.inl rfl) rfl rfl) (pe_callB call_len_seq rfl B.b_len PySem.boot_len (pa_cons (pv 0 rfl (Or.inl rfl) rfl rfl) pa_nil)) (nomark _)) (pss_one (ps_ret (pe_ix ix_list (pv 0 rfl (Or.inl rfl) rfl rfl) (pv 1 rfl (Or.inl rfl) rfl rfl) (fun _ _ => rfl)))) pss_nil) (pss_one (ps_ret pe_int))), ?_⟩
  have hl : (ns.map V.int).length = ns.length := List.length_map _
  refine ⟨_, rfl, _, rfl, a, _, rfl, .inl hS, _, _, rfl, rfl, _, rfl, ?_⟩
  unfold cell at q
  refine ite2 (fun c => ?_) (fun c => ?_)
  · have c' : k < (ns.length : Int) := by simpa using c
    rw [if_pos c'] at q
    exact ⟨_, rfl, _, rfl, a, _, _, _, rfl, rfl, hS, at_cell h0 c', q⟩
  · have c' : ¬ k < (ns.length : Int) := by simpa using c
    rw [if_neg c'] at q
    exact q
theorem sc__law_odd : FnScope ["cell", "some", "letters", "word", "rest", "k"] ["cell"] (defScope (top 27)) := ⟨rfl, rfl, rfl, by decide +kernel, rfl, by decide +kernel, by decide +kernel⟩
noncomputable def sp__law_odd (K : PySem.W.Frag) : Sp := fun vs H Q _ => ∃ (c : Int), vs = [.int c] ∧ ∀ (z : Str) (H' : Hp), Same H H' → ¬ isW z → Q (.str z) H'
theorem ok__law_odd (d__law_odd : Dv K mg "_law_odd" (top 27) ["cell"]) (B : Bl mg) (C : Co mg) {Ad : AdT} (R : Er K mg Ad)  : FnOk P w K mg base CX0 1 d__law_odd.f d__law_odd.fd ["cell"] (sp__law_odd K) := by
  refine d__law_odd.F.ok sc__law_odd (fun vs H Q E h => ?_) (fun cdv A outer s H vs Q E hr h => ?_)
  · refine Classical.byContradiction fun hnzq => ?_; obtain ⟨_, rfl, _⟩ := h; refine hnzq ?_; clear hnzq; rfl
  refine Classical.byContradiction fun hnzq => ?_; obtain ⟨c, rfl, q⟩ := h
  refine hnzq ?_; clear hnzq
  refine ⟨_, (pss_cons (ps_if (pt_cmpR op_eq (pe_op op_mod (pv 0 rfl (Or.inl rfl) rfl rfl) pe_int) pe_int (nomark _)) (pss_cons (ps_set (i := 1) sc__law_odd.nd rfl (Or.inl rfl) (.inl rfl) (pe_lst (StrEs.pa (.cons (.cons (.cons (.cons (.cons (.cons (.cons (.cons (.cons (.cons (.cons (.cons .nil))))))))))))))) (pss_one (ps_ret (pe_ix ix_list (pv 1 rfl (Or.inl rfl) rfl rfl) (pe_op op_mod (pe_op op_fdiv (pv 0 rfl (Or.inl rfl) rfl rfl) pe_int) pe_int) (fun _ _ => rfl))))) pss_nil) (pss_cons (ps_set (i := 2) sc__law_odd.nd rfl (Or.inl rfl) (.inl rfl) pe_str) (pss_cons (ps_set (i := 3) sc__law_odd.nd rfl (Or.inl rfl) (.inl rfl) pe_str) (pss_cons (ps_set (i := 4) sc__law_odd.nd rfl (Or.inl rfl) (.inl rfl) (pe_op op_fdiv (pv 0 rfl (Or.inl rfl) rfl rfl) pe_int)) (pss_cut (ps_for PassesOwn.never rfl (pi_range1 rfl B.b_range (pa_cons (pe_op op_mod (pe_op op_fdiv (pv 0 rfl (Or.inl rfl) rfl rfl) pe_int) pe_int) pa_nil)) (pg_name (i := 5) sc__law_odd.nd rfl (Or.inl rfl) (.inl rfl)) (pss_cons (ps_set (i := 3) sc__law_odd.nd rfl (Or.inl rfl) (.inl rfl) (pe_op op_add_str (pv 3 rfl (Or.inl rfl) rfl rfl) (pe_ix ix_str (pv 2 rfl (Or.inl rfl) rfl rfl) (pe_op op_mod (pv 4 rfl (Or.inl rfl) rfl rfl) pe_int) (fun _ _ => rfl)))) (pss_one (ps_set (i := 4) sc__law_odd.nd rfl (Or.inl rfl) (.inl rfl) (pe_op op_fdiv (pv 4 rfl (Or.inl rfl) rfl rfl) pe_int))))) (pss_cons (ps_if (pt_cmpR op_in_seq (pv 3 rfl (Or.inl rfl) rfl rfl) (pe_lst (pa_cons pe_str (pa_cons pe_str (pa_cons pe_str (pa_cons pe_str pa_nil))))) rfl) (pss_one (ps_ret (pe_op op_add_str (pv 3 rfl (Or.inl rfl) rfl rfl) pe_str))) pss_nil) (pss_one (ps_ret (pv 3 rfl (Or.inl rfl) rfl rfl))))))))), ?_⟩
  refine ⟨_, rfl, _, _, rfl, rfl, (by (first | (show (0 : Int) < _; decide) | exact ⟨by decide, by decide⟩ | exact ⟨by decide, by decide, by decide⟩ | exact .inl ⟨by decide, by decide⟩ | exact .inr ⟨by decide, by decide⟩ | omega)), rfl, _, rfl, ?_⟩
  refine ite2 (fun _ => ?_) (fun _ => ?_)
  · refine ⟨by (first | exact szOk (Nat.le_of_ble_eq_true rfl) | exact szLt (Nat.le_of_ble_eq_true rfl) | omega), fun l0 hl0 => ?_⟩
    refine Classical.byContradiction fun hnzq => ?_; obtain ⟨z, az, hz⟩ : ∃ z : Str, atI (([Str.ofString "", Str.ofString "Limit", Str.ofString "limit ", Str.ofString " now", Str.ofString "wholes", Str.ofString "quie", Str.ofString "NOW", Str.ofString "open", Str.ofString "none", Str.ofString "limitnow", Str.ofString "q", Str.ofString "Kind"]).map V.str) (c / 2 % 12) = some (.str z) ∧ ¬ isW z := by
      have h0 : 0 ≤ c / 2 % 12 := Int.emod_nonneg _ (by decide)
      refine Classical.byContradiction fun hnzq => ?_; obtain ⟨m, em⟩ := Int.eq_ofNat_of_zero_le h0
      refine hnzq ?_; clear hnzq
      have hm : m < 12 := Int.ofNat_lt.mp (em ▸ Int.emod_lt_of_pos (c / 2) (by decide))
      rw [em]
      have hall : ([Str.ofString "", Str.ofString "Limit", Str.ofString "limit ", Str.ofString " now", Str.ofString "wholes", Str.ofString "quie", Str.ofString "NOW", Str.ofString "open", Str.ofString "none", Str.ofString "limitnow", Str.ofString "q", Str.ofString "Kind"] : List Str).all (fun z => !isWB z) = true := by decide +kernel
      refine ⟨([Str.ofString "", Str.ofString "Limit", Str.ofString "limit ", Str.ofString " now", Str.ofString "wholes", Str.ofString "quie", Str.ofString "NOW", Str.ofString "open", Str.ofString "none", Str.ofString "limitnow", Str.ofString "q", Str.ofString "Kind"] : List Str)[m]'hm, atI_nat (by rw [List.getElem?_map, List.getElem?_eq_getElem hm]; rfl), noW (Bool.eq_false_iff.mpr fun w => ?_)⟩
      have := List.all_eq_true.mp hall _ (List.getElem_mem hm)
      rw [w] at this
      cases this
    refine hnzq ?_; clear hnzq
    exact ⟨_, rfl, _, rfl, _, _, rfl, rfl, ⟨by decide, by decide⟩, _, _, rfl, rfl, (by (first | (show (0 : Int) < _; decide) | exact ⟨by decide, by decide⟩ | exact ⟨by decide, by decide, by decide⟩ | exact .inl ⟨by decide, by decide⟩ | exact .inr ⟨by decide, by decide⟩ | omega)), l0, _, _, _, rfl, rfl, .inl (.inl upd_same), az, q z _ (same_upd hl0) hz⟩
  refine ⟨_, rfl, _, _, rfl, rfl, ⟨by decide, by decide⟩, ?_⟩
  refine ⟨fun σ' H' => H = H' ∧ ∃ (z : Str) (r : Int) (v5 : Option V), z.length ≤ 12 ∧ σ' = [some (.int c), none, some (.str LET), some (.str z), some (.int r), v5], ?_, ?_⟩
  · refine ⟨_, rfl, _, _, rfl, rfl, ⟨by decide, by decide⟩, _, _, rfl, rfl, (by (first | (show (0 : Int) < _; decide) | exact ⟨by decide, by decide⟩ | exact ⟨by decide, by decide, by decide⟩ | exact .inl ⟨by decide, by decide⟩ | exact .inr ⟨by decide, by decide⟩ | omega)), _, rfl, by lia, by lia, ?_⟩
    refine for_range (lo := 0) (fun i σ H' => H = H' ∧ ∃ (z : Str) (r : Int) (v5 : Option V), σ = [some (.int c), none, some (.str LET), some (.str z), some (.int r), v5] ∧ z.length ≤ i) ⟨rfl, _, _, none, rfl, Nat.le_refl _⟩ (fun i σ H' hi z => ?_) (fun σ H' z => ?_)
    · refine Classical.byContradiction fun hnzq => ?_; obtain ⟨rfl, z, r, v5, rfl, hz⟩ := z
      refine hnzq ?_; clear hnzq
      have hi' : i < 12 := by lia
      refine ⟨_, rfl, _, rfl, _, rfl, _, _, rfl, rfl, (by (first | (show (0 : Int) < _; decide) | exact ⟨by decide, by decide⟩ | exact ⟨by decide, by decide, by decide⟩ | exact .inl ⟨by decide, by decide⟩ | exact .inr ⟨by decide, by decide⟩ | omega)), LET, _, _, rfl, rfl, let_ok, at_sgn2 (by lia) (by rw [let_sz]; lia), _, _, rfl, rfl, ?_, ?_⟩
      · rw [one_sz]; exact szOk (by lia)
      · refine ⟨_, rfl, _, _, rfl, rfl, ⟨by decide, by decide⟩, rfl, _, _, _, rfl, ?_⟩
        rw [Str.length_append, one_sz]
        (exact Nat.lt_succ_of_le (by assumption))
    · refine Classical.byContradiction fun hnzq => ?_; obtain ⟨rfl, z, r, v5, rfl, hz⟩ := z
      refine hnzq ?_; clear hnzq
      exact ⟨rfl, z, r, v5, by lia, rfl⟩
  rintro _ _ zz
  refine Classical.byContradiction fun hnzq => ?_; obtain ⟨rfl, z, r, v5, hz, rfl⟩ := zz
  refine hnzq ?_; clear hnzq
  refine ⟨_, rfl, by (first | exact szOk (Nat.le_of_ble_eq_true rfl) | exact szLt (Nat.le_of_ble_eq_true rfl) | omega), fun t ht => ⟨t, _, rfl, .inl (.inl (.inl upd_same)), rfl, rfl, _, rfl, ?_⟩⟩
  rw [if_neg Bool.false_ne_true, in_words]
  refine ite2 (fun c1 => ?_) (fun c1 => ?_)
  · have hw : isW z := isWB_iff.mp c1
    refine ⟨_, rfl, _, _, rfl, rfl, szOk (by show z.length + 1 ≤ _; lia), q _ _ (same_upd ht) ?_⟩
    rcases hw with rfl | rfl | rfl | rfl <;> exact noW (by decide +kernel)
  · exact ⟨_, rfl, q _ _ (same_upd ht) fun w => c1 (isWB_iff.mpr w)⟩
theorem sc__law_due : FnScope ["word", "crosses", "amount", "wish"] ["word", "crosses", "amount", "wish"] (defScope (top 28)) := ⟨rfl, rfl, rfl, by decide +kernel, rfl, by decide +kernel, by decide +kernel⟩
noncomputable def sp__law_due (K : PySem.W.Frag) : Sp := fun vs H Q _ => ∃ (i : Ki) (cr : Bool) (am wi : Int), vs = [.str (wd i), .bl cr, .int am, .int wi] ∧ am ≤ wi ∧ i ≠ .kind ∧ Q (.bl (letsB i cr am wi)) H
theorem ok__law_due (d__law_due : Dv K mg "_law_due" (top 28) ["word", "crosses", "amount", "wish"]) (B : Bl mg) (C : Co mg) {Ad : AdT} (R : Er K mg Ad)  : FnOk P w K mg base CX0 1 d__law_due.f d__law_due.fd ["word", "crosses", "amount", "wish"] (sp__law_due K) := by
  refine d__law_due.F.ok sc__law_due (fun vs H Q E h => ?_) (fun cdv A outer s H vs Q E hr h => ?_)
  · refine Classical.byContradiction fun hnzq => ?_; obtain ⟨_, _, _, _, rfl, _⟩ := h; refine hnzq ?_; clear hnzq; rfl
  refine Classical.byContradiction fun hnzq => ?_; obtain ⟨i, cr, am, wi, rfl, hle, hi, q⟩ := h
  refine hnzq ?_; clear hnzq
  refine ⟨_, (pss_cons (ps_if (pt_cmpR op_eq (pv 0 rfl (Or.inl rfl) rfl rfl) pe_str (nomark _)) (pss_one (ps_ret (pe_cmpR op_eq (pv 2 rfl (Or.inl rfl) rfl rfl) (pv 3 rfl (Or.inl rfl) rfl rfl) (nomark _)))) pss_nil) (pss_cons (ps_if (pt_cmpR op_eq (pv 0 rfl (Or.inl rfl) rfl rfl) pe_str (nomark _)) (pss_one (ps_ret (pe_not (pv 1 rfl (Or.inl rfl) rfl rfl)))) pss_nil) (pss_one (ps_ret pe_bl)))), ?_⟩
  refine ⟨_, rfl, rfl, _, rfl, ?_⟩
  cases i with
  | kind => exact absurd rfl hi
  | limit =>
    refine ite2 (fun z => absurd (V.str.inj (of_decide_eq_true z)) w_lw) fun _ => ?_
    exact ⟨_, rfl, rfl, _, rfl, ite2 (fun z => absurd (V.str.inj (of_decide_eq_true z)) w_lq) fun _ => q⟩
  | now =>
    refine ite2 (fun z => absurd (V.str.inj (of_decide_eq_true z)) w_nw) fun _ => ?_
    exact ⟨_, rfl, rfl, _, rfl, ite2 (fun z => absurd (V.str.inj (of_decide_eq_true z)) w_nq) fun _ => q⟩
  | whole =>
    refine ite2 (fun _ => ?_) (fun z => absurd (decide_eq_true rfl) z)
    refine ⟨_, rfl, _, rfl, rfl, ?_⟩
    have e : decide (V.int am = V.int wi) = decide (wi ≤ am) := decide_eq_decide.mpr ⟨fun z => by have := V.int.inj z; lia, fun z => by rw [show am = wi by (exact Int.le_antisymm (by assumption) (by assumption))]⟩
    rw [e]
    exact q
  | quiet =>
    refine ite2 (fun z => absurd (V.str.inj (of_decide_eq_true z)) (fun u => w_wq u.symm)) fun _ => ?_
    refine ⟨_, rfl, rfl, _, rfl, ite2 (fun _ => ?_) (fun z => absurd (decide_eq_true rfl) z)⟩
    exact ⟨_, rfl, _, rfl, q⟩
theorem sc__law_bool : FnScope ["found", "due"] ["found", "due"] (defScope (top 29)) := ⟨rfl, rfl, rfl, by decide +kernel, rfl, by decide +kernel, by decide +kernel⟩
noncomputable def sp__law_bool (K : PySem.W.Frag) : Sp := fun vs H Q _ => ∃ (b : Bool), vs = [.bl b, .bl b] ∧ Q (.bl true) H
theorem ok__law_bool (d__law_bool : Dv K mg "_law_bool" (top 29) ["found", "due"]) (B : Bl mg) (C : Co mg) {Ad : AdT} (R : Er K mg Ad)  : FnOk P w K mg base CX0 1 d__law_bool.f d__law_bool.fd ["found", "due"] (sp__law_bool K) := by
  refine d__law_bool.F.ok sc__law_bool (fun vs H Q E h => ?_) (fun cdv A outer s H vs Q E hr h => ?_)
  · refine Classical.byContradiction fun hnzq => ?_; obtain ⟨_, rfl, _⟩ := h; refine hnzq ?_; clear hnzq; rfl
  refine Classical.byContradiction fun hnzq => ?_; obtain ⟨b, rfl, q⟩ := h
  refine hnzq ?_; clear hnzq
  refine ⟨_, (pss_one (ps_ret (pe_and (pe_callB call_isinst rfl B.b_isinstance PyProof.Rows.boot_isinstance (pa_cons (pv 0 rfl (Or.inl rfl) rfl rfl) (pa_cons (pe_bltn (v := .ty "bool") rfl B.b_bool PyProof.Rows.boot_bool rfl) pa_nil))) (pe_one (pe_cmpR op_eq (pv 0 rfl (Or.inl rfl) rfl rfl) (pv 1 rfl (Or.inl rfl) rfl rfl) (nomark _)))))), ?_⟩
  refine ⟨_, rfl, _, _, _, _, true, rfl, .bl b, rfl, rfl, true, rfl, iteT ⟨_, rfl, _, rfl, rfl, ?_⟩⟩
  simpa using q
theorem sc__law_right : FnScope ["kind", "word"] ["kind", "word"] (defScope (top 30)) := ⟨rfl, rfl, rfl, by decide +kernel, rfl, by decide +kernel, by decide +kernel⟩
noncomputable def sp__law_right (ck cl cn cw cq : Addr) : Sp := fun vs H Q _ => ∃ (x dx : Addr) (i : Ki), vs = [.ref x, .str (wd i)] ∧ i ≠ .kind ∧ H x = some (.ins (kiC ck cl cn cw cq i) dx []) ∧ Q (.bl true) H
theorem ok__law_right (d__law_right : Dv K mg "_law_right" (top 30) ["kind", "word"]) (B : Bl mg) (C : Co mg) {Ad : AdT} (R : Er K mg Ad)  : FnOk P w K mg base CX0 1 d__law_right.f d__law_right.fd ["kind", "word"] (sp__law_right Ad.c_Kind Ad.c_Limit Ad.c_Now Ad.c_Whole Ad.c_Quiet) := by
  refine d__law_right.F.ok sc__law_right (fun vs H Q E h => ?_) (fun cdv A outer s H vs Q E hr h => ?_)
  · refine Classical.byContradiction fun hnzq => ?_; obtain ⟨_, _, _, rfl, _⟩ := h; refine hnzq ?_; clear hnzq; rfl
  refine Classical.byContradiction fun hnzq => ?_; obtain ⟨x, dx, i, rfl, hi, hx, q⟩ := h
  refine hnzq ?_; clear hnzq
  refine ⟨_, (pss_cons (ps_if (pt_cmpR op_eq (pv 1 rfl (Or.inl rfl) rfl rfl) pe_str (nomark _)) (pss_one (ps_ret (pe_callB call_isinst rfl B.b_isinstance PyProof.Rows.boot_isinstance (pa_cons (pv 0 rfl (Or.inl rfl) rfl rfl) (pa_cons (pe_glob (v := .ref Ad.c_Limit) rfl R.m_Limit rfl) pa_nil))))) pss_nil) (pss_cons (ps_if (pt_cmpR op_eq (pv 1 rfl (Or.inl rfl) rfl rfl) pe_str (nomark _)) (pss_one (ps_ret (pe_callB call_isinst rfl B.b_isinstance PyProof.Rows.boot_isinstance (pa_cons (pv 0 rfl (Or.inl rfl) rfl rfl) (pa_cons (pe_glob (v := .ref Ad.c_Now) rfl R.m_Now rfl) pa_nil))))) pss_nil) (pss_cons (ps_if (pt_cmpR op_eq (pv 1 rfl (Or.inl rfl) rfl rfl) pe_str (nomark _)) (pss_one (ps_ret (pe_callB call_isinst rfl B.b_isinstance PyProof.Rows.boot_isinstance (pa_cons (pv 0 rfl (Or.inl rfl) rfl rfl) (pa_cons (pe_glob (v := .ref Ad.c_Whole) rfl R.m_Whole rfl) pa_nil))))) pss_nil) (pss_one (ps_ret (pe_callB call_isinst rfl B.b_isinstance PyProof.Rows.boot_isinstance (pa_cons (pv 0 rfl (Or.inl rfl) rfl rfl) (pa_cons (pe_glob (v := .ref Ad.c_Quiet) rfl R.m_Quiet rfl) pa_nil)))))))), ?_⟩
  refine ⟨_, rfl, rfl, _, rfl, ?_⟩
  cases i with
  | kind => exact absurd rfl hi
  | limit =>
    refine ite2 (fun _ => ?_) (fun z => absurd (decide_eq_true rfl) z)
    exact ⟨_, rfl, _, _, _, _, true, rfl, R.ty_Limit.of hx, rfl, R.ki_Limit_Limit, q⟩
  | now =>
    refine ite2 (fun z => absurd (V.str.inj (of_decide_eq_true z)) (fun u => w_ln u.symm)) fun _ => ?_
    refine ⟨_, rfl, rfl, _, rfl, ite2 (fun _ => ?_) (fun z => absurd (decide_eq_true rfl) z)⟩
    exact ⟨_, rfl, _, _, _, _, true, rfl, R.ty_Now.of hx, rfl, R.ki_Now_Now, q⟩
  | whole =>
    refine ite2 (fun z => absurd (V.str.inj (of_decide_eq_true z)) (fun u => w_lw u.symm)) fun _ => ?_
    refine ⟨_, rfl, rfl, _, rfl, ite2 (fun z => absurd (V.str.inj (of_decide_eq_true z)) (fun u => w_nw u.symm)) fun _ => ?_⟩
    refine ⟨_, rfl, rfl, _, rfl, ite2 (fun _ => ?_) (fun z => absurd (decide_eq_true rfl) z)⟩
    exact ⟨_, rfl, _, _, _, _, true, rfl, R.ty_Whole.of hx, rfl, R.ki_Whole_Whole, q⟩
  | quiet =>
    refine ite2 (fun z => absurd (V.str.inj (of_decide_eq_true z)) (fun u => w_lq u.symm)) fun _ => ?_
    refine ⟨_, rfl, rfl, _, rfl, ite2 (fun z => absurd (V.str.inj (of_decide_eq_true z)) (fun u => w_nq u.symm)) fun _ => ?_⟩
    refine ⟨_, rfl, rfl, _, rfl, ite2 (fun z => absurd (V.str.inj (of_decide_eq_true z)) (fun u => w_wq u.symm)) fun _ => ?_⟩
    exact ⟨_, rfl, _, _, _, _, true, rfl, R.ty_Quiet.of hx, rfl, R.ki_Quiet_Quiet, q⟩
theorem sc_law : FnScope ["script", "wish", "crosses", "amount", "words", "start", "before", "word", "kind", "one", "name", "refused", "e"] ["script"] (defScope (top 31)) := ⟨rfl, rfl, rfl, by decide +kernel, rfl, by decide +kernel, by decide +kernel⟩
noncomputable def sp_law (K : PySem.W.Frag) : Sp := fun vs H Q _ => ∃ (a : Addr) (ns : List Int), vs = [.ref a] ∧ SqL K H a (ns.map V.int) ∧ ns.length ≤ 63 ∧ ∀ H', Q (.bl true) H'
theorem ok_law (d_law : Dv K mg "law" (top 31) ["script"]) (B : Bl mg) (C : Co mg) {Ad : AdT} (R : Er K mg Ad) (d_Kind_lets : L2.Mv K "lets" "Kind.lets" (sub 19 0) ["self", "crosses", "amount", "wanted"]) (G_Kind_lets : FnOk P w K mg base CX0 1 d_Kind_lets.f d_Kind_lets.fd ["self", "crosses", "amount", "wanted"] (sp_Kind_lets K)) (d_Whole_lets : L2.Mv K "lets" "Whole.lets" (sub 22 0) ["self", "crosses", "amount", "wanted"]) (G_Whole_lets : FnOk P w K mg base CX0 1 d_Whole_lets.f d_Whole_lets.fd ["self", "crosses", "amount", "wanted"] (sp_Whole_lets K)) (d_Quiet_lets : L2.Mv K "lets" "Quiet.lets" (sub 23 0) ["self", "crosses", "amount", "wanted"]) (G_Quiet_lets : FnOk P w K mg base CX0 1 d_Quiet_lets.f d_Quiet_lets.fd ["self", "crosses", "amount", "wanted"] (sp_Quiet_lets K)) (d_Kind_keeps : L2.Mv K "keeps" "Kind.keeps" (sub 19 1) ["self"]) (G_Kind_keeps : FnOk P w K mg base CX0 1 d_Kind_keeps.f d_Kind_keeps.fd ["self"] (sp_Kind_keeps K)) (d_Now_keeps : L2.Mv K "keeps" "Now.keeps" (sub 21 0) ["self"]) (G_Now_keeps : FnOk P w K mg base CX0 1 d_Now_keeps.f d_Now_keeps.fd ["self"] (sp_Now_keeps K)) (d_Whole_keeps : L2.Mv K "keeps" "Whole.keeps" (sub 22 1) ["self"]) (G_Whole_keeps : FnOk P w K mg base CX0 1 d_Whole_keeps.f d_Whole_keeps.fd ["self"] (sp_Whole_keeps K)) (d__law_cell_at : Dv K mg "_law_cell_at" (top 26) ["script", "k"]) (G__law_cell_at : FnOk P w K mg base CX0 1 d__law_cell_at.f d__law_cell_at.fd ["script", "k"] (sp__law_cell_at K)) (d_kind_of : Dv K mg "kind_of" (top 24) ["word"]) (G_kind_of : FnOk P w K mg base (CXb P w) 1 d_kind_of.f d_kind_of.fd ["word"] (sp_kind_of Ad.c_BadKind Ad.c_Kind Ad.c_Limit Ad.c_Now Ad.c_Whole Ad.c_Quiet)) (d__law_right : Dv K mg "_law_right" (top 30) ["kind", "word"]) (G__law_right : FnOk P w K mg base CX0 1 d__law_right.f d__law_right.fd ["kind", "word"] (sp__law_right Ad.c_Kind Ad.c_Limit Ad.c_Now Ad.c_Whole Ad.c_Quiet)) (d__law_bool : Dv K mg "_law_bool" (top 29) ["found", "due"]) (G__law_bool : FnOk P w K mg base CX0 1 d__law_bool.f d__law_bool.fd ["found", "due"] (sp__law_bool K)) (d__law_due : Dv K mg "_law_due" (top 28) ["word", "crosses", "amount", "wish"]) (G__law_due : FnOk P w K mg base CX0 1 d__law_due.f d__law_due.fd ["word", "crosses", "amount", "wish"] (sp__law_due K)) (d__law_odd : Dv K mg "_law_odd" (top 27) ["cell"]) (G__law_odd : FnOk P w K mg base CX0 1 d__law_odd.f d__law_odd.fd ["cell"] (sp__law_odd K)) (M_Kind_lets : Meth K Ad.c_Kind "lets" d_Kind_lets.f) (M_Limit_lets : Meth K Ad.c_Limit "lets" d_Kind_lets.f) (M_Now_lets : Meth K Ad.c_Now "lets" d_Kind_lets.f) (M_Whole_lets : Meth K Ad.c_Whole "lets" d_Whole_lets.f) (M_Quiet_lets : Meth K Ad.c_Quiet "lets" d_Quiet_lets.f) (M_Kind_keeps : Meth K Ad.c_Kind "keeps" d_Kind_keeps.f) (M_Limit_keeps : Meth K Ad.c_Limit "keeps" d_Kind_keeps.f) (M_Now_keeps : Meth K Ad.c_Now "keeps" d_Now_keeps.f) (M_Whole_keeps : Meth K Ad.c_Whole "keeps" d_Whole_keeps.f) (M_Quiet_keeps : Meth K Ad.c_Quiet "keeps" d_Kind_keeps.f) : FnOk P w K mg base CX0 2 d_law.f d_law.fd ["script"] (sp_law K) := by
  refine d_law.F.ok sc_law (fun vs H Q E h => ?_) (fun cdv A outer s H vs Q E hr h => ?_)
  · obtain ⟨_, _, rfl, _⟩ := h; rfl
  obtain ⟨a, ns, rfl, hS, hn, q⟩ := h
  obtain ⟨fL, fdL, hmL, FL, bL⟩ : ∃ (f : Ki → Addr) (fd : Ki → FuncData), (∀ i, Meth K (((kiC Ad.c_Kind Ad.c_Limit Ad.c_Now Ad.c_Whole Ad.c_Quiet)) i) "lets" (f i)) ∧ (∀ i, FnOk P w K mg base CX0 1 (f i) (fd i) ["self", "crosses", "amount", "wanted"] (spL i)) ∧ (∀ i, Binds K (fd i) ["self", "crosses", "amount", "wanted"] []) :=
    ⟨kiD d_Kind_lets.f d_Kind_lets.f d_Kind_lets.f d_Whole_lets.f d_Quiet_lets.f, kiD d_Kind_lets.fd d_Kind_lets.fd d_Kind_lets.fd d_Whole_lets.fd d_Quiet_lets.fd,
      kiE M_Kind_lets M_Limit_lets M_Now_lets M_Whole_lets M_Quiet_lets, kiE G_Kind_lets G_Kind_lets G_Kind_lets G_Whole_lets G_Quiet_lets,
      kiE d_Kind_lets.b d_Kind_lets.b d_Kind_lets.b d_Whole_lets.b d_Quiet_lets.b⟩
  obtain ⟨fK, fdK, hmK, FK, bK⟩ : ∃ (f : Ki → Addr) (fd : Ki → FuncData), (∀ i, Meth K (((kiC Ad.c_Kind Ad.c_Limit Ad.c_Now Ad.c_Whole Ad.c_Quiet)) i) "keeps" (f i)) ∧ (∀ i, FnOk P w K mg base CX0 1 (f i) (fd i) ["self"] (spK i)) ∧ (∀ i, Binds K (fd i) ["self"] []) :=
    ⟨kiD d_Kind_keeps.f d_Kind_keeps.f d_Now_keeps.f d_Whole_keeps.f d_Kind_keeps.f, kiD d_Kind_keeps.fd d_Kind_keeps.fd d_Now_keeps.fd d_Whole_keeps.fd d_Kind_keeps.fd,
      kiE M_Kind_keeps M_Limit_keeps M_Now_keeps M_Whole_keeps M_Quiet_keeps, kiE G_Kind_keeps G_Kind_keeps G_Now_keeps G_Whole_keeps G_Kind_keeps,
      kiE d_Kind_keeps.b d_Kind_keeps.b d_Now_keeps.b d_Whole_keeps.b d_Kind_keeps.b⟩
  have clK : ∀ i, Cls K (((kiC Ad.c_Kind Ad.c_Limit Ad.c_Now Ad.c_Whole Ad.c_Quiet)) i) := kiE R.ty_Kind.cl R.ty_Limit.cl R.ty_Now.cl R.ty_Whole.cl R.ty_Quiet.cl
  have e9 : (10 : Int) ^ (9 : Int).toNat = 1000000000 := by decide
  refine okk_cutD (fun σ' H' => H = H' ∧ ∃ wi : Int, 1 ≤ wi ∧ σ' = [some (.ref a), some (.int wi), none, none, none, none, none, none, none, none, none, none, none]) (ps_set (i := 1) sc_law.nd rfl (Or.inl rfl) (.inl rfl) (pe_op op_add pe_int (pe_op op_mod (pe_call G__law_cell_at (hr.mono (by decide)) rfl d__law_cell_at.m d__law_cell_at.F.kp d__law_cell_at.b .nil pass0 (pa_cons (pv 0 rfl (Or.inl rfl) rfl rfl) (pa_cons pe_int pa_nil))) (pe_op op_pow pe_int pe_int)))) (fun D hD => ?_) ?_
  · exact ⟨_, rfl, a, ns, _, rfl, hS, by decide, _, _, rfl, rfl, ⟨by decide, by decide, by decide⟩, _, _, rfl, rfl, (by show (0 : Int) < _; decide), _, _, rfl, rfl, hD _ _ ⟨rfl, _, (by rw [e9]; lia), rfl⟩⟩
  rintro _ _ ⟨rfl, wi, hwi, rfl⟩
  refine okk_cutD (fun σ' H' => H = H' ∧ ∃ cr : Bool, σ' = [some (.ref a), some (.int wi), some (.bl cr), none, none, none, none, none, none, none, none, none, none]) (ps_set (i := 2) sc_law.nd rfl (Or.inl rfl) (.inl rfl) (pe_cmpR op_gt (pe_op op_mod (pe_call G__law_cell_at (hr.mono (by decide)) rfl d__law_cell_at.m d__law_cell_at.F.kp d__law_cell_at.b .nil pass0 (pa_cons (pv 0 rfl (Or.inl rfl) rfl rfl) (pa_cons pe_int pa_nil))) pe_int) pe_int (nomark _))) (fun D hD => ?_) ?_
  · exact ⟨_, rfl, a, ns, _, rfl, hS, by decide, _, _, rfl, rfl, (by (first | (show (0 : Int) < _; decide) | exact ⟨by decide, by decide⟩ | exact ⟨by decide, by decide, by decide⟩ | exact .inl ⟨by decide, by decide⟩ | exact .inr ⟨by decide, by decide⟩ | omega)), _, _, rfl, rfl, hD _ _ ⟨rfl, _, rfl⟩⟩
  rintro _ _ ⟨rfl, cr, rfl⟩
  refine okk_cut (fun σ' H' => H = H' ∧ σ' = [some (.ref a), some (.int wi), some (.bl cr), some (.int 0), none, none, none, none, none, none, none, none, none]) (ps_set (i := 3) sc_law.nd rfl (Or.inl rfl) (.inl rfl) pe_int) ⟨rfl, rfl⟩ ?_
  rintro _ _ ⟨rfl, rfl⟩
  refine okk_cutD (fun σ' H' => H = H' ∧ ∃ am : Int, 0 ≤ am ∧ am ≤ wi ∧ σ' = [some (.ref a), some (.int wi), some (.bl cr), some (.int am), none, none, none, none, none, none, none, none, none]) (ps_if (pt_cmpR op_eq (pe_op op_mod (pe_call G__law_cell_at (hr.mono (by decide)) rfl d__law_cell_at.m d__law_cell_at.F.kp d__law_cell_at.b .nil pass0 (pa_cons (pv 0 rfl (Or.inl rfl) rfl rfl) (pa_cons pe_int pa_nil))) pe_int) pe_int (nomark _)) (pss_one (ps_set (i := 3) sc_law.nd rfl (Or.inl rfl) (.inl rfl) (pe_op op_mod (pe_op op_fdiv (pe_call G__law_cell_at (hr.mono (by decide)) rfl d__law_cell_at.m d__law_cell_at.F.kp d__law_cell_at.b .nil pass0 (pa_cons (pv 0 rfl (Or.inl rfl) rfl rfl) (pa_cons pe_int pa_nil))) pe_int) (pe_op op_add (pv 1 rfl (Or.inl rfl) rfl rfl) pe_int)))) pss_nil) (fun D hD => ?_) ?_
  · refine ⟨_, rfl, a, ns, _, rfl, hS, by decide, _, _, rfl, rfl, (by (first | (show (0 : Int) < _; decide) | exact ⟨by decide, by decide⟩ | exact ⟨by decide, by decide, by decide⟩ | exact .inl ⟨by decide, by decide⟩ | exact .inr ⟨by decide, by decide⟩ | omega)), rfl, _, rfl, ?_⟩
    refine ite2 (fun _ => ?_) (fun _ => hD _ _ ⟨rfl, 0, Int.le_refl _, (by lia), rfl⟩)
    have hd : 0 < wi + 1 := by lia
    refine ⟨_, rfl, a, ns, _, rfl, hS, by decide, _, _, rfl, rfl, ⟨by decide, by decide⟩, _, rfl, _, _, rfl, rfl, _, _, rfl, rfl, hd, hD _ _ ⟨rfl, _, ?_, ?_, rfl⟩⟩
    · exact Int.emod_nonneg _ (by lia)
    · have := Int.emod_lt_of_pos (cell ns 1 / 4) hd
      lia
  rintro _ _ ⟨rfl, am1, ha0, ha1, rfl⟩
  refine okk_cutD (fun σ' H' => H = H' ∧ ∃ am : Int, 0 ≤ am ∧ am ≤ wi ∧ σ' = [some (.ref a), some (.int wi), some (.bl cr), some (.int am), none, none, none, none, none, none, none, none, none]) (ps_if (pt_cmpR op_eq (pe_op op_mod (pe_call G__law_cell_at (hr.mono (by decide)) rfl d__law_cell_at.m d__law_cell_at.F.kp d__law_cell_at.b .nil pass0 (pa_cons (pv 0 rfl (Or.inl rfl) rfl rfl) (pa_cons pe_int pa_nil))) pe_int) pe_int (nomark _)) (pss_one (ps_set (i := 3) sc_law.nd rfl (Or.inl rfl) (.inl rfl) (pv 1 rfl (Or.inl rfl) rfl rfl))) pss_nil) (fun D hD => ?_) ?_
  · refine ⟨_, rfl, a, ns, _, rfl, hS, by decide, _, _, rfl, rfl, (by (first | (show (0 : Int) < _; decide) | exact ⟨by decide, by decide⟩ | exact ⟨by decide, by decide, by decide⟩ | exact .inl ⟨by decide, by decide⟩ | exact .inr ⟨by decide, by decide⟩ | omega)), rfl, _, rfl, ?_⟩
    refine ite2 (fun _ => ?_) (fun _ => hD _ _ ⟨rfl, am1, ha0, ha1, rfl⟩)
    exact ⟨_, rfl, hD _ _ ⟨rfl, wi, (by lia), Int.le_refl _, rfl⟩⟩
  rintro _ _ ⟨rfl, am, ha0, ha1, rfl⟩
  refine okk_cutD (fun σ' H' => ∃ l0 : Addr, Same H H' ∧ H' l0 = some (.lst WS) ∧ σ' = [some (.ref a), some (.int wi), some (.bl cr), some (.int am), some (.ref l0), none, none, none, none, none, none, none, none]) (ps_set (i := 4) sc_law.nd rfl (Or.inl rfl) (.inl rfl) (pe_lst (pa_cons pe_str (pa_cons pe_str (pa_cons pe_str (pa_cons pe_str pa_nil)))))) (fun D hD => ?_) ?_
  · exact ⟨by (first | exact szOk (Nat.le_of_ble_eq_true rfl) | exact szLt (Nat.le_of_ble_eq_true rfl) | omega), fun l0 hl0 => hD _ _ ⟨l0, same_upd hl0, upd_same, rfl⟩⟩
  rintro _ H0 ⟨l0, s0, hl0, rfl⟩
  have hS0 := s0.seq hS
  refine okk_cutD (fun σ' H' => H0 = H' ∧ ∃ st : Int, (st = 0 ∨ st = 1 ∨ st = 2 ∨ st = 3) ∧ σ' = [some (.ref a), some (.int wi), some (.bl cr), some (.int am), some (.ref l0), some (.int st), none, none, none, none, none, none, none]) (ps_set (i := 5) sc_law.nd rfl (Or.inl rfl) (.inl rfl) (pe_op op_mod (pe_call G__law_cell_at (hr.mono (by decide)) rfl d__law_cell_at.m d__law_cell_at.F.kp d__law_cell_at.b .nil pass0 (pa_cons (pv 0 rfl (Or.inl rfl) rfl rfl) (pa_cons pe_int pa_nil))) pe_int)) (fun D hD => ?_) ?_
  · exact ⟨_, rfl, a, ns, _, rfl, hS0, by decide, _, _, rfl, rfl, (by (first | (show (0 : Int) < _; decide) | exact ⟨by decide, by decide⟩ | exact ⟨by decide, by decide, by decide⟩ | exact .inl ⟨by decide, by decide⟩ | exact .inr ⟨by decide, by decide⟩ | omega)), hD _ _ ⟨rfl, cell ns 2 % 4, by lia, rfl⟩⟩
  rintro _ _ ⟨rfl, st, hst, rfl⟩
  obtain ⟨i0, i1, i2, i3, ⟨n0, n1, n2, n3⟩, ew⟩ := ws_rot hst
  refine okk_cutD (fun σ' H' => ∃ W : Addr, Same H H' ∧ H' W = some (.lst [V.str (wd i0), V.str (wd i1), V.str (wd i2), V.str (wd i3)]) ∧ σ' = [some (.ref a), some (.int wi), some (.bl cr), some (.int am), some (.ref W), some (.int st), none, none, none, none, none, none, none]) (ps_set (i := 4) sc_law.nd rfl (Or.inl rfl) (.inl rfl) (pe_op op_cat (pe_slice sl_list (pv 4 rfl (Or.inl rfl) rfl rfl) (po_some (pv 5 rfl (Or.inl rfl) rfl rfl)) po_none) (pe_slice sl_list (pv 4 rfl (Or.inl rfl) rfl rfl) po_none (po_some (pv 5 rfl (Or.inl rfl) rfl rfl))))) (fun D hD => ?_) ?_
  · refine ⟨_, rfl, _, rfl, _, rfl, l0, WS, rfl, .inl (.inl hl0), fun q1 hq1 => ⟨_, rfl, _, rfl, _, rfl, l0, WS, rfl, .inl (.inl (at_upd hl0 hq1)), fun q2 hq2 => ?_⟩⟩
    have zl : (cutV WS (some st) none).length + (cutV WS none (some st)).length ≤ 16777216 := by
      have b1 := cutV_length WS (some st) none
      have b2 := cutV_length WS none (some st)
      have : WS.length = 4 := rfl
      lia
    refine ⟨q1, q2, _, _, rfl, rfl, at_upd upd_same hq2, upd_same, szOk zl, fun W hW => hD _ _ ⟨W, same_upd' (same_upd' (same_upd' s0 hq1) hq2) hW, ?_, rfl⟩⟩
    rw [upd_same, ew]
  rintro _ H1 ⟨W, s1, hWS, rfl⟩
  refine okk_cutD (fun σ' H' => ∃ bx bdx : Addr, Same H H' ∧ H' W = some (.lst [V.str (wd i0), V.str (wd i1), V.str (wd i2), V.str (wd i3)]) ∧ H' bx = some (.ins ((kiC Ad.c_Kind Ad.c_Limit Ad.c_Now Ad.c_Whole Ad.c_Quiet) i3) bdx []) ∧ σ' = [some (.ref a), some (.int wi), some (.bl cr), some (.int am), some (.ref W), some (.int st), some (.ref bx), none, none, none, none, none, none]) (ps_set (i := 6) sc_law.nd rfl (Or.inl rfl) (.inl rfl) (pe_call G_kind_of (hr.mono (by decide)) rfl d_kind_of.m d_kind_of.F.kp d_kind_of.b .nil passb0 (pa_cons (pe_ix ix_list (pv 4 rfl (Or.inl rfl) rfl rfl) pe_int (fun _ _ => rfl)) pa_nil))) (fun D hD => ?_) ?_
  · refine ⟨_, rfl, W, _, _, _, rfl, rfl, .inl (.inl hWS), rfl, wd i3, rfl, fun i hi e H2 bx bdx s2 hbx => ?_, fun hno => absurd (isW_wd n3) hno⟩
    have ei := wd_inj n3 hi e
    subst ei
    exact hD _ _ ⟨bx, bdx, s1.trans s2, s2 _ _ hWS, hbx, rfl⟩
  rintro _ H2 ⟨bx, bdx, sm2, hW2, hbx, rfl⟩
  refine okk_cutD (fun σ' H' => Same H2 H' ∧ ∃ v7 v8 v9 v10 v11 v12 : Option V, σ' = [some (.ref a), some (.int wi), some (.bl cr), some (.int am), some (.ref W), some (.int st), some (.ref bx), v7, v8, v9, v10, v11, v12]) (ps_for PassesOwn.never rfl (pi_list (pv 4 rfl (Or.inl rfl) rfl rfl)) (pg_name (i := 7) sc_law.nd rfl (Or.inl rfl) (.inl rfl)) pss_any) (fun D hD => ?_) ?_
  · refine ⟨_, rfl, W, rfl, ⟨_, .inl (.inl hW2)⟩, ?_⟩
    refine for_list (K := K) (a := W) (xs := [V.str (wd i0), V.str (wd i1), V.str (wd i2), V.str (wd i3)]) (fun i σ H' => Same H2 H' ∧ ∃ v7 v8 v9 v10 v11 v12 : Option V, σ = [some (.ref a), some (.int wi), some (.bl cr), some (.int am), some (.ref W), some (.int st), some (.ref bx), v7, v8, v9, v10, v11, v12]) ⟨Same.refl _, none, none, none, none, none, none, rfl⟩ (fun i σ H' _ z => ?_) (fun i x σ H5 hx z => ?_) (fun σ H' z => hD _ _ z)
    · exact .inl (.inl (z.1 _ _ hW2))
    obtain ⟨sm, v7, v8, v9, v10, v11, v12, rfl⟩ := z
    obtain ⟨j, hj, rfl⟩ : ∃ j : Ki, j ≠ .kind ∧ x = V.str (wd j) := by
      match i, hx with
      | 0, hx => exact ⟨i0, n0, (Option.some.inj hx).symm⟩
      | 1, hx => exact ⟨i1, n1, (Option.some.inj hx).symm⟩
      | 2, hx => exact ⟨i2, n2, (Option.some.inj hx).symm⟩
      | 3, hx => exact ⟨i3, n3, (Option.some.inj hx).symm⟩
      | _ + 4, hx => cases hx
    refine okk_dn fun DN hN => ?_
    refine okk_cutD (fun σ' H3 => ∃ kx kdx : Addr, Same H5 H3 ∧ H3 kx = some (.ins ((kiC Ad.c_Kind Ad.c_Limit Ad.c_Now Ad.c_Whole Ad.c_Quiet) j) kdx []) ∧ σ' = [some (.ref a), some (.int wi), some (.bl cr), some (.int am), some (.ref W), some (.int st), some (.ref bx), some (.str (wd j)), some (.ref kx), v9, v10, v11, v12]) (ps_set (i := 8) sc_law.nd rfl (Or.inl rfl) (.inl rfl) (pe_call G_kind_of (hr.mono (by decide)) rfl d_kind_of.m d_kind_of.F.kp d_kind_of.b .nil passb0 (pa_cons (pv 7 rfl (Or.inl rfl) rfl rfl) pa_nil))) (fun D hD => ?_) ?_
    · refine ⟨_, rfl, wd j, rfl, fun i hi e H3 kx kdx s3 hkx => ?_, fun hno => absurd (isW_wd hj) hno⟩
      have ei := wd_inj hj hi e
      subst ei
      exact hD _ _ ⟨kx, kdx, s3, hkx, rfl⟩
    rintro _ H3 ⟨kx, kdx, s3, hkx, rfl⟩
    have hbx3 := s3 _ _ (sm _ _ hbx)
    have hW3 := s3 _ _ (sm _ _ hW2)
    refine okk_cutD (fun σ' H' => H3 = H' ∧ σ' = [some (.ref a), some (.int wi), some (.bl cr), some (.int am), some (.ref W), some (.int st), some (.ref bx), some (.str (wd j)), some (.ref kx), v9, v10, v11, v12]) (ps_if (PW.pt (pw_or (pt_not (pt_val (pe_callB call_isinst rfl B.b_isinstance PyProof.Rows.boot_isinstance (pa_cons (pv 8 rfl (Or.inl rfl) rfl rfl) (pa_cons (pe_glob (v := .ref Ad.c_Kind) rfl R.m_Kind rfl) pa_nil))) (fun _ => rfl))) (pw_or1 (pt_not (pt_val (pe_call G__law_right (hr.mono (by decide)) rfl d__law_right.m d__law_right.F.kp d__law_right.b .nil pass0 (pa_cons (pv 8 rfl (Or.inl rfl) rfl rfl) (pa_cons (pv 7 rfl (Or.inl rfl) rfl rfl) pa_nil))) (fun _ => rfl)))))) (pss_one (ps_ret pe_bl)) pss_nil) (fun D hD => ?_) ?_
    · have tyK : Ty K ((kiC Ad.c_Kind Ad.c_Limit Ad.c_Now Ad.c_Whole Ad.c_Quiet) j) ∧ PySem.W.kitOne K (.ref ((kiC Ad.c_Kind Ad.c_Limit Ad.c_Now Ad.c_Whole Ad.c_Quiet) j)) (.ref Ad.c_Kind) = some true := match j, hj with
        | .kind, h => absurd rfl h
        | .limit, _ => ⟨R.ty_Limit, R.ki_Limit_Kind⟩
        | .now, _ => ⟨R.ty_Now, R.ki_Now_Kind⟩
        | .whole, _ => ⟨R.ty_Whole, R.ki_Whole_Kind⟩
        | .quiet, _ => ⟨R.ty_Quiet, R.ki_Quiet_Kind⟩
      refine ⟨_, rfl, _, _, _, _, true, rfl, tyK.1.of hkx, rfl, tyK.2, _, rfl, iteF ?_⟩
      exact ⟨_, rfl, _, rfl, kx, kdx, j, rfl, hj, hkx, _, rfl, iteF (hD _ _ ⟨rfl, rfl⟩)⟩
    rintro _ _ ⟨rfl, rfl⟩
    refine okk_one (ps_for PassesOwn.never rfl (pi_list (pe_lst (pa_cons (pe_tup (pa_cons (pv 8 rfl (Or.inl rfl) rfl rfl) (pa_cons (pv 7 rfl (Or.inl rfl) rfl rfl) pa_nil))) (pa_cons (pe_tup (pa_cons (pv 6 rfl (Or.inl rfl) rfl rfl) (pa_cons (pe_ix ix_list (pv 4 rfl (Or.inl rfl) rfl rfl) pe_int (fun _ _ => rfl)) pa_nil))) pa_nil)))) (pg_tup rfl (pgs_cons (pg_name (i := 9) sc_law.nd rfl (Or.inl rfl) (.inl rfl)) (pgs_cons (pg_name (i := 10) sc_law.nd rfl (Or.inl rfl) (.inl rfl)) pgs_nil))) pss_any) ?_
    refine ⟨_, rfl, _, rfl, by (first | exact szOk (Nat.le_of_ble_eq_true rfl) | exact szLt (Nat.le_of_ble_eq_true rfl) | omega), fun t1 ht1 => ⟨_, rfl, _, rfl, W, _, _, _, rfl, rfl, .inl (.inl (at_upd hW3 ht1)), rfl, by (first | exact szOk (Nat.le_of_ble_eq_true rfl) | exact szLt (Nat.le_of_ble_eq_true rfl) | omega), fun t2 ht2 => ⟨by (first | exact szOk (Nat.le_of_ble_eq_true rfl) | exact szLt (Nat.le_of_ble_eq_true rfl) | omega), fun L hL => ⟨L, rfl, ⟨_, .inl (.inl upd_same)⟩, ?_⟩⟩⟩⟩
    have s4 := same_upd' (u := .lst [V.ref t1, V.ref t2]) (same_upd' (u := .tup [V.ref bx, V.str (wd i3)]) (same_upd (u := .tup [V.ref kx, V.str (wd j)]) ht1) ht2) hL
    have hkx4 := s4 _ _ hkx
    have hbx4 := s4 _ _ hbx3
    have ht14 : upd (upd (upd H3 t1 (.tup [V.ref kx, V.str (wd j)])) t2 (.tup [V.ref bx, V.str (wd i3)])) L (.lst [V.ref t1, V.ref t2]) t1 = some (.tup [V.ref kx, V.str (wd j)]) := at_upd (at_upd upd_same ht2) hL
    have ht24 : upd (upd (upd H3 t1 (.tup [V.ref kx, V.str (wd j)])) t2 (.tup [V.ref bx, V.str (wd i3)])) L (.lst [V.ref t1, V.ref t2]) t2 = some (.tup [V.ref bx, V.str (wd i3)]) := at_upd upd_same hL
    have hL4 : upd (upd (upd H3 t1 (.tup [V.ref kx, V.str (wd j)])) t2 (.tup [V.ref bx, V.str (wd i3)])) L (.lst [V.ref t1, V.ref t2]) L = some (.lst [V.ref t1, V.ref t2]) := upd_same
    generalize upd (upd (upd H3 t1 (.tup [V.ref kx, V.str (wd j)])) t2 (.tup [V.ref bx, V.str (wd i3)])) L (.lst [V.ref t1, V.ref t2]) = H4 at s4 hkx4 hbx4 ht14 ht24 hL4
    refine for_list (K := K) (a := L) (xs := [V.ref t1, V.ref t2]) (fun i σ H' => H4 = H' ∧ ∃ v9 v10 : Option V, σ = [some (.ref a), some (.int wi), some (.bl cr), some (.int am), some (.ref W), some (.int st), some (.ref bx), some (.str (wd j)), some (.ref kx), v9, v10, v11, v12]) ⟨rfl, v9, v10, rfl⟩ (fun i σ H' _ z => ?_) (fun i y σ H' hy z => ?_) (fun σ H' z => ?_)
    · obtain ⟨rfl, _⟩ := z
      exact .inl (.inl hL4)
    · obtain ⟨rfl, v9', v10', rfl⟩ := z
      obtain ⟨ty, ox, odx, jj, rfl, hjj, hty, hox⟩ : ∃ (ty ox odx : Addr) (jj : Ki), y = V.ref ty ∧ jj ≠ .kind ∧ H4 ty = some (.tup [V.ref ox, V.str (wd jj)]) ∧ H4 ox = some (.ins ((kiC Ad.c_Kind Ad.c_Limit Ad.c_Now Ad.c_Whole Ad.c_Quiet) jj) odx []) := by
        match i, hy with
        | 0, hy => exact ⟨t1, kx, kdx, j, (Option.some.inj hy).symm, hj, ht14, hkx4⟩
        | 1, hy => exact ⟨t2, bx, bdx, i3, (Option.some.inj hy).symm, n3, ht24, hbx4⟩
        | _ + 2, hy => cases hy
      refine ⟨ty, _, rfl, .inl (.inl hty), rfl, _, _, rfl, _, _, rfl, rfl, ?_⟩
      refine okk_dn fun DM hM => ?_
      refine okk_cutD (fun σ' H' => H4 = H' ∧ σ' = [some (.ref a), some (.int wi), some (.bl cr), some (.int am), some (.ref W), some (.int st), some (.ref bx), some (.str (wd j)), some (.ref kx), some (.ref ox), some (.str (wd jj)), v11, v12]) (ps_if (pt_not (pt_val (pe_call G__law_bool (hr.mono (by decide)) rfl d__law_bool.m d__law_bool.F.kp d__law_bool.b .nil pass0 (pa_cons (pe_methI (pv 9 rfl (Or.inl rfl) rfl rfl) clK hmL FL (hr.mono (by decide)) bL pass0 (pa_cons (pv 2 rfl (Or.inl rfl) rfl rfl) (pa_cons (pv 3 rfl (Or.inl rfl) rfl rfl) (pa_cons (pv 1 rfl (Or.inl rfl) rfl rfl) pa_nil)))) (pa_cons (pe_call G__law_due (hr.mono (by decide)) rfl d__law_due.m d__law_due.F.kp d__law_due.b .nil pass0 (pa_cons (pv 10 rfl (Or.inl rfl) rfl rfl) (pa_cons (pv 2 rfl (Or.inl rfl) rfl rfl) (pa_cons (pv 3 rfl (Or.inl rfl) rfl rfl) (pa_cons (pv 1 rfl (Or.inl rfl) rfl rfl) pa_nil))))) pa_nil))) (fun _ => rfl))) (pss_one (ps_ret pe_bl)) pss_nil) (fun D hD => ?_) ?_
      · exact ⟨_, rfl, jj, ox, odx, [], rfl, hox, rfl, _, rfl, _, rfl, _, rfl, _, _, _, _, rfl, _, rfl, _, rfl, _, rfl, _, rfl, jj, cr, am, wi, rfl, ha1, hjj, _, rfl, _, rfl, iteF (hD _ _ ⟨rfl, rfl⟩)⟩
      rintro _ _ ⟨rfl, rfl⟩
      refine okk_one (ps_if (pt_not (pt_val (pe_call G__law_bool (hr.mono (by decide)) rfl d__law_bool.m d__law_bool.F.kp d__law_bool.b .nil pass0 (pa_cons (pe_methI0 (pv 9 rfl (Or.inl rfl) rfl rfl) clK hmK FK (hr.mono (by decide)) bK pass0) (pa_cons (pe_or (pe_cmpR op_eq (pv 10 rfl (Or.inl rfl) rfl rfl) pe_str (nomark _)) (pe_one (pe_cmpR op_eq (pv 10 rfl (Or.inl rfl) rfl rfl) pe_str (nomark _)))) pa_nil))) (fun _ => rfl))) (pss_one (ps_ret pe_bl)) pss_nil) ?_
      refine ⟨_, rfl, jj, ox, odx, [], rfl, hox, rfl, _, rfl, _, rfl, rfl, _, rfl, ?_⟩
      cases jj with
      | kind => exact absurd rfl hjj
      | limit => exact ite2 (fun _ => ⟨true, rfl, _, rfl, iteF (hM _ _ ⟨rfl, _, _, rfl⟩)⟩) (fun z => absurd (decide_eq_true rfl) z)
      | now =>
        refine ite2 (fun z => absurd (V.str.inj (of_decide_eq_true z)) (fun u => w_ln u.symm)) fun _ => ?_
        refine ⟨_, rfl, rfl, false, ?_, _, rfl, iteF (hM _ _ ⟨rfl, _, _, rfl⟩)⟩
        exact congrArg (fun b => [V.bl false, V.bl b]) (decide_eq_false (p := V.str (Str.ofString "now") = V.str (Str.ofString "quiet")) (fun u => w_nq (V.str.inj u)))
      | whole =>
        refine ite2 (fun z => absurd (V.str.inj (of_decide_eq_true z)) (fun u => w_lw u.symm)) fun _ => ?_
        refine ⟨_, rfl, rfl, false, ?_, _, rfl, iteF (hM _ _ ⟨rfl, _, _, rfl⟩)⟩
        exact congrArg (fun b => [V.bl false, V.bl b]) (decide_eq_false (p := V.str (Str.ofString "whole") = V.str (Str.ofString "quiet")) (fun u => w_wq (V.str.inj u)))
      | quiet =>
        refine ite2 (fun z => absurd (V.str.inj (of_decide_eq_true z)) (fun u => w_lq u.symm)) fun _ => ?_
        refine ⟨_, rfl, rfl, true, ?_, _, rfl, iteF (hM _ _ ⟨rfl, _, _, rfl⟩)⟩
        exact congrArg (fun b => [V.bl true, V.bl b]) (decide_eq_true (p := V.str (Str.ofString "quiet") = V.str (Str.ofString "quiet")) rfl)
    · obtain ⟨rfl, v9', v10', rfl⟩ := z
      exact hN _ _ ⟨(sm.trans s3).trans s4, _, _, _, _, _, _, rfl⟩
  rintro _ H9 ⟨sm, v7, v8, v9, v10, v11, v12, rfl⟩
  refine okk_cutD (fun σ' H' => Same H9 H' ∧ σ' = [some (.ref a), some (.int wi), some (.bl cr), some (.int am), some (.ref W), some (.int st), some (.ref bx), v7, v8, v9, v10, v11, v12]) (ps_if (PW.pt (pw_or (pt_not (pt_val (pe_call G__law_bool (hr.mono (by decide)) rfl d__law_bool.m d__law_bool.F.kp d__law_bool.b .nil pass0 (pa_cons (pe_methI (pe_makeN R.mkn_Kind rfl R.m_Kind) clK hmL FL (hr.mono (by decide)) bL pass0 (pa_cons (pv 2 rfl (Or.inl rfl) rfl rfl) (pa_cons (pv 3 rfl (Or.inl rfl) rfl rfl) (pa_cons (pv 1 rfl (Or.inl rfl) rfl rfl) pa_nil)))) (pa_cons pe_bl pa_nil))) (fun _ => rfl))) (pw_or1 (pt_not (pt_val (pe_call G__law_bool (hr.mono (by decide)) rfl d__law_bool.m d__law_bool.F.kp d__law_bool.b .nil pass0 (pa_cons (pe_methI0 (pe_makeN R.mkn_Kind rfl R.m_Kind) clK hmK FK (hr.mono (by decide)) bK pass0) (pa_cons pe_bl pa_nil))) (fun _ => rfl)))))) (pss_one (ps_ret pe_bl)) pss_nil) (fun D hD => ?_) ?_
  · refine fun x1 dx1 hx1 hd1 hne1 => ?_
    have t1 := same_made (C := Ad.c_Kind) hx1 hd1 hne1
    refine ⟨.kind, x1, dx1, [], rfl, upd_same, rfl, _, rfl, _, rfl, _, rfl, _, _, _, _, rfl, true, rfl, _, rfl, iteF ?_⟩
    refine fun x2 dx2 hx2 hd2 hne2 => ?_
    have t2 := t1.trans (same_made (C := Ad.c_Kind) hx2 hd2 hne2)
    exact ⟨.kind, x2, dx2, [], rfl, upd_same, rfl, _, rfl, true, rfl, _, rfl, iteF (hD _ _ ⟨t2, rfl⟩)⟩
  rintro _ H10 ⟨t2, rfl⟩
  have sE := (sm2.trans sm).trans t2
  refine okk_cut (fun σ' H' => H10 = H' ∧ σ' = [some (.ref a), some (.int wi), some (.bl cr), some (.int am), some (.ref W), some (.int st), some (.ref bx), v7, v8, v9, v10, some (.bl false), v12]) (ps_set (i := 11) sc_law.nd rfl (Or.inl rfl) (.inl rfl) pe_bl) ⟨rfl, rfl⟩ ?_
  rintro _ _ ⟨rfl, rfl⟩
  refine okk_cutD (fun σ' H' => ∃ v12, σ' = [some (.ref a), some (.int wi), some (.bl cr), some (.int am), some (.ref W), some (.int st), some (.ref bx), v7, v8, v9, v10, some (.bl true), v12]) (ps_try (i := 12) rfl rfl sc_law.nd rfl rfl rfl R.m_BourseError (pxs_one (px_expr (pex_call G_kind_of (hr.mono (by decide)) rfl d_kind_of.m d_kind_of.F.kp d_kind_of.b .nil (pa_cons (pe_call G__law_odd (hr.mono (by decide)) rfl d__law_odd.m d__law_odd.F.kp d__law_odd.b .nil pass0 (pa_cons (pe_call G__law_cell_at (hr.mono (by decide)) rfl d__law_cell_at.m d__law_cell_at.F.kp d__law_cell_at.b .nil pass0 (pa_cons (pv 0 rfl (Or.inl rfl) rfl rfl) (pa_cons pe_int pa_nil))) pa_nil)) pa_nil)))) (fun e_ oe_ => pss_any)) (fun D hD => ?_) ?_
  · refine ⟨_, rfl, a, ns, _, rfl, sE.seq hS, by decide, _, rfl, fun z H5 s5 hz => ⟨z, rfl, fun i hi e => absurd (by rw [e]; exact isW_wd hi) hz, fun _ => ?_⟩⟩
    refine ⟨R.e_BadKind, fun e oe hcls he => ?_⟩
    refine okk_seq (ps_set (i := 11) sc_law.nd rfl (Or.inl rfl) (.inl rfl) (pe_and (pe_callB call_isinst_exc rfl B.b_isinstance PyProof.Rows.boot_isinstance (pa_cons (pv 12 rfl (Or.inl rfl) rfl rfl) (pa_cons (pe_bltn (v := .ty "ValueError") rfl B.b_ValueError (by decide +kernel) rfl) pa_nil))) (pe_one (pe_callB call_isinst_exc rfl B.b_isinstance PyProof.Rows.boot_isinstance (pa_cons (pv 12 rfl (Or.inl rfl) rfl rfl) (pa_cons (pe_glob (v := .ref Ad.c_BadKind) rfl R.m_BadKind rfl) pa_nil)))))) ?_
    refine ⟨_, rfl, _, _, _, _, _, _, rfl, List.mem_cons_self, hcls, R.k_BadKind, rfl, R.i_BadKind_ValueError, true, rfl, iteT ?_⟩
    refine ⟨_, rfl, _, _, _, _, _, _, rfl, List.mem_cons_self, hcls, R.k_BadKind, rfl, R.i_BadKind_BadKind, ?_⟩
    refine okk_seq (ps_set (i := 11) sc_law.nd rfl (Or.inl rfl) (.inl rfl) (pe_and (pv 11 rfl (Or.inl rfl) rfl rfl) (pe_one (pe_not (pe_callB call_isinst_excT rfl B.b_isinstance PyProof.Rows.boot_isinstance (pa_cons (pv 12 rfl (Or.inl rfl) rfl rfl) (pa_cons (pe_tup (pa_cons (pe_glob (v := .ref Ad.c_BadName) rfl R.m_BadName rfl) (pa_cons (pe_glob (v := .ref Ad.c_BadNumber) rfl R.m_BadNumber rfl) (pa_cons (pe_glob (v := .ref Ad.c_BadPhase) rfl R.m_BadPhase rfl) (pa_cons (pe_glob (v := .ref Ad.c_BadSide) rfl R.m_BadSide rfl) (pa_cons (pe_glob (v := .ref Ad.c_NoDeed) rfl R.m_NoDeed rfl) (pa_cons (pe_glob (v := .ref Ad.c_NoOrder) rfl R.m_NoOrder rfl) (pa_cons (pe_glob (v := .ref Ad.c_NoSeat) rfl R.m_NoSeat rfl) pa_nil)))))))) pa_nil))))))) ?_
    refine ⟨_, rfl, true, rfl, iteT ⟨_, rfl, by (first | exact szOk (Nat.le_of_ble_eq_true rfl) | exact szLt (Nat.le_of_ble_eq_true rfl) | omega), fun tp htp => ?_⟩⟩
    refine ⟨_, tp, _, _, _, [.ref Ad.c_BadName, .ref Ad.c_BadNumber, .ref Ad.c_BadPhase, .ref Ad.c_BadSide, .ref Ad.c_NoDeed, .ref Ad.c_NoOrder, .ref Ad.c_NoSeat], false, rfl, List.mem_cons_self, hcls, R.k_BadKind, upd_same, rfl, kf R.i_BadKind_BadName (kf R.i_BadKind_BadNumber (kf R.i_BadKind_BadPhase (kf R.i_BadKind_BadSide (kf R.i_BadKind_NoDeed (kf R.i_BadKind_NoOrder (kf R.i_BadKind_NoSeat kn)))))), _, rfl, ?_⟩
    refine okk_one (ps_set (i := 11) sc_law.nd rfl (Or.inl rfl) (.inl rfl) (pe_and (pv 11 rfl (Or.inl rfl) rfl rfl) (pe_one (pe_not (pe_callB call_isinst_excT rfl B.b_isinstance PyProof.Rows.boot_isinstance (pa_cons (pv 12 rfl (Or.inl rfl) rfl rfl) (pa_cons (pe_tup (pa_cons (pe_glob (v := .ref Ad.c_NoTape) rfl R.m_NoTape rfl) (pa_cons (pe_glob (v := .ref Ad.c_NoWare) rfl R.m_NoWare rfl) (pa_cons (pe_glob (v := .ref Ad.c_NoWeight) rfl R.m_NoWeight rfl) (pa_cons (pe_glob (v := .ref Ad.c_NotNow) rfl R.m_NotNow rfl) (pa_cons (pe_glob (v := .ref Ad.c_Ring) rfl R.m_Ring rfl) (pa_cons (pe_glob (v := .ref Ad.c_Short) rfl R.m_Short rfl) (pa_cons (pe_glob (v := .ref Ad.c_Twice) rfl R.m_Twice rfl) (pa_cons (pe_glob (v := .ref Ad.c_Unheld) rfl R.m_Unheld rfl) pa_nil))))))))) pa_nil))))))) ?_
    refine ⟨_, rfl, true, rfl, iteT ⟨_, rfl, by (first | exact szOk (Nat.le_of_ble_eq_true rfl) | exact szLt (Nat.le_of_ble_eq_true rfl) | omega), fun tp2 htp2 => ?_⟩⟩
    exact ⟨_, tp2, _, _, _, [.ref Ad.c_NoTape, .ref Ad.c_NoWare, .ref Ad.c_NoWeight, .ref Ad.c_NotNow, .ref Ad.c_Ring, .ref Ad.c_Short, .ref Ad.c_Twice, .ref Ad.c_Unheld], false, rfl, List.mem_cons_self, hcls, R.k_BadKind, upd_same, rfl, kf R.i_BadKind_NoTape (kf R.i_BadKind_NoWare (kf R.i_BadKind_NoWeight (kf R.i_BadKind_NotNow (kf R.i_BadKind_Ring (kf R.i_BadKind_Short (kf R.i_BadKind_Twice (kf R.i_BadKind_Unheld kn))))))), _, rfl, hD _ _ ⟨_, rfl⟩⟩
  rintro _ H' ⟨v12', rfl⟩
  refine okk_one (ps_ret (pv 11 rfl (Or.inl rfl) rfl rfl)) ?_
  exact ⟨_, rfl, q _⟩
end
theorem all_mk {l : PySem.W.OpenLaw} {w : World} {K : PySem.W.Frag} {h : Heap} {mg : Str → Option Value} {fa f_Kind_lets f_Kind_keeps f_Now_keeps f_Whole_lets f_Whole_keeps f_Quiet_lets f_kind_of f__law_cell_at f__law_odd f__law_due f__law_bool f__law_right f_law c_BadKind c_BadName c_BadNumber c_BadPhase c_BadSide c_BourseError c_Kind c_Limit c_NoDeed c_NoOrder c_NoSeat c_NoTape c_NoWare c_NoWeight c_NotNow c_Now c_Quiet c_Ring c_Short c_Twice c_Unheld c_Whole : Addr} (X : K.In h) (G : h.Ns mainGlobals mg) (hfa : mg "law" = some (.ref fa))
    {od_Kind_lets an_Kind_lets od_Kind_keeps an_Kind_keeps od_Now_keeps an_Now_keeps od_Whole_lets an_Whole_lets od_Whole_keeps an_Whole_keeps od_Quiet_lets an_Quiet_lets od_kind_of an_kind_of od__law_cell_at an__law_cell_at od__law_odd an__law_odd od__law_due an__law_due od__law_bool an__law_bool od__law_right an__law_right od_law an_law : Option Addr} {sl_Kind_lets sl_Kind_keeps sl_Now_keeps sl_Whole_lets sl_Whole_keeps sl_Quiet_lets sl_kind_of sl__law_cell_at sl__law_odd sl__law_due sl__law_bool sl__law_right sl_law : Array (Option Value)} {oc_Kind_lets kV_Kind_lets dc_Kind_lets pm_Kind_lets cd_Kind_lets ct_Kind_lets oc_Kind_keeps kV_Kind_keeps dc_Kind_keeps pm_Kind_keeps cd_Kind_keeps ct_Kind_keeps oc_Now_keeps kV_Now_keeps dc_Now_keeps pm_Now_keeps cd_Now_keeps ct_Now_keeps oc_Whole_lets kV_Whole_lets dc_Whole_lets pm_Whole_lets cd_Whole_lets ct_Whole_lets oc_Whole_keeps kV_Whole_keeps dc_Whole_keeps pm_Whole_keeps cd_Whole_keeps ct_Whole_keeps oc_Quiet_lets kV_Quiet_lets dc_Quiet_lets pm_Quiet_lets cd_Quiet_lets ct_Quiet_lets oc_kind_of kV_kind_of dc_kind_of pm_kind_of cd_kind_of ct_kind_of oc__law_cell_at kV__law_cell_at dc__law_cell_at pm__law_cell_at cd__law_cell_at ct__law_cell_at oc__law_odd kV__law_odd dc__law_odd pm__law_odd cd__law_odd ct__law_odd oc__law_due kV__law_due dc__law_due pm__law_due cd__law_due ct__law_due oc__law_bool kV__law_bool dc__law_bool pm__law_bool cd__law_bool ct__law_bool oc__law_right kV__law_right dc__law_right pm__law_right cd__law_right ct__law_right oc_law kV_law dc_law pm_law cd_law ct_law : Value}  {xc_BadKind : ClassData}
    (l_Kind_lets : K.lookup f_Kind_lets = some ⟨oc_Kind_lets, od_Kind_lets, .func (PySem.W.fnOf "lets" "Kind.lets" (defArgs (sub 19 0)) (defBody (sub 19 0)) (defScope (sub 19 0)) .none kV_Kind_lets dc_Kind_lets pm_Kind_lets an_Kind_lets cd_Kind_lets ct_Kind_lets), sl_Kind_lets⟩)
    (q_Kind_lets : PySem.W.codeIn K cd_Kind_lets "Kind.lets" = true)
    (k_Kind_lets : PySem.W.keepIn K (.ref f_Kind_lets) = true)
    (l_Kind_keeps : K.lookup f_Kind_keeps = some ⟨oc_Kind_keeps, od_Kind_keeps, .func (PySem.W.fnOf "keeps" "Kind.keeps" (defArgs (sub 19 1)) (defBody (sub 19 1)) (defScope (sub 19 1)) .none kV_Kind_keeps dc_Kind_keeps pm_Kind_keeps an_Kind_keeps cd_Kind_keeps ct_Kind_keeps), sl_Kind_keeps⟩)
    (q_Kind_keeps : PySem.W.codeIn K cd_Kind_keeps "Kind.keeps" = true)
    (k_Kind_keeps : PySem.W.keepIn K (.ref f_Kind_keeps) = true)
    (l_Now_keeps : K.lookup f_Now_keeps = some ⟨oc_Now_keeps, od_Now_keeps, .func (PySem.W.fnOf "keeps" "Now.keeps" (defArgs (sub 21 0)) (defBody (sub 21 0)) (defScope (sub 21 0)) .none kV_Now_keeps dc_Now_keeps pm_Now_keeps an_Now_keeps cd_Now_keeps ct_Now_keeps), sl_Now_keeps⟩)
    (q_Now_keeps : PySem.W.codeIn K cd_Now_keeps "Now.keeps" = true)
    (k_Now_keeps : PySem.W.keepIn K (.ref f_Now_keeps) = true)
    (l_Whole_lets : K.lookup f_Whole_lets = some ⟨oc_Whole_lets, od_Whole_lets, .func (PySem.W.fnOf "lets" "Whole.lets" (defArgs (sub 22 0)) (defBody (sub 22 0)) (defScope (sub 22 0)) .none kV_Whole_lets dc_Whole_lets pm_Whole_lets an_Whole_lets cd_Whole_lets ct_Whole_lets), sl_Whole_lets⟩)
    (q_Whole_lets : PySem.W.codeIn K cd_Whole_lets "Whole.lets" = true)
    (k_Whole_lets : PySem.W.keepIn K (.ref f_Whole_lets) = true)
    (l_Whole_keeps : K.lookup f_Whole_keeps = some ⟨oc_Whole_keeps, od_Whole_keeps, .func (PySem.W.fnOf "keeps" "Whole.keeps" (defArgs (sub 22 1)) (defBody (sub 22 1)) (defScope (sub 22 1)) .none kV_Whole_keeps dc_Whole_keeps pm_Whole_keeps an_Whole_keeps cd_Whole_keeps ct_Whole_keeps), sl_Whole_keeps⟩)
    (q_Whole_keeps : PySem.W.codeIn K cd_Whole_keeps "Whole.keeps" = true)
    (k_Whole_keeps : PySem.W.keepIn K (.ref f_Whole_keeps) = true)
    (l_Quiet_lets : K.lookup f_Quiet_lets = some ⟨oc_Quiet_lets, od_Quiet_lets, .func (PySem.W.fnOf "lets" "Quiet.lets" (defArgs (sub 23 0)) (defBody (sub 23 0)) (defScope (sub 23 0)) .none kV_Quiet_lets dc_Quiet_lets pm_Quiet_lets an_Quiet_lets cd_Quiet_lets ct_Quiet_lets), sl_Quiet_lets⟩)
    (q_Quiet_lets : PySem.W.codeIn K cd_Quiet_lets "Quiet.lets" = true)
    (k_Quiet_lets : PySem.W.keepIn K (.ref f_Quiet_lets) = true)
    (a_kind_of : PySem.W.nsIn K mainGlobals "kind_of" = some (some (.ref f_kind_of)))
    (l_kind_of : K.lookup f_kind_of = some ⟨oc_kind_of, od_kind_of, .func (PySem.W.fnOf "kind_of" "kind_of" (defArgs (top 24)) (defBody (top 24)) (defScope (top 24)) .none kV_kind_of dc_kind_of pm_kind_of an_kind_of cd_kind_of ct_kind_of), sl_kind_of⟩)
    (q_kind_of : PySem.W.codeIn K cd_kind_of "kind_of" = true)
    (k_kind_of : PySem.W.keepIn K (.ref f_kind_of) = true)
    (a__law_cell_at : PySem.W.nsIn K mainGlobals "_law_cell_at" = some (some (.ref f__law_cell_at)))
    (l__law_cell_at : K.lookup f__law_cell_at = some ⟨oc__law_cell_at, od__law_cell_at, .func (PySem.W.fnOf "_law_cell_at" "_law_cell_at" (defArgs (top 26)) (defBody (top 26)) (defScope (top 26)) .none kV__law_cell_at dc__law_cell_at pm__law_cell_at an__law_cell_at cd__law_cell_at ct__law_cell_at), sl__law_cell_at⟩)
    (q__law_cell_at : PySem.W.codeIn K cd__law_cell_at "_law_cell_at" = true)
    (k__law_cell_at : PySem.W.keepIn K (.ref f__law_cell_at) = true)
    (a__law_odd : PySem.W.nsIn K mainGlobals "_law_odd" = some (some (.ref f__law_odd)))
    (l__law_odd : K.lookup f__law_odd = some ⟨oc__law_odd, od__law_odd, .func (PySem.W.fnOf "_law_odd" "_law_odd" (defArgs (top 27)) (defBody (top 27)) (defScope (top 27)) .none kV__law_odd dc__law_odd pm__law_odd an__law_odd cd__law_odd ct__law_odd), sl__law_odd⟩)
    (q__law_odd : PySem.W.codeIn K cd__law_odd "_law_odd" = true)
    (k__law_odd : PySem.W.keepIn K (.ref f__law_odd) = true)
    (a__law_due : PySem.W.nsIn K mainGlobals "_law_due" = some (some (.ref f__law_due)))
    (l__law_due : K.lookup f__law_due = some ⟨oc__law_due, od__law_due, .func (PySem.W.fnOf "_law_due" "_law_due" (defArgs (top 28)) (defBody (top 28)) (defScope (top 28)) .none kV__law_due dc__law_due pm__law_due an__law_due cd__law_due ct__law_due), sl__law_due⟩)
    (q__law_due : PySem.W.codeIn K cd__law_due "_law_due" = true)
    (k__law_due : PySem.W.keepIn K (.ref f__law_due) = true)
    (a__law_bool : PySem.W.nsIn K mainGlobals "_law_bool" = some (some (.ref f__law_bool)))
    (l__law_bool : K.lookup f__law_bool = some ⟨oc__law_bool, od__law_bool, .func (PySem.W.fnOf "_law_bool" "_law_bool" (defArgs (top 29)) (defBody (top 29)) (defScope (top 29)) .none kV__law_bool dc__law_bool pm__law_bool an__law_bool cd__law_bool ct__law_bool), sl__law_bool⟩)
    (q__law_bool : PySem.W.codeIn K cd__law_bool "_law_bool" = true)
    (k__law_bool : PySem.W.keepIn K (.ref f__law_bool) = true)
    (a__law_right : PySem.W.nsIn K mainGlobals "_law_right" = some (some (.ref f__law_right)))
    (l__law_right : K.lookup f__law_right = some ⟨oc__law_right, od__law_right, .func (PySem.W.fnOf "_law_right" "_law_right" (defArgs (top 30)) (defBody (top 30)) (defScope (top 30)) .none kV__law_right dc__law_right pm__law_right an__law_right cd__law_right ct__law_right), sl__law_right⟩)
    (q__law_right : PySem.W.codeIn K cd__law_right "_law_right" = true)
    (k__law_right : PySem.W.keepIn K (.ref f__law_right) = true)
    (a_law : PySem.W.nsIn K mainGlobals "law" = some (some (.ref f_law)))
    (l_law : K.lookup f_law = some ⟨oc_law, od_law, .func (PySem.W.fnOf "law" "law" (defArgs (top 31)) (defBody (top 31)) (defScope (top 31)) .none kV_law dc_law pm_law an_law cd_law ct_law), sl_law⟩)
    (q_law : PySem.W.codeIn K cd_law "law" = true)
    (k_law : PySem.W.keepIn K (.ref f_law) = true)
    (z_ValueError : PySem.W.nsIn K mainGlobals "ValueError" = some none)
    (z_bool : PySem.W.nsIn K mainGlobals "bool" = some none)
    (z_isinstance : PySem.W.nsIn K mainGlobals "isinstance" = some none)
    (z_len : PySem.W.nsIn K mainGlobals "len" = some none)
    (z_range : PySem.W.nsIn K mainGlobals "range" = some none)
    (y_BadKind : PySem.W.nsIn K mainGlobals "BadKind" = some (some (.ref c_BadKind)))
    (y_BadName : PySem.W.nsIn K mainGlobals "BadName" = some (some (.ref c_BadName)))
    (y_BadNumber : PySem.W.nsIn K mainGlobals "BadNumber" = some (some (.ref c_BadNumber)))
    (y_BadPhase : PySem.W.nsIn K mainGlobals "BadPhase" = some (some (.ref c_BadPhase)))
    (y_BadSide : PySem.W.nsIn K mainGlobals "BadSide" = some (some (.ref c_BadSide)))
    (y_BourseError : PySem.W.nsIn K mainGlobals "BourseError" = some (some (.ref c_BourseError)))
    (y_Kind : PySem.W.nsIn K mainGlobals "Kind" = some (some (.ref c_Kind)))
    (y_Limit : PySem.W.nsIn K mainGlobals "Limit" = some (some (.ref c_Limit)))
    (y_NoDeed : PySem.W.nsIn K mainGlobals "NoDeed" = some (some (.ref c_NoDeed)))
    (y_NoOrder : PySem.W.nsIn K mainGlobals "NoOrder" = some (some (.ref c_NoOrder)))
    (y_NoSeat : PySem.W.nsIn K mainGlobals "NoSeat" = some (some (.ref c_NoSeat)))
    (y_NoTape : PySem.W.nsIn K mainGlobals "NoTape" = some (some (.ref c_NoTape)))
    (y_NoWare : PySem.W.nsIn K mainGlobals "NoWare" = some (some (.ref c_NoWare)))
    (y_NoWeight : PySem.W.nsIn K mainGlobals "NoWeight" = some (some (.ref c_NoWeight)))
    (y_NotNow : PySem.W.nsIn K mainGlobals "NotNow" = some (some (.ref c_NotNow)))
    (y_Now : PySem.W.nsIn K mainGlobals "Now" = some (some (.ref c_Now)))
    (y_Quiet : PySem.W.nsIn K mainGlobals "Quiet" = some (some (.ref c_Quiet)))
    (y_Ring : PySem.W.nsIn K mainGlobals "Ring" = some (some (.ref c_Ring)))
    (y_Short : PySem.W.nsIn K mainGlobals "Short" = some (some (.ref c_Short)))
    (y_Twice : PySem.W.nsIn K mainGlobals "Twice" = some (some (.ref c_Twice)))
    (y_Unheld : PySem.W.nsIn K mainGlobals "Unheld" = some (some (.ref c_Unheld)))
    (y_Whole : PySem.W.nsIn K mainGlobals "Whole" = some (some (.ref c_Whole)))
    (w_x_BadKind : PySem.W.excIn K c_BadKind [.type "ValueError", .type "Exception", .type "BaseException", .type "object"] "ValueError.__new__" = true)
    (w_e_BadKind : PySem.W.exmOne K (.ref c_BadKind) (.ref c_BourseError) = some true)
    (w_i_BadKind_BadKind : PySem.W.kitOne K (.ref c_BadKind) (.ref c_BadKind) = some true)
    (w_i_BadKind_BadName : PySem.W.kitOne K (.ref c_BadKind) (.ref c_BadName) = some false)
    (w_i_BadKind_BadNumber : PySem.W.kitOne K (.ref c_BadKind) (.ref c_BadNumber) = some false)
    (w_i_BadKind_BadPhase : PySem.W.kitOne K (.ref c_BadKind) (.ref c_BadPhase) = some false)
    (w_i_BadKind_BadSide : PySem.W.kitOne K (.ref c_BadKind) (.ref c_BadSide) = some false)
   
    (w_i_BadKind_NoDeed : PySem.W.kitOne K (.ref c_BadKind) (.ref c_NoDeed) = some false)
    (w_i_BadKind_NoOrder : PySem.W.kitOne K (.ref c_BadKind) (.ref c_NoOrder) = some false)
    (w_i_BadKind_NoSeat : PySem.W.kitOne K (.ref c_BadKind) (.ref c_NoSeat) = some false)
    (w_i_BadKind_NoTape : PySem.W.kitOne K (.ref c_BadKind) (.ref c_NoTape) = some false)
    (w_i_BadKind_NoWare : PySem.W.kitOne K (.ref c_BadKind) (.ref c_NoWare) = some false)
    (w_i_BadKind_NoWeight : PySem.W.kitOne K (.ref c_BadKind) (.ref c_NoWeight) = some false)
    (w_i_BadKind_NotNow : PySem.W.kitOne K (.ref c_BadKind) (.ref c_NotNow) = some false)
    (w_i_BadKind_Ring : PySem.W.kitOne K (.ref c_BadKind) (.ref c_Ring) = some false)
    (w_i_BadKind_Short : PySem.W.kitOne K (.ref c_BadKind) (.ref c_Short) = some false)
    (w_i_BadKind_Twice : PySem.W.kitOne K (.ref c_BadKind) (.ref c_Twice) = some false)
    (w_i_BadKind_Unheld : PySem.W.kitOne K (.ref c_BadKind) (.ref c_Unheld) = some false)
    (w_i_BadKind_ValueError : PySem.W.kitOne K (.ref c_BadKind) (.type "ValueError") = some true)
    (v_BadKind_cls : PySem.W.clsIn K c_BadKind = some xc_BadKind)
    (v_BadKind_ga : PySem.W.findIn K (.ref c_BadKind) "__getattribute__" = some (some (.builtin "BaseException.__getattribute__")))
    (v_BadKind_gt : PySem.W.findIn K (.ref c_BadKind) "__getattr__" = some none)
    (v_BadKind_at_ : PySem.W.findIn K (.ref c_BadKind) "__class__" = some (some (.builtin "object.__class__")))
    (v_BadKind_get : PySem.W.specialIn K (.builtin "object.__class__") "__get__" = some (some (.builtin "getset_descriptor.__get__")))
    (v_BadKind_tk : PySem.W.takesIn K (.builtin "object.__class__") = some true)
    (v_BadKind_obj : PySem.W.mroIn K c_BadKind (.type "object") = some true)
    (v_BadKind_exc : PySem.W.mroIn K c_BadKind (.type "BaseException") = some true)
    (ka_Kind : PySem.W.makesIn K c_Kind = true)
    (kb_Kind : PySem.W.findIn K (.ref c_Kind) "__init__" = some (some (.builtin "object.__init__")))
    (kc_Kind : PySem.W.keepIn K (.ref c_Kind) = true)
    (kd_Kind : PySem.W.plainGet K c_Kind Str.empty = true)
    (ke_Kind : PySem.W.hasDictIn K c_Kind = true)
    (kg_Kind : PySem.W.plainOver K c_Kind = true)
    (kh_Kind : PySem.W.findIn K (.ref c_Kind) "__setattr__" = some (some (.builtin "object.__setattr__")))
    (ki_Kind : PySem.W.findIn K (.ref c_Kind) "__class__" = some (some (.builtin "object.__class__")))
    (kj_Kind : PySem.W.mroIn K c_Kind (.type "object") = some true)
   
   
   
   
   
    (ka_Limit : PySem.W.makesIn K c_Limit = true)
    (kb_Limit : PySem.W.findIn K (.ref c_Limit) "__init__" = some (some (.builtin "object.__init__")))
    (kc_Limit : PySem.W.keepIn K (.ref c_Limit) = true)
    (kd_Limit : PySem.W.plainGet K c_Limit Str.empty = true)
    (ke_Limit : PySem.W.hasDictIn K c_Limit = true)
    (kg_Limit : PySem.W.plainOver K c_Limit = true)
    (kh_Limit : PySem.W.findIn K (.ref c_Limit) "__setattr__" = some (some (.builtin "object.__setattr__")))
    (ki_Limit : PySem.W.findIn K (.ref c_Limit) "__class__" = some (some (.builtin "object.__class__")))
    (kj_Limit : PySem.W.mroIn K c_Limit (.type "object") = some true)
    (kk_Limit_Kind : PySem.W.kitOne K (.ref c_Limit) (.ref c_Kind) = some true)
    (kk_Limit_Limit : PySem.W.kitOne K (.ref c_Limit) (.ref c_Limit) = some true)
   
   
   
    (ka_Now : PySem.W.makesIn K c_Now = true)
    (kb_Now : PySem.W.findIn K (.ref c_Now) "__init__" = some (some (.builtin "object.__init__")))
    (kc_Now : PySem.W.keepIn K (.ref c_Now) = true)
    (kd_Now : PySem.W.plainGet K c_Now Str.empty = true)
    (ke_Now : PySem.W.hasDictIn K c_Now = true)
    (kg_Now : PySem.W.plainOver K c_Now = true)
    (kh_Now : PySem.W.findIn K (.ref c_Now) "__setattr__" = some (some (.builtin "object.__setattr__")))
    (ki_Now : PySem.W.findIn K (.ref c_Now) "__class__" = some (some (.builtin "object.__class__")))
    (kj_Now : PySem.W.mroIn K c_Now (.type "object") = some true)
    (kk_Now_Kind : PySem.W.kitOne K (.ref c_Now) (.ref c_Kind) = some true)
   
    (kk_Now_Now : PySem.W.kitOne K (.ref c_Now) (.ref c_Now) = some true)
   
   
    (ka_Whole : PySem.W.makesIn K c_Whole = true)
    (kb_Whole : PySem.W.findIn K (.ref c_Whole) "__init__" = some (some (.builtin "object.__init__")))
    (kc_Whole : PySem.W.keepIn K (.ref c_Whole) = true)
    (kd_Whole : PySem.W.plainGet K c_Whole Str.empty = true)
    (ke_Whole : PySem.W.hasDictIn K c_Whole = true)
    (kg_Whole : PySem.W.plainOver K c_Whole = true)
    (kh_Whole : PySem.W.findIn K (.ref c_Whole) "__setattr__" = some (some (.builtin "object.__setattr__")))
    (ki_Whole : PySem.W.findIn K (.ref c_Whole) "__class__" = some (some (.builtin "object.__class__")))
    (kj_Whole : PySem.W.mroIn K c_Whole (.type "object") = some true)
    (kk_Whole_Kind : PySem.W.kitOne K (.ref c_Whole) (.ref c_Kind) = some true)
   
   
    (kk_Whole_Whole : PySem.W.kitOne K (.ref c_Whole) (.ref c_Whole) = some true)
   
    (ka_Quiet : PySem.W.makesIn K c_Quiet = true)
    (kb_Quiet : PySem.W.findIn K (.ref c_Quiet) "__init__" = some (some (.builtin "object.__init__")))
    (kc_Quiet : PySem.W.keepIn K (.ref c_Quiet) = true)
    (kd_Quiet : PySem.W.plainGet K c_Quiet Str.empty = true)
    (ke_Quiet : PySem.W.hasDictIn K c_Quiet = true)
    (kg_Quiet : PySem.W.plainOver K c_Quiet = true)
    (kh_Quiet : PySem.W.findIn K (.ref c_Quiet) "__setattr__" = some (some (.builtin "object.__setattr__")))
    (ki_Quiet : PySem.W.findIn K (.ref c_Quiet) "__class__" = some (some (.builtin "object.__class__")))
    (kj_Quiet : PySem.W.mroIn K c_Quiet (.type "object") = some true)
    (kk_Quiet_Kind : PySem.W.kitOne K (.ref c_Quiet) (.ref c_Kind) = some true)
   
   
   
    (kk_Quiet_Quiet : PySem.W.kitOne K (.ref c_Quiet) (.ref c_Quiet) = some true)
    (km_g : PySem.W.specialIn K (.builtin "object.__class__") "__get__" = some (some (.builtin "getset_descriptor.__get__")))
    (km_t : PySem.W.takesIn K (.builtin "object.__class__") = some true)
    (me_Kind_keeps : PySem.W.findIn K (.ref c_Kind) "keeps" = some (some (.ref f_Kind_keeps)))
    (me_Kind_lets : PySem.W.findIn K (.ref c_Kind) "lets" = some (some (.ref f_Kind_lets)))
    (me_Limit_keeps : PySem.W.findIn K (.ref c_Limit) "keeps" = some (some (.ref f_Kind_keeps)))
    (me_Limit_lets : PySem.W.findIn K (.ref c_Limit) "lets" = some (some (.ref f_Kind_lets)))
    (me_Now_keeps : PySem.W.findIn K (.ref c_Now) "keeps" = some (some (.ref f_Now_keeps)))
    (me_Now_lets : PySem.W.findIn K (.ref c_Now) "lets" = some (some (.ref f_Kind_lets)))
    (me_Quiet_keeps : PySem.W.findIn K (.ref c_Quiet) "keeps" = some (some (.ref f_Kind_keeps)))
    (me_Quiet_lets : PySem.W.findIn K (.ref c_Quiet) "lets" = some (some (.ref f_Quiet_lets)))
    (me_Whole_keeps : PySem.W.findIn K (.ref c_Whole) "keeps" = some (some (.ref f_Whole_keeps)))
    (me_Whole_lets : PySem.W.findIn K (.ref c_Whole) "lets" = some (some (.ref f_Whole_lets)))
    (mf_Kind_keeps : PySem.W.isFn K (.ref f_Kind_keeps) = true)
    (mf_Kind_lets : PySem.W.isFn K (.ref f_Kind_lets) = true)
    (mf_Now_keeps : PySem.W.isFn K (.ref f_Now_keeps) = true)
    (mf_Quiet_lets : PySem.W.isFn K (.ref f_Quiet_lets) = true)
    (mf_Whole_keeps : PySem.W.isFn K (.ref f_Whole_keeps) = true)
    (mf_Whole_lets : PySem.W.isFn K (.ref f_Whole_lets) = true)
    : ∃ fd : FuncData, (∀ (s : Shared) (v : Value), BindsTo s fd ⟨[v], []⟩ [("script", v)]) ∧ ∀ base : Heap, K.In base → base.Ns mainGlobals mg → FnOk l.prog w K mg base CX0 2 fa fd ["script"] (sp_law K) := by
  have e := hfa.symm.trans (PySem.W.mg_of X G a_law)
  cases e
  have B : Bl mg := ⟨PySem.W.mg_none_of X G z_ValueError, PySem.W.mg_none_of X G z_bool, PySem.W.mg_none_of X G z_isinstance, PySem.W.mg_none_of X G z_len, PySem.W.mg_none_of X G z_range⟩
  let C : Co mg := ⟨⟩
  let Ad : AdT := ⟨c_BadKind, c_BadName, c_BadNumber, c_BadPhase, c_BadSide, c_BourseError, c_Kind, c_Limit, c_NoDeed, c_NoOrder, c_NoSeat, c_NoTape, c_NoWare, c_NoWeight, c_NotNow, c_Now, c_Quiet, c_Ring, c_Short, c_Twice, c_Unheld, c_Whole⟩
  have R : Er K mg Ad := ⟨PySem.W.mg_of X G y_BadKind, PySem.W.mg_of X G y_BadName, PySem.W.mg_of X G y_BadNumber, PySem.W.mg_of X G y_BadPhase, PySem.W.mg_of X G y_BadSide, PySem.W.mg_of X G y_BourseError, PySem.W.mg_of X G y_Kind, PySem.W.mg_of X G y_Limit, PySem.W.mg_of X G y_NoDeed, PySem.W.mg_of X G y_NoOrder, PySem.W.mg_of X G y_NoSeat, PySem.W.mg_of X G y_NoTape, PySem.W.mg_of X G y_NoWare, PySem.W.mg_of X G y_NoWeight, PySem.W.mg_of X G y_NotNow, PySem.W.mg_of X G y_Now, PySem.W.mg_of X G y_Quiet, PySem.W.mg_of X G y_Ring, PySem.W.mg_of X G y_Short, PySem.W.mg_of X G y_Twice, PySem.W.mg_of X G y_Unheld, PySem.W.mg_of X G y_Whole, w_x_BadKind, w_e_BadKind, w_i_BadKind_BadKind, w_i_BadKind_BadName, w_i_BadKind_BadNumber, w_i_BadKind_BadPhase, w_i_BadKind_BadSide, w_i_BadKind_NoDeed, w_i_BadKind_NoOrder, w_i_BadKind_NoSeat, w_i_BadKind_NoTape, w_i_BadKind_NoWare, w_i_BadKind_NoWeight, w_i_BadKind_NotNow, w_i_BadKind_Ring, w_i_BadKind_Short, w_i_BadKind_Twice, w_i_BadKind_Unheld, w_i_BadKind_ValueError, ⟨(by rw [v_BadKind_cls]; rfl), v_BadKind_ga, v_BadKind_gt, v_BadKind_at_, v_BadKind_get, v_BadKind_tk, v_BadKind_obj, v_BadKind_exc⟩, ⟨ka_Kind, kb_Kind, kc_Kind⟩, ⟨⟨kd_Kind, ke_Kind, kg_Kind, kh_Kind⟩, ki_Kind, km_g, km_t, kj_Kind⟩, ⟨ka_Limit, kb_Limit, kc_Limit⟩, ⟨⟨kd_Limit, ke_Limit, kg_Limit, kh_Limit⟩, ki_Limit, km_g, km_t, kj_Limit⟩, ⟨ka_Now, kb_Now, kc_Now⟩, ⟨⟨kd_Now, ke_Now, kg_Now, kh_Now⟩, ki_Now, km_g, km_t, kj_Now⟩, ⟨ka_Whole, kb_Whole, kc_Whole⟩, ⟨⟨kd_Whole, ke_Whole, kg_Whole, kh_Whole⟩, ki_Whole, km_g, km_t, kj_Whole⟩, ⟨ka_Quiet, kb_Quiet, kc_Quiet⟩, ⟨⟨kd_Quiet, ke_Quiet, kg_Quiet, kh_Quiet⟩, ki_Quiet, km_g, km_t, kj_Quiet⟩, kk_Limit_Kind, kk_Limit_Limit, kk_Now_Kind, kk_Now_Now, kk_Whole_Kind, kk_Whole_Whole, kk_Quiet_Kind, kk_Quiet_Quiet⟩
  let d_Kind_lets : L2.Mv K "lets" "Kind.lets" (sub 19 0) ["self", "crosses", "amount", "wanted"] := ⟨f_Kind_lets, _, fun_mk (st := (sub 19 0)) l_Kind_lets q_Kind_lets k_Kind_lets, (fun_mk (st := (sub 19 0)) l_Kind_lets q_Kind_lets k_Kind_lets).binds fun _ _ _ _ _ _ us hl => ln4 us (fun _ _ _ _ => rfl) hl⟩
  let d_Kind_keeps : L2.Mv K "keeps" "Kind.keeps" (sub 19 1) ["self"] := ⟨f_Kind_keeps, _, fun_mk (st := (sub 19 1)) l_Kind_keeps q_Kind_keeps k_Kind_keeps, (fun_mk (st := (sub 19 1)) l_Kind_keeps q_Kind_keeps k_Kind_keeps).binds fun _ _ _ _ _ _ us hl => ln1 us (fun _ => rfl) hl⟩
  let d_Now_keeps : L2.Mv K "keeps" "Now.keeps" (sub 21 0) ["self"] := ⟨f_Now_keeps, _, fun_mk (st := (sub 21 0)) l_Now_keeps q_Now_keeps k_Now_keeps, (fun_mk (st := (sub 21 0)) l_Now_keeps q_Now_keeps k_Now_keeps).binds fun _ _ _ _ _ _ us hl => ln1 us (fun _ => rfl) hl⟩
  let d_Whole_lets : L2.Mv K "lets" "Whole.lets" (sub 22 0) ["self", "crosses", "amount", "wanted"] := ⟨f_Whole_lets, _, fun_mk (st := (sub 22 0)) l_Whole_lets q_Whole_lets k_Whole_lets, (fun_mk (st := (sub 22 0)) l_Whole_lets q_Whole_lets k_Whole_lets).binds fun _ _ _ _ _ _ us hl => ln4 us (fun _ _ _ _ => rfl) hl⟩
  let d_Whole_keeps : L2.Mv K "keeps" "Whole.keeps" (sub 22 1) ["self"] := ⟨f_Whole_keeps, _, fun_mk (st := (sub 22 1)) l_Whole_keeps q_Whole_keeps k_Whole_keeps, (fun_mk (st := (sub 22 1)) l_Whole_keeps q_Whole_keeps k_Whole_keeps).binds fun _ _ _ _ _ _ us hl => ln1 us (fun _ => rfl) hl⟩
  let d_Quiet_lets : L2.Mv K "lets" "Quiet.lets" (sub 23 0) ["self", "crosses", "amount", "wanted"] := ⟨f_Quiet_lets, _, fun_mk (st := (sub 23 0)) l_Quiet_lets q_Quiet_lets k_Quiet_lets, (fun_mk (st := (sub 23 0)) l_Quiet_lets q_Quiet_lets k_Quiet_lets).binds fun _ _ _ _ _ _ us hl => ln4 us (fun _ _ _ _ => rfl) hl⟩
  let d_kind_of : Dv K mg "kind_of" (top 24) ["word"] := ⟨f_kind_of, _, fun_mk (st := top 24) l_kind_of q_kind_of k_kind_of, (fun_mk (st := top 24) l_kind_of q_kind_of k_kind_of).binds fun _ _ _ _ _ _ us hl => ln1 us (fun _ => rfl) hl, PySem.W.mg_of X G a_kind_of⟩
  let d__law_cell_at : Dv K mg "_law_cell_at" (top 26) ["script", "k"] := ⟨f__law_cell_at, _, fun_mk (st := top 26) l__law_cell_at q__law_cell_at k__law_cell_at, (fun_mk (st := top 26) l__law_cell_at q__law_cell_at k__law_cell_at).binds fun _ _ _ _ _ _ us hl => ln2 us (fun _ _ => rfl) hl, PySem.W.mg_of X G a__law_cell_at⟩
  let d__law_odd : Dv K mg "_law_odd" (top 27) ["cell"] := ⟨f__law_odd, _, fun_mk (st := top 27) l__law_odd q__law_odd k__law_odd, (fun_mk (st := top 27) l__law_odd q__law_odd k__law_odd).binds fun _ _ _ _ _ _ us hl => ln1 us (fun _ => rfl) hl, PySem.W.mg_of X G a__law_odd⟩
  let d__law_due : Dv K mg "_law_due" (top 28) ["word", "crosses", "amount", "wish"] := ⟨f__law_due, _, fun_mk (st := top 28) l__law_due q__law_due k__law_due, (fun_mk (st := top 28) l__law_due q__law_due k__law_due).binds fun _ _ _ _ _ _ us hl => ln4 us (fun _ _ _ _ => rfl) hl, PySem.W.mg_of X G a__law_due⟩
  let d__law_bool : Dv K mg "_law_bool" (top 29) ["found", "due"] := ⟨f__law_bool, _, fun_mk (st := top 29) l__law_bool q__law_bool k__law_bool, (fun_mk (st := top 29) l__law_bool q__law_bool k__law_bool).binds fun _ _ _ _ _ _ us hl => ln2 us (fun _ _ => rfl) hl, PySem.W.mg_of X G a__law_bool⟩
  let d__law_right : Dv K mg "_law_right" (top 30) ["kind", "word"] := ⟨f__law_right, _, fun_mk (st := top 30) l__law_right q__law_right k__law_right, (fun_mk (st := top 30) l__law_right q__law_right k__law_right).binds fun _ _ _ _ _ _ us hl => ln2 us (fun _ _ => rfl) hl, PySem.W.mg_of X G a__law_right⟩
  let d_law : Dv K mg "law" (top 31) ["script"] := ⟨_, _, fun_mk (st := top 31) l_law q_law k_law, (fun_mk (st := top 31) l_law q_law k_law).binds fun _ _ _ _ _ _ us hl => ln1 us (fun _ => rfl) hl, PySem.W.mg_of X G a_law⟩
  refine ⟨d_law.fd, fun s v => .of_eq rfl, fun base _ _ => ?_⟩
  have G_Kind_lets := ok_Kind_lets (P := l.prog) (w := w) (base := base) d_Kind_lets B C R
  have G_Kind_keeps := ok_Kind_keeps (P := l.prog) (w := w) (base := base) d_Kind_keeps B C R
  have G_Now_keeps := ok_Now_keeps (P := l.prog) (w := w) (base := base) d_Now_keeps B C R
  have G_Whole_lets := ok_Whole_lets (P := l.prog) (w := w) (base := base) d_Whole_lets B C R
  have G_Whole_keeps := ok_Whole_keeps (P := l.prog) (w := w) (base := base) d_Whole_keeps B C R
  have G_Quiet_lets := ok_Quiet_lets (P := l.prog) (w := w) (base := base) d_Quiet_lets B C R
  have G_kind_of := ok_kind_of (P := l.prog) (w := w) (base := base) d_kind_of B C R
  have G__law_cell_at := ok__law_cell_at (P := l.prog) (w := w) (base := base) d__law_cell_at B C R
  have G__law_odd := ok__law_odd (P := l.prog) (w := w) (base := base) d__law_odd B C R
  have G__law_due := ok__law_due (P := l.prog) (w := w) (base := base) d__law_due B C R
  have G__law_bool := ok__law_bool (P := l.prog) (w := w) (base := base) d__law_bool B C R
  have G__law_right := ok__law_right (P := l.prog) (w := w) (base := base) d__law_right B C R
  exact ok_law d_law B C R d_Kind_lets G_Kind_lets d_Whole_lets G_Whole_lets d_Quiet_lets G_Quiet_lets d_Kind_keeps G_Kind_keeps d_Now_keeps G_Now_keeps d_Whole_keeps G_Whole_keeps d__law_cell_at G__law_cell_at d_kind_of G_kind_of d__law_right G__law_right d__law_bool G__law_bool d__law_due G__law_due d__law_odd G__law_odd ⟨me_Kind_lets, mf_Kind_lets, k_Kind_lets⟩ ⟨me_Limit_lets, mf_Kind_lets, k_Kind_lets⟩ ⟨me_Now_lets, mf_Kind_lets, k_Kind_lets⟩ ⟨me_Whole_lets, mf_Whole_lets, k_Whole_lets⟩ ⟨me_Quiet_lets, mf_Quiet_lets, k_Quiet_lets⟩ ⟨me_Kind_keeps, mf_Kind_keeps, k_Kind_keeps⟩ ⟨me_Limit_keeps, mf_Kind_keeps, k_Kind_keeps⟩ ⟨me_Now_keeps, mf_Now_keeps, k_Now_keeps⟩ ⟨me_Whole_keeps, mf_Whole_keeps, k_Whole_keeps⟩ ⟨me_Quiet_keeps, mf_Kind_keeps, k_Kind_keeps⟩
theorem walk {l : PySem.W.OpenLaw} {q : Program} {loose : List Str} {XP : (Str → Option Value) → Heap → Prop} {YP : World → Heap → Prop} {d : DefRec} {K : Params → PySem.W.Frag} (hn : l.most = some 63) (hdf : d.params.defaults = [])
    (hY : ∀ (w : World) (h : Heap), YP w h → (K w.params).In h)
    (F : ∀ (w : World) (mg : Str → Option Value) (fa : Addr) (h : Heap), (K w.params).In h → h.Ns mainGlobals mg → mg d.name = some (.ref fa) →
      ∃ fd : FuncData, (∀ (s : Shared) (u : Value), BindsTo s fd ⟨[u], []⟩ [("script", u)]) ∧ ∀ base : Heap, (K w.params).In base → base.Ns mainGlobals mg → FnOk l.prog w (K w.params) mg base CX0 2 fa fd ["script"] (sp_law (K w.params))) :
    PySem.W.WalkO q loose XP YP l.row.toRowW d [] (fun f vs => PySem.call f vs) :=
  L2.walk_of (n := 63) (k := 2) (x := "script") (CX := fun _ => CX0) (sp := fun w => sp_law (K w.params)) hn (by decide) hdf ⟨rfl, by decide, by decide⟩ hY F (fun _ _ a ns hl _ hS => ⟨a, ns, rfl, hS, hl, fun _ => rfl⟩) fun _ _ _ _ _ z => z
end K16
open PySem PySem.W PyProof.Rows
set_option maxRecDepth 100000 in
set_option maxHeartbeats 0 in
theorem PySem.Challenge.cw_bellbook_k16_kinds_holds : PySem.Challenge.rw_bellbook_k16_kinds.Holds := by
  w_on; o_law; k_head; (case hw => w_witness2)
  k_fill
  refine K16.walk (l := PySem.Challenge.rw_bellbook_k16_kinds) rfl rfl (fun w h Y => PySem.W.kIn_of Y) ?F
  case F =>
    intro w mg fa h KX G hmg
    refine' K16.all_mk KX G hmg ?l_Kind_lets ?q_Kind_lets ?k_Kind_lets ?l_Kind_keeps ?q_Kind_keeps ?k_Kind_keeps ?l_Now_keeps ?q_Now_keeps ?k_Now_keeps ?l_Whole_lets ?q_Whole_lets ?k_Whole_lets ?l_Whole_keeps ?q_Whole_keeps ?k_Whole_keeps ?l_Quiet_lets ?q_Quiet_lets ?k_Quiet_lets ?a_kind_of ?l_kind_of ?q_kind_of ?k_kind_of ?a__law_cell_at ?l__law_cell_at ?q__law_cell_at ?k__law_cell_at ?a__law_odd ?l__law_odd ?q__law_odd ?k__law_odd ?a__law_due ?l__law_due ?q__law_due ?k__law_due ?a__law_bool ?l__law_bool ?q__law_bool ?k__law_bool ?a__law_right ?l__law_right ?q__law_right ?k__law_right ?a_law ?l_law ?q_law ?k_law ?z_ValueError ?z_bool ?z_isinstance ?z_len ?z_range ?y_BadKind ?y_BadName ?y_BadNumber ?y_BadPhase ?y_BadSide ?y_BourseError ?y_Kind ?y_Limit ?y_NoDeed ?y_NoOrder ?y_NoSeat ?y_NoTape ?y_NoWare ?y_NoWeight ?y_NotNow ?y_Now ?y_Quiet ?y_Ring ?y_Short ?y_Twice ?y_Unheld ?y_Whole ?w_x_BadKind ?w_e_BadKind ?w_i_BadKind_BadKind ?w_i_BadKind_BadName ?w_i_BadKind_BadNumber ?w_i_BadKind_BadPhase ?w_i_BadKind_BadSide ?w_i_BadKind_NoDeed ?w_i_BadKind_NoOrder ?w_i_BadKind_NoSeat ?w_i_BadKind_NoTape ?w_i_BadKind_NoWare ?w_i_BadKind_NoWeight ?w_i_BadKind_NotNow ?w_i_BadKind_Ring ?w_i_BadKind_Short ?w_i_BadKind_Twice ?w_i_BadKind_Unheld ?w_i_BadKind_ValueError ?v_BadKind_cls ?v_BadKind_ga ?v_BadKind_gt ?v_BadKind_at_ ?v_BadKind_get ?v_BadKind_tk ?v_BadKind_obj ?v_BadKind_exc ?ka_Kind ?kb_Kind ?kc_Kind ?kd_Kind ?ke_Kind ?kg_Kind ?kh_Kind ?ki_Kind ?kj_Kind ?ka_Limit ?kb_Limit ?kc_Limit ?kd_Limit ?ke_Limit ?kg_Limit ?kh_Limit ?ki_Limit ?kj_Limit ?kk_Limit_Kind ?kk_Limit_Limit ?ka_Now ?kb_Now ?kc_Now ?kd_Now ?ke_Now ?kg_Now ?kh_Now ?ki_Now ?kj_Now ?kk_Now_Kind ?kk_Now_Now ?ka_Whole ?kb_Whole ?kc_Whole ?kd_Whole ?ke_Whole ?kg_Whole ?kh_Whole ?ki_Whole ?kj_Whole ?kk_Whole_Kind ?kk_Whole_Whole ?ka_Quiet ?kb_Quiet ?kc_Quiet ?kd_Quiet ?ke_Quiet ?kg_Quiet ?kh_Quiet ?ki_Quiet ?kj_Quiet ?kk_Quiet_Kind ?kk_Quiet_Quiet ?km_g ?km_t ?me_Kind_keeps ?me_Kind_lets ?me_Limit_keeps ?me_Limit_lets ?me_Now_keeps ?me_Now_lets ?me_Quiet_keeps ?me_Quiet_lets ?me_Whole_keeps ?me_Whole_lets ?mf_Kind_keeps ?mf_Kind_lets ?mf_Now_keeps ?mf_Quiet_lets ?mf_Whole_keeps ?mf_Whole_lets
    (case y_BadKind => k_is)
    (case y_BadName => k_is)
    (case y_BadNumber => k_is)
    (case y_BadPhase => k_is)
    (case y_BadSide => k_is)
    (case y_BourseError => k_is)
    (case y_Kind => k_is)
    (case y_Limit => k_is)
    (case y_NoDeed => k_is)
    (case y_NoOrder => k_is)
    (case y_NoSeat => k_is)
    (case y_NoTape => k_is)
    (case y_NoWare => k_is)
    (case y_NoWeight => k_is)
    (case y_NotNow => k_is)
    (case y_Now => k_is)
    (case y_Quiet => k_is)
    (case y_Ring => k_is)
    (case y_Short => k_is)
    (case y_Twice => k_is)
    (case y_Unheld => k_is)
    (case y_Whole => k_is)
    (case me_Kind_keeps => k_is)
    (case me_Kind_lets => k_is)
    (case me_Limit_keeps => k_is)
    (case me_Limit_lets => k_is)
    (case me_Now_keeps => k_is)
    (case me_Now_lets => k_is)
    (case me_Quiet_keeps => k_is)
    (case me_Quiet_lets => k_is)
    (case me_Whole_keeps => k_is)
    (case me_Whole_lets => k_is)
    (case l_Kind_lets => k_is)
    (case q_Kind_lets => k_is)
    (case k_Kind_lets => k_is)
    (case l_Kind_keeps => k_is)
    (case q_Kind_keeps => k_is)
    (case k_Kind_keeps => k_is)
    (case l_Now_keeps => k_is)
    (case q_Now_keeps => k_is)
    (case k_Now_keeps => k_is)
    (case l_Whole_lets => k_is)
    (case q_Whole_lets => k_is)
    (case k_Whole_lets => k_is)
    (case l_Whole_keeps => k_is)
    (case q_Whole_keeps => k_is)
    (case k_Whole_keeps => k_is)
    (case l_Quiet_lets => k_is)
    (case q_Quiet_lets => k_is)
    (case k_Quiet_lets => k_is)
    (case a_kind_of => k_is)
    (case l_kind_of => k_is)
    (case q_kind_of => k_is)
    (case k_kind_of => k_is)
    (case a__law_cell_at => k_is)
    (case l__law_cell_at => k_is)
    (case q__law_cell_at => k_is)
    (case k__law_cell_at => k_is)
    (case a__law_odd => k_is)
    (case l__law_odd => k_is)
    (case q__law_odd => k_is)
    (case k__law_odd => k_is)
    (case a__law_due => k_is)
    (case l__law_due => k_is)
    (case q__law_due => k_is)
    (case k__law_due => k_is)
    (case a__law_bool => k_is)
    (case l__law_bool => k_is)
    (case q__law_bool => k_is)
    (case k__law_bool => k_is)
    (case a__law_right => k_is)
    (case l__law_right => k_is)
    (case q__law_right => k_is)
    (case k__law_right => k_is)
    (case a_law => k_is)
    (case l_law => k_is)
    (case q_law => k_is)
    (case k_law => k_is)
    (case z_ValueError => k_is)
    (case z_bool => k_is)
    (case z_isinstance => k_is)
    (case z_len => k_is)
    (case z_range => k_is)
    (case w_x_BadKind => k_exc)
    (case w_e_BadKind => kts_exm)
    (case w_i_BadKind_BadKind => kit_is)
    (case w_i_BadKind_BadName => kit_is)
    (case w_i_BadKind_BadNumber => kit_is)
    (case w_i_BadKind_BadPhase => kit_is)
    (case w_i_BadKind_BadSide => kit_is)
    (case w_i_BadKind_NoDeed => kit_is)
    (case w_i_BadKind_NoOrder => kit_is)
    (case w_i_BadKind_NoSeat => kit_is)
    (case w_i_BadKind_NoTape => kit_is)
    (case w_i_BadKind_NoWare => kit_is)
    (case w_i_BadKind_NoWeight => kit_is)
    (case w_i_BadKind_NotNow => kit_is)
    (case w_i_BadKind_Ring => kit_is)
    (case w_i_BadKind_Short => kit_is)
    (case w_i_BadKind_Twice => kit_is)
    (case w_i_BadKind_Unheld => kit_is)
    (case w_i_BadKind_ValueError => kit_is)
    (case v_BadKind_cls => k_is)
    (case v_BadKind_ga => k_is)
    (case v_BadKind_gt => k_is)
    (case v_BadKind_at_ => k_is)
    (case v_BadKind_get => k_is)
    (case v_BadKind_tk => k_is)
    (case v_BadKind_obj => k_is)
    (case v_BadKind_exc => k_is)
    (case ka_Kind => k_is)
    (case kb_Kind => k_is)
    (case kc_Kind => k_is)
    (case kd_Kind => k_is)
    (case ke_Kind => k_is)
    (case kg_Kind => k_is)
    (case kh_Kind => k_is)
    (case ki_Kind => k_is)
    (case kj_Kind => k_is)
    (case ka_Limit => k_is)
    (case kb_Limit => k_is)
    (case kc_Limit => k_is)
    (case kd_Limit => k_is)
    (case ke_Limit => k_is)
    (case kg_Limit => k_is)
    (case kh_Limit => k_is)
    (case ki_Limit => k_is)
    (case kj_Limit => k_is)
    (case kk_Limit_Kind => kit_is)
    (case kk_Limit_Limit => kit_is)
    (case ka_Now => k_is)
    (case kb_Now => k_is)
    (case kc_Now => k_is)
    (case kd_Now => k_is)
    (case ke_Now => k_is)
    (case kg_Now => k_is)
    (case kh_Now => k_is)
    (case ki_Now => k_is)
    (case kj_Now => k_is)
    (case kk_Now_Kind => kit_is)
    (case kk_Now_Now => kit_is)
    (case ka_Whole => k_is)
    (case kb_Whole => k_is)
    (case kc_Whole => k_is)
    (case kd_Whole => k_is)
    (case ke_Whole => k_is)
    (case kg_Whole => k_is)
    (case kh_Whole => k_is)
    (case ki_Whole => k_is)
    (case kj_Whole => k_is)
    (case kk_Whole_Kind => kit_is)
    (case kk_Whole_Whole => kit_is)
    (case ka_Quiet => k_is)
    (case kb_Quiet => k_is)
    (case kc_Quiet => k_is)
    (case kd_Quiet => k_is)
    (case ke_Quiet => k_is)
    (case kg_Quiet => k_is)
    (case kh_Quiet => k_is)
    (case ki_Quiet => k_is)
    (case kj_Quiet => k_is)
    (case kk_Quiet_Kind => kit_is)
    (case kk_Quiet_Quiet => kit_is)
    (case km_g => k_is)
    (case km_t => k_is)
    (case mf_Kind_keeps => k_is)
    (case mf_Kind_lets => k_is)
    (case mf_Now_keeps => k_is)
    (case mf_Quiet_lets => k_is)
    (case mf_Whole_keeps => k_is)
    (case mf_Whole_lets => k_is)
