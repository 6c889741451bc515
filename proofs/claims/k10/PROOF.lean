import PyProof.Rows.All
import Wide.All
import OpenK.AllK
import Wide.FinOn
import HandS.Base
import HandS.Call
import HandS.List
import HandS.Comp
import HandS.AnyAll
import HandS.GenList
import PyProof.ConsumeS
import HandS.Walk
import HandS.ForMost
import HandS.IsInst
import HandS.Flow
import HandS.Style
import HandS.Zip
import HandS.Conv
import HandS.Deep
import HandS.TupAny
import HandS.DeepEq
import HandS.Wide
import HandS.Small
import HandS.Nested
import PySem.Challenge.RW_likespite_k10_whole_benches
import HandS.TupSets
import HandS.SetFor
import KE.GoesEnum
import KE.GoesNew
import KE.GoesZip
import KE.GoesMore
import HandS.ExcOwn
import HandS.Lambda
import HandS.ExcIs
import HandS.WordsExc
import HandS.ForExc
import HandS.EndTab
import KE.RegKSuper
import KE.KExcLine
import KE.SortData
import PyProof.P3In
import KE.KSuperObj
import HandS.DictComp
import KE.KDictPairs
import KE.KDictDisplayH
import HandS.ExcField
import HandS.Dict
import KE.SortKeyHeap
import HandS.Sort
import HandS.SortKw
import KE.DataMinMax
import HandS.Property
import KE.KSuper
import KE.KExcSuper
import HandS.ExcSuper
import HandS.TupMul
import HandS.CallLocal
import HandS.DictTup
/-! ## GenAll -/
set_option Elab.async false
set_option linter.all false
set_option maxRecDepth 100000
set_option maxHeartbeats 2000000
/-! all, any of a generator expression of any form: the walked thing, the target, the tests and the element by the layer's own judgements in the generator's frame. -/
namespace Gx
open PySem PySem.Spec PyProof.Rows L2 GxR GenW

/-- the generator's context, built over the state s4 -/
abbrev Cxg (X : Cx) (A : Around) (s : Shared) (H : Hp) (cenv : Env) (fp : List Addr) : Cx :=
  { X with A := A, s_0 := s, H_0 := H, env := cenv, outer := X.stack, stack := cenv :: X.stack, ex := fp, fn := fun _ => false, pn := [], xe := fun _ _ => False }
/-- its environment -/
abbrev genE (X : Cx) (scope : Scope) (C : Addr) (code : Value) : Env := genEnv scope (cloFrom X.env.cells scope.names []) C code builtinsNs X.env
/-- where the generator's code runs -/
abbrev genA (A : Around) (ge : Expr) (it : Addr) (cenv : Env) : Around := A.in1.in1.over (.compLoop ge 0 (.ref it) .none cenv) []

section
variable {X : Cx} {pins : List (Addr × Obj)} {σ : L2.St} {H : Hp} {s : Shared}
theorem gen_start {A : Around} {scope : Scope} {own : List (Str × Nat)} {fp : List Addr} {code it : Value} {go : Obj} {h' : Heap} {gs' : Array GenState} {tk : Nat} (I : Inv X pins σ H s) (ok : BlkOk X.N X.env.scope scope own) (hcell : ∀ y ∈ scope.names, y.2 ≠ .cell)
    (hN : X.N.Nodup) (hfp : ∀ b ∈ fp, FpOk X pins H b ∧ b < s.heap.objs.size) (hA : A.frames = some (genE X scope s.heap.objs.size code :: X.stack)) (hAh : X.calm = true → A.handled = none)
    (hn : h'.Ns s.heap.objs.size (fun y => if y = ".0" then some it else none)) (hs : Heap.SameBut s.heap.objs.size (s.heap.push { cls := .type "frame", data := .dict #[] }) h') (hg : AllBare gs') (hgo : ∀ v, go.data ≠ .cell v) (hgo2 : (h'.push go).get? h'.objs.size = some go) :
    Inv (Cxg X A s H (genE X scope s.heap.objs.size code) fp) [(h'.objs.size, go)] (wipe σ (own.map (·.2))) H { s with heap := h'.push go, gens := gs', toks := tk } := by
  have hfree : ∀ y ∈ scope.names, y.2 = .free → ∃ c, X.env.cells.lookup y.1 = some c := fun y hy e => by
    rcases ok.free y hy e with k | k
    · exact I.ok.has _ (.inl k)
    · exact I.ok.has _ (.inr k)
  have kp0 : ∀ b o, s.heap.get? b = some o → h'.get? b = some o := fun b o e => hs.extBut b o (Nat.ne_of_lt (Heap.lt_size e)) (Heap.get?_push_of_some _ e)
  have kp : ∀ b o, s.heap.get? b = some o → (h'.push go).get? b = some o := fun b o e => Heap.get?_push_of_some _ (kp0 b o e)
  have hsz : h'.objs.size = s.heap.objs.size + 1 := by rw [hs.1, Heap.size_push]
  generalize hcenv : genE X scope s.heap.objs.size code = cenv at hA ⊢
  have hL : cenv.locals = s.heap.objs.size := by rw [← hcenv]; rfl
  have hF : cenv.frame = some cenv.locals := by rw [← hcenv]; rfl
  have hcl : cenv.cells = cloFrom X.env.cells scope.names [] := by rw [← hcenv]; rfl
  have hsc : cenv.scope = scope := by rw [← hcenv]; rfl
  have cm : ∀ {y c}, (y, c) ∈ cloFrom X.env.cells scope.names [] → X.env.cells.lookup y = some c ∧ c < s.heap.objs.size := fun {y c} hm => by
    rcases cloFrom_mem hm with hm | ⟨h1, rfl⟩
    · cases hm
    · obtain ⟨c, hc⟩ := hfree _ h1 rfl
      rw [hc]
      obtain ⟨w, z⟩ := I.cell _ _ hc
      exact ⟨rfl, z.lt⟩
  have mem : ∀ {y c}, cenv.cells.lookup y = some c → X.env.cells.lookup y = some c ∧ c < s.heap.objs.size := fun {y c} e => by
    rw [hcl] at e
    exact cm (PySem.mem_of_lookup e)
  have look : ∀ {y}, scope.names.lookup y = some .free → ∃ c, cenv.cells.lookup y = some c ∧ X.env.cells.lookup y = some c := fun {y} hl => by
    have hy : (y, NameKind.free) ∈ scope.names := PySem.mem_of_lookup hl
    obtain ⟨c', e'⟩ := mem_lookup (cloFrom_has (cells := X.env.cells) (acc := []) hy)
    rw [← hcl] at e'
    exact ⟨c', e', (mem e').1⟩
  have okB : (Cxg X A s H cenv fp).Ok := by
    refine ⟨I.ok.mod, by show cenv.scope.kind = _; rw [hsc]; exact ok.kind, by show cenv.globals = _; rw [← hcenv]; exact I.ok.glob, by show cenv.builtins = _; rw [← hcenv]; rfl, by show s.heap.objs.size ≤ cenv.locals; rw [hL]; exact Nat.le_refl _,
      fun y z c e1 e2 => I.ok.inj y z c (mem e1).1 (mem e2).1, fun y hy => ?_, (fun y c z e => by cases z), hAh, hA, .inr ⟨rfl, hF⟩, fun b hb => ⟨?_, fun y c e z => ?_⟩, I.bs, Nat.le_trans I.ok.bsz I.sz, fun b o e hb => ?_, fun b hb z => ?_, I.stack, I.stkFree⟩
    · show ∃ c, cenv.cells.lookup y = some c
      have key : ∀ k, cenv.kindOf y = some k → (k = .cell ∨ k = .free) → ∃ c, cenv.cells.lookup y = some c := fun k hk hk' => by
        unfold Env.kindOf at hk
        rw [hsc] at hk
        rcases hk' with rfl | rfl
        · exact absurd rfl (hcell _ (PySem.mem_of_lookup hk))
        · obtain ⟨c, h1, _⟩ := look hk
          exact ⟨c, h1⟩
      rcases hy with hy | hy
      · exact key _ hy (.inl rfl)
      · exact key _ hy (.inr rfl)
    · show b ≠ cenv.locals
      rw [hL]; exact Nat.ne_of_lt (hfp b hb).2
    · exact (hfp b hb).1.2.2.2.2.1 y c (mem e).1 z
    · rcases (hfp b hb).1.2.2.2.1 with z | z
      · exact I.ok.noex b o e z
      · exact absurd (Nat.lt_of_lt_of_le (Heap.lt_size e) (Nat.le_trans I.ok.bsz z)) (Nat.lt_irrefl _)
    · rcases List.mem_cons.mp (I.stkSub b z) with z | z
      · exact (hfp b hb).1.2.1 z
      · exact (hfp b hb).1.2.2.1 z
  refine ⟨okB, rfl, hg, Un.kept kp, ⟨_, (by show Heap.Ns _ cenv.locals _; rw [hL]; exact hn.push _), fun i y av e1 e2 e3 => ?_⟩, fun y c e => ?_, ?_, fun y c e => ?_, fun p hp => ?_, I.hok.kept kp, by rw [wipe_length]; exact I.len⟩
  · obtain ⟨e2, hne⟩ := wipe_some e2
    have hfr : scope.names.lookup y = some .free := by
      have key : ∀ k, cenv.scope.names.lookup y = some k → k = .local ∨ k = .cell ∨ k = .free → scope.names.lookup y = some .free := fun k hk hk' => by
        rw [hsc] at hk
        have no : ¬ (k = .local ∨ k = .cell) := fun hh => by
          rcases ok.own _ (PySem.mem_of_lookup hk) hh with e' | e'
          · obtain ⟨p, hp, hpy⟩ := List.mem_map.mp e'
            have e3 := ok.ix p hp
            have : p.1 = y := hpy
            rw [this] at e3
            exact hne (List.mem_map.mpr ⟨p, hp, nodup_ix hN e3 e1⟩)
          · exact e' (List.mem_of_getElem? e1)
        rcases hk' with rfl | rfl | rfl
        · exact absurd (.inl rfl) no
        · exact absurd (.inr rfl) no
        · exact hk
      have e3 : Vis cenv.scope y := e3
      rcases e3 with e3 | e3 | e3
      · exact key _ e3 (.inl rfl)
      · exact key _ e3 (.inr (.inl rfl))
      · exact key _ e3 (.inr (.inr rfl))
    obtain ⟨m, hn, hl⟩ := I.loc
    have hvis : Vis X.env.scope y := (ok.free _ (PySem.mem_of_lookup hfr) rfl).elim (fun k => .inr (.inl k)) (fun k => .inr (.inr k))
    obtain ⟨w, r, q⟩ := hl i y av e1 e2 hvis
    refine ⟨w, r, .inr ⟨.inr (by show cenv.scope.names.lookup y = _; rw [hsc]; exact hfr), ?_⟩⟩
    obtain ⟨c, h1, h2⟩ := look hfr
    rcases q with ⟨k, _⟩ | ⟨_, c', e', z⟩
    · have k : X.env.scope.names.lookup y = some .local := k
      rcases ok.free _ (PySem.mem_of_lookup hfr) rfl with k' | k' <;> rw [show X.env.scope.names.lookup y = _ from k'] at k <;> cases k
    · rw [h2] at e'; cases e'
      exact ⟨c, h1, z.keeps kp⟩
  · obtain ⟨w, z⟩ := I.cell y c (mem e).1
    exact ⟨w, z.keeps kp⟩
  · show H cenv.locals = none
    rw [hL]; exact I.hok.fresh (Nat.le_refl _)
  · exact I.freeC y c (mem e).1
  · have hp' : p = (h'.objs.size, go) := by
      rcases List.mem_append.mp (show p ∈ ([] : List (Addr × Obj)) ++ [(h'.objs.size, go)] from hp) with z | z
      · cases z
      · exact List.mem_singleton.mp z
    subst hp'
    have big : s.heap.objs.size ≤ h'.objs.size := by omega
    refine ⟨hgo2, I.hok.fresh big, ?_, fun z => ?_, hgo⟩
    · show h'.objs.size ≠ cenv.locals
      rw [hL, hsz]; exact Nat.succ_ne_self _
    · rcases List.mem_cons.mp (I.stkSub _ z) with z | z
      · exact (Nat.ne_of_gt (Nat.lt_of_lt_of_le I.lt big)) z
      · exact I.nofs big z
end

/-- while the generator sleeps -/
structure Asleep (s s' : Shared) : Prop where
  os : s'.os = s.os
  bare : AllBare s'.gens
  keep : ∀ b o, s.heap.get? b = some o → s'.heap.get? b = some o
theorem Inv.slept {X : Cx} {pins : List (Addr × Obj)} {σ : L2.St} {H : Hp} {s s' : Shared} (I : Inv X pins σ H s) (z : Asleep s s') : Inv X pins σ H s' :=
  I.call' (ch := []) z.os (Un.kept z.keep) (I.hok.kept z.keep) z.bare fun b hb => by simp at hb

/-- what a generator is: its context, its iterator, its turns -/
structure GD where
  X : Cx
  a : Addr
  g : Nat
  go : Obj
  fp : List Addr
  it : Addr
  A : Around
  σ : L2.St
  tn : Nat → Heap → Prop
  W : Nat → Nat → Hp → Prop
  Yd : Nat → Nat → V → Hp → Prop
  Qs : Hp → Prop
abbrev GD.pins (D : GD) : List (Addr × Obj) := [(D.a, D.go)]
/-- at rest ahead of turn i -/
structure GD.at (D : GD) (i : Nat) (H : Hp) (s : Shared) : Prop where
  inv : Inv D.X D.pins D.σ H s
  st : D.tn i s.heap
  fpn : ∀ b ∈ D.fp, H b = none
def GD.R (D : GD) : Nat → Shared → Shared → Prop := fun _ _ s => ∃ H, Inv D.X D.pins D.σ H s ∧ (∀ b ∈ D.fp, H b = none) ∧ D.Qs H
def GD.Y (D : GD) : Protocol := fun n _ v s kap =>
  ∃ i m y H, m ≤ n + 1 ∧ D.at (i + 1) H s ∧ RelV y v ∧ D.Yd i m y H ∧ ∀ s'', Asleep s s'' → ∀ m', m' < m → D.W (i + 1) m' H → kap (.send .none) s''
abbrev GD.end (D : GD) : GenEnd := fun n s₀ r s₁ => r = .ok .next ∧ D.R n s₀ s₁
theorem GD.at.slept {D : GD} {i : Nat} {H : Hp} {s s' : Shared} (h : D.at i H s) (hT : ∀ i h h', D.tn i h → (∀ b ∈ D.fp, ∀ o, h.get? b = some o → h'.get? b = some o) → D.tn i h') (z : Asleep s s') : D.at i H s' :=
  ⟨Inv.slept h.inv z, hT _ _ _ h.st fun b _ o e => z.keep b o e, h.fpn⟩
/-- the turns' wish -/
structure GD.Ok (D : GD) (elt tg iter : Expr) (ifs : List Expr) (scope : Scope) (gpos : Pos) (J : It) (g : TG) (tt : TT) (te : TE) (vs : List Nat) : Prop where
  over : D.A.over (.compLoop (.GeneratorExp elt [⟨tg, iter, ifs, 0⟩] scope gpos) 0 (.ref D.it) .none D.X.env) [] = D.X.A
  overS : D.A.over (.compStart (.GeneratorExp elt [⟨tg, iter, ifs, 0⟩] scope gpos) 0 (.ref D.it) .none D.X.env) [] = D.X.A
  xe : D.X.xe = fun _ _ => False
  calm : D.X.calm = true
  co : D.X.env.scope.isCoroutine = false
  ex : D.X.ex = D.fp
  pn : D.X.pn = []
  apin : ∀ b ∈ D.fp, b ≠ D.a
  turn : Turn D.X.prog D.X.w D.X.K tg J D.fp D.it D.tn
  pg : PG D.X tg g
  pt : PTs D.X ifs tt
  pe : PE D.X elt te
  wiped : wipe D.σ vs = D.σ
  step : ∀ i m H, D.W i m H → (J.stop i H ∧ D.Qs H) ∨ (J.go i H ∧ 0 < m ∧ ∃ (Ny : V → Hp → Prop) (Nn : Hp → Prop), (∀ y H', Ny y H' → D.Yd i m y H') ∧ (∀ H', Nn H' → ∃ m', m' < m ∧ D.W (i + 1) m' H') ∧ ∀ x H', J.yld i H x H' → g x D.σ H' fun σ2 H2 => wipe σ2 vs = D.σ ∧ tt σ2 H2 fun b H3 =>
    if b = true then te σ2 H3 Ny else Nn H3)
section
variable {D : GD} {elt tg iter : Expr} {ifs : List Expr} {scope : Scope} {gpos : Pos} {J : It} {g : TG} {tt : TT} {te : TE} {vs : List Nat}
theorem GD.Ok.fpok (o : D.Ok elt tg iter ifs scope gpos J g tt te vs) {σ' : L2.St} {H' : Hp} {s' : Shared} (I : Inv D.X D.pins σ' H' s') (hn : ∀ b ∈ D.fp, H' b = none) : ∀ b ∈ D.fp, FpOk D.X D.pins H' b := fun b hb =>
  ⟨hn b hb, (I.ok.exf b (by rw [o.ex]; exact hb)).1, I.ok.exfs b (by rw [o.ex]; exact hb), .inl (by rw [o.ex]; exact hb), fun x c e => (I.ok.exf b (by rw [o.ex]; exact hb)).2 x c e, fun p hp => by
    rw [o.pn] at hp
    have e : p = (D.a, D.go) := List.mem_singleton.mp hp
    rw [e]
    exact (o.apin b hb).symm⟩
theorem seg_turns (o : D.Ok elt tg iter ifs scope gpos J g tt te vs) : ∀ (m n i : Nat) (s₀ s : Shared) (H : Hp), m ≤ n → D.W i m H → D.at i H s →
    Seg (model D.X.prog D.X.w) D.A D.end D.Y n s₀ (.compLoop (.GeneratorExp elt [⟨tg, iter, ifs, 0⟩] scope gpos) 0 (.ref D.it) .none D.X.env) ((model D.X.prog D.X.w).den (.compLoop (.GeneratorExp elt [⟨tg, iter, ifs, 0⟩] scope gpos) 0 (.ref D.it) .none D.X.env)) [] s := by
  intro m
  induction m using Nat.strongRecOn with
  | ind m ih =>
    intro n i s₀ s H hmn w hat
    show Seg _ D.A _ _ _ s₀ _ ((compTurn (.GeneratorExp elt [⟨tg, iter, ifs, 0⟩] scope gpos) 0 (.ref D.it) .none D.X.env).onRaise (leaving D.X.env)) [] s
    rw [compTurn_gen, Sem.onRaise_eq_wrap]
    refine seg_bind_wrap (wpAny_standAt ?_)
    refine seg_bind_wrap ?_
    rw [o.over]
    rcases o.step i m H w with ⟨stop, qs⟩ | ⟨go, hm0, Ny, Nn, hNy, hNn, step⟩
    · refine thnF (o.turn.done D.X rfl rfl rfl o.calm i D.pins s D.σ H (fun _ _ => False) hat.inv (o.fpok hat.inv hat.fpn) hat.st stop) fun r s1 ⟨hr, I1⟩ => ?_
      subst hr
      exact seg_end (.ok .next) ⟨rfl, H, I1, hat.fpn, qs⟩
    · refine thnF (o.turn.item D.X rfl rfl rfl o.calm i D.pins s D.σ H (fun _ _ => False) hat.inv (o.fpok hat.inv hat.fpn) hat.st go) fun r s1 ⟨u, hr, h1⟩ => ?_
      subst hr
      refine seg_bind_wrap ?_
      rw [o.over]
      refine thnF h1 fun _ s2 ⟨x, H2, I2, r2, y2, st2, n2⟩ => ?_
      have I2' := I2.pinned (o.fpok I2 n2) (o.turn.obj _ _ st2)
      have noX : ∀ {α : Type} {t : Sem α} {Q : α → Shared → Prop} {s'} {E : Value → Shared → Prop}, wpAny (model D.X.prog D.X.w) D.X.A t Q D.X.xe s' → wpAny (model D.X.prog D.X.w) D.X.A t Q E s' := fun {α t Q s' E} h =>
        wpAny_mono h (fun _ _ z => z) fun _ _ z => by rw [o.xe] at z; exact z.elim
      refine seg_bind_wrap ?_
      rw [o.over]
      refine thn (noX (o.pg.run _ s2 _ H2 x u _ I2' r2 (step x H2 y2))) fun _ s3 ⟨σ3, H3, I3, hw3, q3⟩ => ?_
      refine seg_bind_wrap ?_
      rw [o.over]
      refine thn (noX (o.pt.run _ s3 σ3 H3 _ I3 q3)) fun b s4 ⟨H4, I4, q4⟩ => ?_
      have fin : ∀ {s' : Shared} {H' : Hp}, Inv D.X (D.pins ++ pinsAt D.fp s2.heap) σ3 H' s' → D.at (i + 1) H' s' := fun {s' H'} I' => by
        have pin' : ∀ b ∈ D.fp, ∀ ob, s2.heap.get? b = some ob → s'.heap.get? b = some ob ∧ H' b = none := fun b hb ob e =>
          let z := I'.pin (b, ob) (List.mem_append_right _ (List.mem_append_right _ (mem_pinsAt hb e)))
          ⟨z.1, z.2.1⟩
        have hl : D.σ.length = σ3.length := by rw [← hw3, wipe_length]
        refine ⟨(I'.unpinned (pins := D.pins)).weak hl (fun j v e => ?_), o.turn.keep _ _ _ st2 fun b hb ob e => (pin' b hb ob e).1, fun b hb => ?_⟩
        · rw [← hw3] at e
          exact (wipe_some e).1
        · obtain ⟨ob, e, _⟩ := o.turn.obj _ _ st2 b hb
          exact (pin' b hb ob e).2
      cases b with
      | false =>
        simp only [Bool.false_eq_true, if_false] at q4 ⊢
        obtain ⟨m', hm, w'⟩ := hNn _ q4
        have hz := ih m' hm n (i + 1) s₀ s4 H4 (by omega) w' (fin I4)
        exact seg_again rfl hz
      | true =>
        simp only [if_true] at q4 ⊢
        have hy : ∀ v, yieldOut D.X.env v = yieldValue v := fun v => by simp only [yieldOut, o.co, Bool.false_eq_true, if_false]
        simp only [hy]
        rw [Sem.bind_eq_wrap', Sem.bind_eq_wrap', Sem.wrap_wrap, Sem.wrap_wrap]
        refine seg_wrap ?_
        rw [o.over]
        refine thn (noX (o.pe.run _ s4 σ3 H4 _ I4 q4)) fun v s5 ⟨yv, H5, I5, r5, yd⟩ => ?_
        obtain ⟨n, rfl⟩ : ∃ k, n = k + 1 := ⟨n - 1, by omega⟩
        have hfin := fin I5
        refine seg_at (seg_yield rfl rfl rfl ⟨i, m, yv, H5, hmn, hfin, r5, hNy _ _ yd, fun s'' hal m' hm' w' => ?_⟩)
        have hz := ih m' hm' n (i + 1) s'' s'' H5 (by omega) w' (hfin.slept o.turn.keep hal)
        exact seg_again rfl hz
theorem seg_first (o : D.Ok elt tg iter ifs scope gpos J g tt te vs) {m n i : Nat} {s₀ s : Shared} {H : Hp} (hmn : m ≤ n) (w : D.W i m H) (hat : D.at i H s) :
    Seg (model D.X.prog D.X.w) D.A D.end D.Y n s₀ (.compStart (.GeneratorExp elt [⟨tg, iter, ifs, 0⟩] scope gpos) 0 (.ref D.it) .none D.X.env) ((model D.X.prog D.X.w).den (.compStart (.GeneratorExp elt [⟨tg, iter, ifs, 0⟩] scope gpos) 0 (.ref D.it) .none D.X.env)) [] s := by
  have loop := seg_turns o m n i s₀ s H hmn w hat
  show Seg _ D.A _ _ _ s₀ _ ((compStart (.GeneratorExp elt [⟨tg, iter, ifs, 0⟩] scope gpos) 0 (.ref D.it) .none D.X.env).onRaise (leaving D.X.env)) [] s
  have hov := o.overS
  unfold compStart
  rw [Sem.onRaise_eq_wrap]
  show Seg _ D.A _ _ _ s₀ _ ((ask >>= _).wrap _ _ _ _) [] s
  refine seg_bind_wrap (wpAny_askSetting ?_)
  have self : ∀ {Q : Value → Shared → Prop} {E : Value → Shared → Prop}, Q (.ref D.it) s → wpAny (model D.X.prog D.X.w) D.X.A (pyIter (.ref D.it)) Q E s := fun hq => o.turn.self D.X.A i s _ _ hat.st hq
  split
  · exact seg_again rfl loop
  · first
      | exact seg_bind_wrap (wpAny_rule (seg_bind_wrap (wpAny_standAt (seg_bind_wrap (by rw [hov]; exact self (seg_again rfl loop))))))
      | (refine seg_bind_wrap (wpAny_rule ?_); show Seg _ D.A _ _ _ s₀ _ ((standAt iter.pos >>= _).wrap _ _ _ _) [] s; exact seg_bind_wrap (wpAny_standAt (seg_bind_wrap (by rw [hov]; exact self (seg_again rfl loop)))))
/-- ready for a next: at most n items more -/
structure GD.Ready (D : GD) (n i m : Nat) (H : Hp) (s : Shared) : Prop where
  at_ : D.at i H s
  le : m ≤ n
  gs : ∃ gs, s.gens[D.g]? = some gs ∧ ∀ s'', Asleep s s'' → gs.Goes (model D.X.prog D.X.w) D.A D.end D.Y n (.send .none) s''
theorem gen_ready (o : D.Ok elt tg iter ifs scope gpos J g tt te vs) {m n i : Nat} {s : Shared} {H : Hp} (hmn : m ≤ n) (w : D.W i m H) (hat : D.at i H s) (hgs : s.gens[D.g]? = some (.fresh (.compStart (.GeneratorExp elt [⟨tg, iter, ifs, 0⟩] scope gpos) 0 (.ref D.it) .none D.X.env))) : D.Ready n i m H s :=
  ⟨hat, hmn, _, hgs, fun s'' z => ⟨rfl, seg_first o hmn w (hat.slept o.turn.keep z)⟩⟩
theorem allBare_set {s : Shared} {g : Nat} {x : GenState} (h : AllBare s.gens) (hx : x.bare = true) : AllBare (s.setGen g x).gens := allBare_setGen h hx
theorem gen_next (o : D.Ok elt tg iter ifs scope gpos J g tt te vs) {A : Around} (hA : A.in1 = D.A) {n i m : Nat} {s : Shared} {H : Hp} {Q : Option Value → Shared → Prop} {E : Value → Shared → Prop} (hd : A.depth < recursionLimit) (hh : A.handled = none)
    (hgen : ∀ h : Heap, h.get? D.a = some D.go → h.IsGen D.a D.g) (r : D.Ready n i m H s)
    (hS : ∀ s' H', Inv D.X D.pins D.σ H' s' → (∀ b ∈ D.fp, H' b = none) → D.Qs H' → Q none s')
    (hI : ∀ v y i' m' H' s', RelV y v → D.at (i' + 1) H' s' → D.Yd i' m' y H' → (∀ m'', m'' < m' → D.W (i' + 1) m'' H' → 0 < n ∧ D.Ready (n - 1) (i' + 1) m'' H' s') → Q (some v) s') :
    wpAny (model D.X.prog D.X.w) A (pyNext (.ref D.a)) Q E s := by
  obtain ⟨hat, hmn, gs, hgs, hgo⟩ := r
  have hgl : D.g < s.gens.size := (Array.getElem?_eq_some_iff.mp hgs).1
  have pinG : ∀ {σ' H' s'}, Inv D.X D.pins σ' H' s' → s'.heap.get? D.a = some D.go := fun {σ' H' s'} I => (I.pin (D.a, D.go) (List.mem_append_right _ (List.mem_singleton.mpr rfl))).1
  refine wpAny_gsz (n := D.g + 1) hgl (wpAny_pyNext_genexpQ (P := D.R) hh hat.inv.nolimit hd (hgen _ (pinG hat.inv)) hgs (by rw [hA]; exact hgo _ ⟨rfl, allBare_set hat.inv.bare rfl, fun _ _ e => e⟩) (fun v s₁ gs' hb hv => ?_) (fun s₁ hp h' hk => ?_))
  · intro hsz
    obtain ⟨i', m', y, H', hm', hat', ry, yd, kap⟩ := hv
    have hsz1 : D.g < s₁.gens.size := by
      have q : (s₁.setGen D.g gs').gens.size = s₁.gens.size := setGen_size _ _ _
      have hsz' : D.g + 1 ≤ (s₁.setGen D.g gs').gens.size := hsz
      omega
    have z1 : Asleep s₁ (s₁.setGen D.g gs') := ⟨rfl, allBare_set hat'.inv.bare hb, fun _ _ e => e⟩
    refine hI v y i' m' H' _ ry (hat'.slept o.turn.keep z1) yd fun m'' hm'' w'' => ?_
    cases n with
    | zero => exact (kap _ z1 m'' hm'' w'').elim
    | succ n =>
      refine ⟨Nat.succ_pos _, hat'.slept o.turn.keep z1, by simp only [Nat.add_sub_cancel] at hm' ⊢; omega, gs', setGen_at hsz1, fun s'' z => ?_⟩
      have z2 : Asleep s₁ s'' := ⟨z.os, z.bare, fun b ob e => z.keep b ob e⟩
      have := kap s'' z2 m'' hm'' w''
      rw [hA] at this
      exact this
  · intro _
    obtain ⟨H', I', fn', q'⟩ := hp
    exact hS _ H' (Inv.slept I' ⟨rfl, allBare_set (s := s₁) I'.bare rfl, hk⟩) fn' q'
end
end Gx

/-! ## GenAll2 -/
set_option Elab.async false
set_option linter.all false
set_option maxRecDepth 100000
set_option maxHeartbeats 2000000
namespace Gx
open PySem PySem.Spec PyProof.Rows L2 GxR GenW

theorem wipe_in {σ : L2.St} {i : Nat} : ∀ {vs : List Nat}, i ∈ vs → (wipe σ vs)[i]? = if i < σ.length then some none else none
  | v :: vs, h => by
    unfold wipe
    by_cases hv : v = i
    · subst hv
      by_cases hl : v < σ.length
      · rw [List.getElem?_set_self (by rw [wipe_length]; exact hl), if_pos hl]
      · rw [List.getElem?_eq_none (by rw [List.length_set, wipe_length]; omega), if_neg hl]
    · rw [List.getElem?_set_ne hv]
      exact wipe_in ((List.mem_cons.mp h).resolve_left fun e => hv e.symm)
theorem wipe_wipe (σ : L2.St) (vs : List Nat) : wipe (wipe σ vs) vs = wipe σ vs := by
  apply List.ext_getElem?
  intro i
  by_cases h : i ∈ vs
  · rw [wipe_in h, wipe_in h, wipe_length]
  · rw [wipe_out h, wipe_out h]
/-- what all and any wish of an item: want is the truth that ends the walk -/
def YdB (W : Nat → Nat → Hp → Prop) (want : Bool) (Qf : Hp → Prop) : Nat → Nat → V → Hp → Prop := fun i m y H => ∃ c, y = .bl c ∧ if c = want then Qf H else ∃ m', m' < m ∧ W (i + 1) m' H
section
variable {D : GD} {elt tg iter : Expr} {ifs : List Expr} {scope : Scope} {gpos : Pos} {J : It} {g : TG} {tt : TT} {te : TE} {vs : List Nat}
theorem all_loop (o : D.Ok elt tg iter ifs scope gpos J g tt te vs) {A : Around} (hA : A.in1.in1 = D.A) (hd : A.depth < recursionLimit) (hh : A.handled = none) (hgen : ∀ h : Heap, h.get? D.a = some D.go → h.IsGen D.a D.g)
    {Qf : Hp → Prop} (hY : D.Yd = YdB D.W false Qf) {R : Result → Shared → Prop} (hT : ∀ s' H', Inv D.X D.pins D.σ H' s' → (∀ b ∈ D.fp, H' b = none) → D.Qs H' → R (.ok (.ret (.bool true))) s') (hF : ∀ s' H', Inv D.X D.pins D.σ H' s' → (∀ b ∈ D.fp, H' b = none) → Qf H' → R (.ok (.ret (.bool false))) s') :
    ∀ (n i m : Nat) (s : Shared) (H : Hp), D.Ready n i m H s → codeAny (model D.X.prog D.X.w) A (.builtin "all.loop" ⟨[.ref D.a], []⟩) R s := by
  intro n
  induction n with
  | zero =>
    intro i m s H r
    refine codeAny_builtin F.entry_all_loop ?_
    rw [Around.under_plainId F.plain_all_loop _]
    show wpAny _ A.in1 (pyNext (.ref D.a) >>= _) _ _ s
    refine wpAny_bind (gen_next o (A := A.in1) hA hd hh hgen r (fun s' H' I' f' q' => ?_) (fun v y i' m' H' s' ry hat yd rd => ?_))
    · exact wpAny_bind (wpAny_rule (wpAny_pure (hT s' H' I' f' q')))
    · rw [hY] at yd
      obtain ⟨c, rfl, q⟩ := yd
      obtain rfl : v = Value.bool c := ry
      refine wpAny_bind (wpAny_holding (wpAny_truthy_bool ?_))
      refine wpAny_bind (wpAny_letGo ?_)
      cases c with
      | true =>
        rw [if_neg (by decide)] at q
        obtain ⟨m'', hm, w⟩ := q
        exact absurd (rd m'' hm w).1 (Nat.lt_irrefl _)
      | false =>
        simp only [Bool.false_eq_true, if_false]
        exact wpAny_bind (wpAny_rule (wpAny_pure (hF s' H' hat.inv hat.fpn (by simpa using q))))
  | succ n ih =>
    intro i m s H r
    refine codeAny_builtin F.entry_all_loop ?_
    rw [Around.under_plainId F.plain_all_loop _]
    show wpAny _ A.in1 (pyNext (.ref D.a) >>= _) _ _ s
    refine wpAny_bind (gen_next o (A := A.in1) hA hd hh hgen r (fun s' H' I' f' q' => ?_) (fun v y i' m' H' s' ry hat yd rd => ?_))
    · exact wpAny_bind (wpAny_rule (wpAny_pure (hT s' H' I' f' q')))
    · rw [hY] at yd
      obtain ⟨c, rfl, q⟩ := yd
      obtain rfl : v = Value.bool c := ry
      refine wpAny_bind (wpAny_holding (wpAny_truthy_bool ?_))
      refine wpAny_bind (wpAny_letGo ?_)
      cases c with
      | true =>
        rw [if_neg (by decide)] at q
        obtain ⟨m'', hm, w⟩ := q
        simp only [if_true]
        exact wpAny_pure ⟨plainId_quiet F.plain_all_loop _, ih _ _ _ _ (rd m'' hm w).2⟩
      | false =>
        simp only [Bool.false_eq_true, if_false]
        exact wpAny_bind (wpAny_rule (wpAny_pure (hF s' H' hat.inv hat.fpn (by simpa using q))))
theorem any_loop (o : D.Ok elt tg iter ifs scope gpos J g tt te vs) {A : Around} (hA : A.in1.in1 = D.A) (hd : A.depth < recursionLimit) (hh : A.handled = none) (hgen : ∀ h : Heap, h.get? D.a = some D.go → h.IsGen D.a D.g)
    {Qf : Hp → Prop} (hY : D.Yd = YdB D.W true Qf) {R : Result → Shared → Prop} (hT : ∀ s' H', Inv D.X D.pins D.σ H' s' → (∀ b ∈ D.fp, H' b = none) → D.Qs H' → R (.ok (.ret (.bool false))) s') (hF : ∀ s' H', Inv D.X D.pins D.σ H' s' → (∀ b ∈ D.fp, H' b = none) → Qf H' → R (.ok (.ret (.bool true))) s') :
    ∀ (n i m : Nat) (s : Shared) (H : Hp), D.Ready n i m H s → codeAny (model D.X.prog D.X.w) A (.builtin "any.loop" ⟨[.ref D.a], []⟩) R s := by
  intro n
  induction n with
  | zero =>
    intro i m s H r
    refine codeAny_builtin F.entry_any_loop ?_
    rw [Around.under_plainId F.plain_any_loop _]
    show wpAny _ A.in1 (pyNext (.ref D.a) >>= _) _ _ s
    refine wpAny_bind (gen_next o (A := A.in1) hA hd hh hgen r (fun s' H' I' f' q' => ?_) (fun v y i' m' H' s' ry hat yd rd => ?_))
    · exact wpAny_bind (wpAny_rule (wpAny_pure (hT s' H' I' f' q')))
    · rw [hY] at yd
      obtain ⟨c, rfl, q⟩ := yd
      obtain rfl : v = Value.bool c := ry
      refine wpAny_bind (wpAny_holding (wpAny_truthy_bool ?_))
      refine wpAny_bind (wpAny_letGo ?_)
      cases c with
      | false =>
        rw [if_neg (by decide)] at q
        obtain ⟨m'', hm, w⟩ := q
        exact absurd (rd m'' hm w).1 (Nat.lt_irrefl _)
      | true =>
        simp only [if_true]
        exact wpAny_bind (wpAny_rule (wpAny_pure (hF s' H' hat.inv hat.fpn (by simpa using q))))
  | succ n ih =>
    intro i m s H r
    refine codeAny_builtin F.entry_any_loop ?_
    rw [Around.under_plainId F.plain_any_loop _]
    show wpAny _ A.in1 (pyNext (.ref D.a) >>= _) _ _ s
    refine wpAny_bind (gen_next o (A := A.in1) hA hd hh hgen r (fun s' H' I' f' q' => ?_) (fun v y i' m' H' s' ry hat yd rd => ?_))
    · exact wpAny_bind (wpAny_rule (wpAny_pure (hT s' H' I' f' q')))
    · rw [hY] at yd
      obtain ⟨c, rfl, q⟩ := yd
      obtain rfl : v = Value.bool c := ry
      refine wpAny_bind (wpAny_holding (wpAny_truthy_bool ?_))
      refine wpAny_bind (wpAny_letGo ?_)
      cases c with
      | false =>
        rw [if_neg (by decide)] at q
        obtain ⟨m'', hm, w⟩ := q
        simp only [Bool.false_eq_true, if_false]
        exact wpAny_pure ⟨plainId_quiet F.plain_any_loop _, ih _ _ _ _ (rd m'' hm w).2⟩
      | true =>
        simp only [if_true]
        exact wpAny_bind (wpAny_rule (wpAny_pure (hF s' H' hat.inv hat.fpn (by simpa using q))))
end

section
variable {X : Cx} {pins : List (Addr × Obj)} {σ : L2.St} {H : Hp} {s : Shared}
/-- the generator's names, its scope -/
structure GScp (X : Cx) (scope : Scope) (own : List (Str × Nat)) : Prop where
  blk : BlkOk X.N X.env.scope scope own
  cell : ∀ y ∈ scope.names, y.2 ≠ .cell
  dot : scope.names.lookup (".0" : Str) = some NameKind.local
  co : scope.isCoroutine = false
def noCells (sc : Scope) : Bool := sc.names.all fun y => match y.2 with | .cell => false | _ => true
theorem noCells_ok {sc : Scope} (h : noCells sc = true) : ∀ y ∈ sc.names, y.2 ≠ .cell := by
  intro y hy e
  have := List.all_eq_true.mp h y hy
  rw [e] at this
  cases this
/-- a generator expression made: D, its description; what stands behind it -/
theorem gen_made {c P : Addr} {elt tg iter : Expr} {ifs : List Expr} {scope : Scope} {own : List (Str × Nat)} {gpos : Pos} {wi : TI} {g : TG} {tt : TT} {te : TE} {k : Nat} {Q' : Value → Shared → Prop}
    (hr : Room (k + 1) X.A) (hc : X.calm = true) (hN : X.N.Nodup) (TB : TabB X.base X.mg c P) (hcode : X.env.code = .ref c) (hi : PI X tg iter wi) (S : GScp X scope own)
    (hg : ∀ (A : Around) (s : Shared) (H : Hp) (C : Addr) (code : Value) (fp : List Addr), PG (Cxg X A s H (genE X scope C code) fp) tg g) (ht : ∀ (A : Around) (s : Shared) (H : Hp) (C : Addr) (code : Value) (fp : List Addr), Room k A → PTs (Cxg X A s H (genE X scope C code) fp) ifs tt)
    (he : ∀ (A : Around) (s : Shared) (H : Hp) (C : Addr) (code : Value) (fp : List Addr), Room k A → PE (Cxg X A s H (genE X scope C code) fp) elt te) (hs : ∀ v, genFold iter X.env v = pure v) (I : Inv X pins σ H s)
    {Wm : It → Hp → Prop} (h : wi σ H fun J H1 => TabG H1 P ∧ ∀ H2, Tabbed P H1 H2 → Wm J H2)
    (hQ : ∀ (J : It) (H2 : Hp), Wm J H2 → ∃ (W : Nat → Nat → Hp → Prop) (Yd : Nat → Nat → V → Hp → Prop) (Qs : Hp → Prop), (∃ m, W 0 m H2) ∧
      (∀ i m H, W i m H → (J.stop i H ∧ Qs H) ∨ (J.go i H ∧ 0 < m ∧ ∃ (Ny : V → Hp → Prop) (Nn : Hp → Prop), (∀ y H', Ny y H' → Yd i m y H') ∧ (∀ H', Nn H' → ∃ m', m' < m ∧ W (i + 1) m' H') ∧ ∀ x H', J.yld i H x H' → g x (wipe σ (own.map (·.2))) H' fun σ2 H2 => wipe σ2 (own.map (·.2)) = wipe σ (own.map (·.2)) ∧ tt σ2 H2 fun b H3 =>
        if b = true then te σ2 H3 Ny else Nn H3)) ∧
      ∀ (D : GD) (s5 : Shared) (m : Nat), D.Ok elt tg iter ifs scope gpos J g tt te (own.map (·.2)) → D.X.prog = X.prog → D.X.w = X.w → D.A = X.A.in1.in1 → D.W = W → D.Yd = Yd → D.Qs = Qs → (∀ h : Heap, h.get? D.a = some D.go → h.IsGen D.a D.g) → D.Ready m 0 m H2 s5 →
        (∀ s' H', Inv D.X D.pins D.σ H' s' → (∀ b ∈ D.fp, H' b = none) → Inv X pins σ H' s') → Q' (.ref D.a) s5) :
    wpAny (model X.prog X.w) X.A (eval (.GeneratorExp elt [⟨tg, iter, ifs, 0⟩] scope gpos) X.env) Q' X.xe s := by
  have hfree : ∀ y ∈ scope.names, y.2 = .free → ∃ c, X.env.cells.lookup y.1 = some c := fun y hy e => by
    rcases S.blk.free y hy e with k | k
    · exact I.ok.has _ (.inl k)
    · exact I.ok.has _ (.inr k)
  refine wpAny_GeneratorExp_make S.co (closure_ok hfree) S.cell S.dot S.blk.kind hr.depth ?_ hs
  refine thn (hi.run pins s σ H _ I h) fun xv s1 hx => thn hx fun itv s2 h2 => ?_
  obtain ⟨it, fp, tn, J, H2, e, I2, T, st2, f2, ⟨ps, hP, htr⟩, q⟩ := h2
  subst e
  refine ⟨I2.nolimit, ?_⟩
  have hPs : s2.heap.get? P = some { cls := .none, data := .fields ps } := I2.hok P _ hP
  have cd : PySem.W.CodeHd s2.heap c P := TB.code.keeps fun b u e => I2.bk b u e
  have cont : ∀ (code : Value) (h3 : Heap) (tk : Nat) (ps' : Array Value), Heap.ExtBut P s2.heap h3 → h3.get? P = some { cls := .none, data := .fields ps' } → (∃ more, ps' = ps ++ more) → TriplesOk ps'.toList →
      wpAny (model X.prog X.w) X.A (builtinsFor X.env.globals X.env.builtins) (fun bi s₄ => ∀ h', h'.Ns s₄.heap.objs.size (fun y => if y = ".0" then some (.ref it) else none) → Heap.SameBut s₄.heap.objs.size (s₄.heap.push { cls := .type "frame", data := .dict #[] }) h' →
          Q' (.ref h'.objs.size) { s₄ with
            gens := s₄.gens.push (.fresh (.compStart (.GeneratorExp elt [⟨tg, iter, ifs, 0⟩] scope gpos) 0 (.ref it) .none (genEnv scope (cloFrom X.env.cells scope.names []) s₄.heap.objs.size code bi X.env))),
            toks := s₄.toks + 1 + 1 + 1,
            heap := h'.push { cls := .type "generator", data := .fields #[.int s₄.gens.size 0, .str "<genexpr>" (s₄.toks + 1), .str (X.env.qual ++ "<genexpr>") (s₄.toks + 1 + 1)] } }) X.xe { s2 with heap := h3, toks := tk } := by
    intro code h3 tk ps' hx hP3 hmore ht3
    obtain ⟨more, em⟩ := hmore
    obtain ⟨bm, ob, e1, e2, e3, e4, e5, e6, e7, e8⟩ := TB.bm
    refine wpAny_builtinsFor (m := X.mg) (by rw [I2.ok.glob]; exact (I2.mod.glob.keeps I2.bk).extBut hx TB.gP) e1 e2 (hx _ _ e4 (I2.bk _ _ e5)) e6 e7 e8 ?_
    have I4 := inv_tab (more := more) (h' := h3) (g' := s2.gens) (d' := s2.drawn) (t' := tk) I2 hP (fun b u hb e => hx b u hb e) (by rw [← em]; exact hP3) I2.bare
    have TG4 : Tabbed P H2 (upd H2 P (.tbl (ps ++ more))) := ⟨⟨ps ++ more, upd_same, by rw [← em]; exact ht3⟩, fun b hb => upd_ne hb⟩
    have wm := q _ TG4
    generalize hH4 : upd H2 P (.tbl (ps ++ more)) = H4 at I4 TG4 wm
    have fpP : ∀ b ∈ fp, b ≠ P := fun b hb z => by
      have := (f2 b hb).1
      rw [z, hP] at this
      cases this
    have sz : ∀ b ∈ fp, b < h3.objs.size := fun b hb => by
      obtain ⟨o, e, _⟩ := T.obj _ _ st2 b hb
      exact Heap.lt_size (hx b o (fpP b hb) e)
    have f4 : ∀ b ∈ fp, FpOk X pins H4 b ∧ b < h3.objs.size := fun b hb => ⟨⟨by rw [TG4.2 b (fpP b hb)]; exact (f2 b hb).1, (f2 b hb).2⟩, sz b hb⟩
    intro h' hn' hs'
    generalize hs4 : ({ s2 with heap := h3, toks := tk } : Shared) = s4 at I4 hn' hs' ⊢
    have hh3 : s4.heap = h3 := by rw [← hs4]
    have f4' : ∀ b ∈ fp, FpOk X pins H4 b ∧ b < s4.heap.objs.size := by rw [hh3]; exact f4
    generalize hgo : ({ cls := .type "generator", data := .fields #[.int s4.gens.size 0, .str "<genexpr>" (s4.toks + 1), .str (X.env.qual ++ "<genexpr>") (s4.toks + 1 + 1)] } : Obj) = go
    have hgoP : (h'.push go).get? h'.objs.size = some go := by rw [← hgo]; exact Heap.get?_push_size _ rfl
    have hsz : h'.objs.size = s4.heap.objs.size + 1 := by rw [hs'.1, Heap.size_push]
    have hAf : (genA X.A (.GeneratorExp elt [⟨tg, iter, ifs, 0⟩] scope gpos) it (genE X scope s4.heap.objs.size code)).frames = some (genE X scope s4.heap.objs.size code :: X.stack) := by
      show pushEnvs [genE X scope s4.heap.objs.size code] X.A.frames = _
      rw [I4.ok.frames]
      rfl
    have hAr : Room k (genA X.A (.GeneratorExp elt [⟨tg, iter, ifs, 0⟩] scope gpos) it (genE X scope s4.heap.objs.size code)) := by
      refine ⟨hr.hd, ?_, ?_⟩
      · have := hr.dp
        show X.A.depth + 1 + 3 * k + 5 < _
        omega
      · have := hr.un
        show X.A.units + 1 + 1 + 3 + 16 * k + 200 < _
        omega
    have bare5 : AllBare (s4.gens.push (.fresh (.compStart (.GeneratorExp elt [⟨tg, iter, ifs, 0⟩] scope gpos) 0 (.ref it) .none (genE X scope s4.heap.objs.size code)))) := AllBare.push I4.bare rfl
    have I5 := gen_start (A := genA X.A (.GeneratorExp elt [⟨tg, iter, ifs, 0⟩] scope gpos) it (genE X scope s4.heap.objs.size code)) (tk := s4.toks + 1 + 1 + 1) (go := go) I4 S.blk S.cell hN f4' hAf (fun _ => hAr.hd) hn' hs' bare5 (fun v z => by rw [← hgo] at z; cases z) hgoP
    have st5 : tn 0 (h'.push go) := T.keep _ _ _ st2 fun b hb o e => Heap.get?_push_of_some _ (hs'.extBut b o (Nat.ne_of_lt (f4' b hb).2) (Heap.get?_push_of_some _ (by rw [hh3]; exact hx b o (fpP b hb) e)))
    obtain ⟨W, Yd, Qs, ⟨m, w0⟩, step, fin⟩ := hQ J H4 wm
    have o : (GD.mk (Cxg X (genA X.A (.GeneratorExp elt [⟨tg, iter, ifs, 0⟩] scope gpos) it (genE X scope s4.heap.objs.size code)) s4 H4 (genE X scope s4.heap.objs.size code) fp) h'.objs.size s4.gens.size go fp it X.A.in1.in1 (wipe σ (own.map (·.2))) tn W Yd Qs).Ok elt tg iter ifs scope gpos J g tt te (own.map (·.2)) := by
      refine ⟨rfl, rfl, rfl, hc, S.co, rfl, rfl, fun b hb => ?_, T, hg _ _ _ _ _ _, ht _ _ _ _ _ _ hAr, he _ _ _ _ _ _ hAr, ?_, step⟩
      · have := (f4' b hb).2
        show b ≠ h'.objs.size
        rw [hsz]
        exact Nat.ne_of_lt (Nat.lt_succ_of_lt this)
      · exact wipe_wipe σ _
    refine fin _ _ m o rfl rfl rfl rfl rfl rfl (fun h e => ?_) (gen_ready o (Nat.le_refl _) w0 ⟨I5, st5, fun b hb => (f4' b hb).1.1⟩ (Array.getElem?_push_size ..)) fun s' H' I' fn' => ?_
    · rw [← hgo] at e
      exact ⟨_, _, _, e, rfl, rfl, rfl⟩
    · exact I4.call' (ch := fp) I'.os I'.base I'.hok I'.bare fun b hb => ⟨(f4' b hb).1.2.2.2.1, (f4' b hb).1.2.1, (f4' b hb).1.2.2.2.2.1, (f4' b hb).1.2.2.2.2.2⟩
  cases hf : codeAmong gpos ps.toList with
  | none =>
    refine wpAny_genexprCodeX hcode (cd.code hPs htr) (cd.tab hPs) hf fun c' h' tk hx hge hlt hco' _ htab' _ => ?_
    obtain ⟨o1, vs, f1, tf, fl, tg, inF, tx, tt, op, _, _, _, _, _, _, _, _, _, htr', _⟩ := hco'
    exact cont _ h' tk _ hx htab'.2 ⟨_, rfl⟩ htr'
  | some cv =>
    refine wpAny_genexprCode_hit hcode (cd.code hPs htr) hf ?_
    exact cont cv s2.heap s2.toks ps (Heap.ExtBut.refl _ _) hPs ⟨#[], by simp⟩ htr
end
end Gx

/-! ## GenAll3 -/
set_option Elab.async false
set_option linter.all false
set_option maxRecDepth 100000
set_option maxHeartbeats 2000000
namespace Gx
open PySem PySem.Spec PyProof.Rows L2 GxR GenW

/-- all(..) | any(..) of a generator expression: P the def's table of code objects; want: the truth that ends the walk -/
def tQuant (want : Bool) (P : Addr) (wi : TI) (g : TG) (tt : TT) (te : TE) (vs : List Nat) : TE := fun σ H Q => wi σ H fun J H1 => TabG H1 P ∧ ∀ H2, Tabbed P H1 H2 → ∃ W : Nat → Nat → Hp → Prop, (∃ m, W 0 m H2) ∧ ∀ i m H, W i m H →
  (J.stop i H ∧ Q (.bl (!want)) H) ∨ (J.go i H ∧ 0 < m ∧ ∃ Nx : Hp → Prop, (∀ H', Nx H' → ∃ m', m' < m ∧ W (i + 1) m' H') ∧ ∀ x H', J.yld i H x H' → g x (wipe σ vs) H' fun σ2 H3 => wipe σ2 vs = wipe σ vs ∧ tt σ2 H3 fun b H4 =>
    if b = true then te σ2 H4 fun y H5 => ∃ c, y = .bl c ∧ if c = want then Q (.bl want) H5 else Nx H5 else Nx H4)
theorem quant_step {want : Bool} {Q : VK} {J : It} {g : TG} {tt : TT} {te : TE} {vs : List Nat} {σ : L2.St} {W : Nat → Nat → Hp → Prop} (step : ∀ i m H, W i m H →
  (J.stop i H ∧ Q (.bl (!want)) H) ∨ (J.go i H ∧ 0 < m ∧ ∃ Nx : Hp → Prop, (∀ H', Nx H' → ∃ m', m' < m ∧ W (i + 1) m' H') ∧ ∀ x H', J.yld i H x H' → g x (wipe σ vs) H' fun σ2 H3 => wipe σ2 vs = wipe σ vs ∧ tt σ2 H3 fun b H4 =>
    if b = true then te σ2 H4 fun y H5 => ∃ c, y = .bl c ∧ if c = want then Q (.bl want) H5 else Nx H5 else Nx H4)) :
    ∀ i m H, W i m H → (J.stop i H ∧ Q (.bl (!want)) H) ∨ (J.go i H ∧ 0 < m ∧ ∃ (Ny : V → Hp → Prop) (Nn : Hp → Prop), (∀ y H', Ny y H' → YdB W want (Q (.bl want)) i m y H') ∧ (∀ H', Nn H' → ∃ m', m' < m ∧ W (i + 1) m' H') ∧ ∀ x H', J.yld i H x H' → g x (wipe σ vs) H' fun σ2 H2 => wipe σ2 vs = wipe σ vs ∧ tt σ2 H2 fun b H3 =>
        if b = true then te σ2 H3 Ny else Nn H3) := by
  intro i m H w
  rcases step i m H w with h | ⟨h1, h2, Nx, hNx, h3⟩
  · exact .inl h
  · refine .inr ⟨h1, h2, _, Nx, fun y H' hy => ?_, hNx, h3⟩
    obtain ⟨c, rfl, q⟩ := hy
    refine ⟨c, rfl, ?_⟩
    by_cases hc : c = want
    · rw [if_pos hc] at q ⊢; exact q
    · rw [if_neg hc] at q ⊢; exact hNx _ q
theorem boot_all : bootBuiltins "all" = some (.builtin "all") := by decide +kernel
section
variable {X : Cx}
theorem pe_allG {c P : Addr} {elt tg iter : Expr} {ifs : List Expr} {scope : Scope} {own : List (Str × Nat)} {p pos gpos : Pos} {wi : TI} {g : TG} {tt : TT} {te : TE} {k : Nat}
    (hr : Room (k + 1) X.A) (hc : X.calm = true) (hN : X.N.Nodup) (hgl : Gl X "all") (hm : X.mg "all" = none) (TB : TabB X.base X.mg c P) (hcode : X.env.code = .ref c) (hi : PI X tg iter wi) (S : GScp X scope own)
    (hg : ∀ (A : Around) (s : Shared) (H : Hp) (C : Addr) (code : Value) (fp : List Addr), PG (Cxg X A s H (genE X scope C code) fp) tg g) (ht : ∀ (A : Around) (s : Shared) (H : Hp) (C : Addr) (code : Value) (fp : List Addr), Room k A → PTs (Cxg X A s H (genE X scope C code) fp) ifs tt)
    (he : ∀ (A : Around) (s : Shared) (H : Hp) (C : Addr) (code : Value) (fp : List Addr), Room k A → PE (Cxg X A s H (genE X scope C code) fp) elt te) (hs : ∀ v, genFold iter X.env v = pure v := by intro _; rfl)
    (hst : starEach [.GeneratorExp elt [⟨tg, iter, ifs, 0⟩] scope gpos] X.env = (false, eval (.GeneratorExp elt [⟨tg, iter, ifs, 0⟩] scope gpos) X.env) :: starEach [] X.env := by rfl) :
    PE X (.Call (.Name "all" p) [.GeneratorExp elt [⟨tg, iter, ifs, 0⟩] scope gpos] [] pos) (tQuant false P wi g tt te (own.map (·.2))) := by
  refine ⟨fun pins s σ H Q I h => ?_⟩
  refine wpAny_Call_Name_kw (ld_blt I hgl hm boot_all ?_)
  refine PyProof.Rows.callWith_builtin1 ?_ hst (by rfl)
  rw [hst]
  show wpAny _ _ (spliced ((false, eval (.GeneratorExp elt [⟨tg, iter, ifs, 0⟩] scope gpos) X.env) :: backTo pos (starEach [] X.env))) _ _ s
  refine Calls.spliced_cons (gen_made hr hc hN TB hcode hi S hg ht he hs I h fun J H2 hW => ?_)
  obtain ⟨W, w0, step⟩ := hW
  refine ⟨W, YdB W false (Q (.bl false)), fun H' => Q (.bl true) H', w0, quant_step step, fun D s5 m o hp hw hA hWe hY hQ hgen rdy back => ?_⟩
  refine Calls.spliced_nil ?_
  refine call_function_tree F.kind_all F.plain_all F.entry_all (F.args_all1 _) ?_
  unfold Builtin.«all»
  refine wpAny_bind (m := oneArg "all" _) (wpAny_pure ?_)
  have pinG := (rdy.at_.inv.pin (D.a, D.go) (List.mem_append_right _ (List.mem_singleton.mpr rfl))).1
  refine wpAny_bind (wpAny_pyIter_gen (hgen _ pinG) ?_)
  refine wpAny_pure ⟨plainId_quiet F.plain_all_loop _, ?_⟩
  rw [← hp, ← hw]
  subst hWe
  refine all_loop o (A := X.A) hA.symm hr.depth hr.hd hgen hY (fun s' H' I' f' q' => ?_) (fun s' H' I' f' q' => ?_) m 0 m s5 H2 rdy
  · rw [hQ] at q'
    exact ⟨.bl true, H', back s' H' I' f', rfl, q'⟩
  · exact ⟨.bl false, H', back s' H' I' f', rfl, q'⟩
theorem pe_anyG {c P : Addr} {elt tg iter : Expr} {ifs : List Expr} {scope : Scope} {own : List (Str × Nat)} {p pos gpos : Pos} {wi : TI} {g : TG} {tt : TT} {te : TE} {k : Nat}
    (hr : Room (k + 1) X.A) (hc : X.calm = true) (hN : X.N.Nodup) (hgl : Gl X "any") (hm : X.mg "any" = none) (TB : TabB X.base X.mg c P) (hcode : X.env.code = .ref c) (hi : PI X tg iter wi) (S : GScp X scope own)
    (hg : ∀ (A : Around) (s : Shared) (H : Hp) (C : Addr) (code : Value) (fp : List Addr), PG (Cxg X A s H (genE X scope C code) fp) tg g) (ht : ∀ (A : Around) (s : Shared) (H : Hp) (C : Addr) (code : Value) (fp : List Addr), Room k A → PTs (Cxg X A s H (genE X scope C code) fp) ifs tt)
    (he : ∀ (A : Around) (s : Shared) (H : Hp) (C : Addr) (code : Value) (fp : List Addr), Room k A → PE (Cxg X A s H (genE X scope C code) fp) elt te) (hs : ∀ v, genFold iter X.env v = pure v := by intro _; rfl)
    (hst : starEach [.GeneratorExp elt [⟨tg, iter, ifs, 0⟩] scope gpos] X.env = (false, eval (.GeneratorExp elt [⟨tg, iter, ifs, 0⟩] scope gpos) X.env) :: starEach [] X.env := by rfl) :
    PE X (.Call (.Name "any" p) [.GeneratorExp elt [⟨tg, iter, ifs, 0⟩] scope gpos] [] pos) (tQuant true P wi g tt te (own.map (·.2))) := by
  refine ⟨fun pins s σ H Q I h => ?_⟩
  refine wpAny_Call_Name_kw (ld_blt I hgl hm boot_any ?_)
  refine PyProof.Rows.callWith_builtin1 ?_ hst (by rfl)
  rw [hst]
  show wpAny _ _ (spliced ((false, eval (.GeneratorExp elt [⟨tg, iter, ifs, 0⟩] scope gpos) X.env) :: backTo pos (starEach [] X.env))) _ _ s
  refine Calls.spliced_cons (gen_made hr hc hN TB hcode hi S hg ht he hs I h fun J H2 hW => ?_)
  obtain ⟨W, w0, step⟩ := hW
  refine ⟨W, YdB W true (Q (.bl true)), fun H' => Q (.bl false) H', w0, quant_step step, fun D s5 m o hp hw hA hWe hY hQ hgen rdy back => ?_⟩
  refine Calls.spliced_nil ?_
  refine call_function_tree F.kind_any F.plain_any F.entry_any (F.args_any1 _) ?_
  unfold Builtin.«any»
  refine wpAny_bind (m := oneArg "any" _) (wpAny_pure ?_)
  have pinG := (rdy.at_.inv.pin (D.a, D.go) (List.mem_append_right _ (List.mem_singleton.mpr rfl))).1
  refine wpAny_bind (wpAny_pyIter_gen (hgen _ pinG) ?_)
  refine wpAny_pure ⟨plainId_quiet F.plain_any_loop _, ?_⟩
  rw [← hp, ← hw]
  subst hWe
  refine any_loop o (A := X.A) hA.symm hr.depth hr.hd hgen hY (fun s' H' I' f' q' => ?_) (fun s' H' I' f' q' => ?_) m 0 m s5 H2 rdy
  · rw [hQ] at q'
    exact ⟨.bl false, H', back s' H' I' f', rfl, q'⟩
  · exact ⟨.bl true, H', back s' H' I' f', rfl, q'⟩
end
/-- over a walk: Pv by the turn and the heap -/
theorem quant_it {want : Bool} {J : It} {n : Nat} {G : Hp → Prop} {Y : Nat → Hp → V → Hp → Prop} (w : Walk J n G Y) {g : TG} {tt : TT} {te : TE} {vs : List Nat} {σ : L2.St} {H2 : Hp} {Q : VK} (Pv : Nat → Hp → Prop) (h0 : Pv 0 H2) (hG : ∀ i H, i ≤ n → Pv i H → G H)
    (hs : ∀ i x H H', i < n → Pv i H → Y i H x H' → g x (wipe σ vs) H' fun σ2 H3 => wipe σ2 vs = wipe σ vs ∧ tt σ2 H3 fun b H4 => if b = true then te σ2 H4 fun y H5 => ∃ c, y = .bl c ∧ if c = want then Q (.bl want) H5 else Pv (i + 1) H5 else Pv (i + 1) H4)
    (hd : ∀ H, Pv n H → Q (.bl (!want)) H) :
    ∃ W : Nat → Nat → Hp → Prop, (∃ m, W 0 m H2) ∧ ∀ i m H, W i m H →
      (J.stop i H ∧ Q (.bl (!want)) H) ∨ (J.go i H ∧ 0 < m ∧ ∃ Nx : Hp → Prop, (∀ H', Nx H' → ∃ m', m' < m ∧ W (i + 1) m' H') ∧ ∀ x H', J.yld i H x H' → g x (wipe σ vs) H' fun σ2 H3 => wipe σ2 vs = wipe σ vs ∧ tt σ2 H3 fun b H4 =>
        if b = true then te σ2 H4 fun y H5 => ∃ c, y = .bl c ∧ if c = want then Q (.bl want) H5 else Nx H5 else Nx H4) := by
  refine ⟨fun i m H => m = n - i ∧ i ≤ n ∧ Pv i H, ⟨n, by simp, Nat.zero_le _, h0⟩, ?_⟩
  rintro i m H ⟨rfl, hi, p⟩
  have q := hG i H hi p
  by_cases hlt : i < n
  · exact .inr ⟨w.goes i H hlt q, by omega, Pv (i + 1), fun H' p' => ⟨n - (i + 1), by omega, rfl, hlt, p'⟩, fun x H' y => hs i x H H' hlt p (w.yields i H x H' hlt q y)⟩
  · have e : i = n := by omega
    subst e
    exact .inl ⟨w.stops H q, hd H p⟩
end Gx

/-! ## Lk -/
set_option Elab.async false
set_option linter.all false
set_option maxRecDepth 100000
set_option maxHeartbeats 2000000
/-! What all defs of the package's laws are told with: tuples of ints, webs; heaps that have grown; callees. -/
namespace Lk
open PySem PySem.Spec PyProof.Rows L2 Gx
open GxR (TabG Tabbed TabB)

/-! ### heaps -/
def isTbl : HO → Bool
  | .tbl _ => true
  | _ => false
/-- tables that no generator of a def writes at -/
class Own where
  own : Addr → Prop
variable [Own]
/-- all that was tracked is as it was, but that tables may have grown -/
structure Ext (H H' : Hp) : Prop where
  keep : ∀ a o, H a = some o → isTbl o = false → H' a = some o
  tab : ∀ P, TabG H P → TabG H' P
  tb : ∀ a o, H a = some o → ∃ o', H' a = some o'
  own : ∀ P ps, Own.own P → H P = some (.tbl ps) → H' P = some (.tbl ps)
theorem Ext.refl (H : Hp) : Ext H H := ⟨fun _ _ h _ => h, fun _ h => h, fun _ _ h => ⟨_, h⟩, fun _ _ _ h => h⟩
theorem Ext.trans {H H1 H2 : Hp} (a : Ext H H1) (b : Ext H1 H2) : Ext H H2 := ⟨fun c o h q => b.keep c o (a.keep c o h q) q, fun P h => b.tab P (a.tab P h), fun c o h => by
  obtain ⟨o', h'⟩ := a.tb c o h
  exact b.tb c o' h', fun P ps o h => b.own P ps o (a.own P ps o h)⟩
theorem Ext.new {H : Hp} {p : Addr} (h : H p = none) (o : HO) : Ext H (upd H p o) := ⟨fun a u e _ => by rw [upd_ne (ne_of_none e h)]; exact e, fun P ⟨ps, e, t⟩ => ⟨ps, by rw [upd_ne (ne_of_none e h)]; exact e, t⟩, fun a u e => ⟨u, by rw [upd_ne (ne_of_none e h)]; exact e⟩, fun P ps _ e => by rw [upd_ne (ne_of_none e h)]; exact e⟩
theorem Ext.tabbed {H H' : Hp} {P : Addr} (hn : ¬ Own.own P) (h : TabG H P) (t : Tabbed P H H') : Ext H H' := by
  obtain ⟨ps, e, ht⟩ := h
  refine ⟨fun a o e' q => ?_, fun P' h' => ?_, fun a o e' => ?_, fun P' qs o e1 => by rw [t.2 P' (fun z => hn (z ▸ o))]; exact e1⟩
  · have : a ≠ P := fun z => by
      rw [z, e] at e'
      cases e'
      cases q
    rw [t.2 a this]; exact e'
  · by_cases z : P' = P
    · rw [z]; exact t.1
    · obtain ⟨qs, e1, t1⟩ := h'
      exact ⟨qs, by rw [t.2 P' z]; exact e1, t1⟩
  · by_cases z : a = P
    · obtain ⟨qs, e1, _⟩ := t.1
      exact ⟨_, by rw [z]; exact e1⟩
    · exact ⟨o, by rw [t.2 a z]; exact e'⟩
theorem Ext.free {H H' : Hp} (e : Ext H H') {l : Addr} (h : H' l = none) : H l = none := by
  cases q : H l with
  | none => rfl
  | some o =>
    obtain ⟨o', h'⟩ := e.tb l o q
    rw [h] at h'
    cases h'
theorem Ext.tup {H H' : Hp} (e : Ext H H') {a : Addr} {xs : List V} (h : H a = some (.tup xs)) : H' a = some (.tup xs) := e.keep _ _ h rfl
theorem Ext.lst {H H' : Hp} (e : Ext H H') {a : Addr} {xs : List V} (h : H a = some (.lst xs)) : H' a = some (.lst xs) := e.keep _ _ h rfl
/-- a list that grows, new behind H0 -/
theorem Ext.put {H0 H : Hp} {p : Addr} (e : Ext H0 H) (h : H0 p = none) (o : HO) : Ext H0 (upd H p o) := ⟨fun a u q t => by rw [upd_ne (ne_of_none q h)]; exact e.keep a u q t, fun P ⟨ps, q, t⟩ => by
  obtain ⟨qs, q', t'⟩ := e.tab P ⟨ps, q, t⟩
  exact ⟨qs, by rw [upd_ne (ne_of_none q h)]; exact q', t'⟩, fun a u q => by
  obtain ⟨o', h'⟩ := e.tb a u q
  exact ⟨o', by rw [upd_ne (ne_of_none q h)]; exact h'⟩, fun P ps o q => by rw [upd_ne (ne_of_none q h)]; exact e.own P ps o q⟩
/-- the tables that the defs have -/
def Tabs (Ps : List Addr) (H : Hp) : Prop := ∀ P ∈ Ps, TabG H P
theorem Tabs.ext {Ps : List Addr} {H H' : Hp} (t : Tabs Ps H) (e : Ext H H') : Tabs Ps H' := fun P h => e.tab P (t P h)

/-! ### tuples of ints, of such -/
theorem paired_mono {α β : Type} {R S : α → β → Prop} (h : ∀ a b, R a b → S a b) : ∀ {l : List α} {m : List β}, Paired R l m → Paired S l m
  | _, _, .nil => .nil
  | _, _, .cons r t => .cons (h _ _ r) (paired_mono h t)
theorem paired_get {α β : Type} {R : α → β → Prop} : ∀ {l : List α} {m : List β} {i : Nat} {b : β}, Paired R l m → m[i]? = some b → ∃ a, l[i]? = some a ∧ R a b
  | _, _, _, _, .nil, e => by simp at e
  | _, _, 0, _, .cons r _, e => by simp at e; subst e; exact ⟨_, rfl, r⟩
  | _, _, i + 1, _, .cons _ t, e => by
    obtain ⟨a, h1, h2⟩ := paired_get (i := i) t (by simpa using e)
    exact ⟨a, by simpa using h1, h2⟩
theorem paired_get' {α β : Type} {R : α → β → Prop} : ∀ {l : List α} {m : List β} {i : Nat} {a : α}, Paired R l m → l[i]? = some a → ∃ b, m[i]? = some b ∧ R a b
  | _, _, _, _, .nil, e => by simp at e
  | _, _, 0, _, .cons r _, e => by simp at e; subst e; exact ⟨_, rfl, r⟩
  | _, _, i + 1, _, .cons _ t, e => by
    obtain ⟨a, h1, h2⟩ := paired_get' (i := i) t (by simpa using e)
    exact ⟨a, by simpa using h1, h2⟩
theorem paired_snoc {α β : Type} {R : α → β → Prop} {a : α} {b : β} (r : R a b) : ∀ {l : List α} {m : List β}, Paired R l m → Paired R (l ++ [a]) (m ++ [b])
  | _, _, .nil => .cons r .nil
  | _, _, .cons q t => .cons q (paired_snoc r t)
theorem paired_len {α β : Type} {R : α → β → Prop} : ∀ {l : List α} {m : List β}, Paired R l m → l.length = m.length
  | _, _, .nil => rfl
  | _, _, .cons _ t => by rw [List.length_cons, List.length_cons, paired_len t]
/-- the ints' values -/
abbrev iv (ns : List Int) : List V := ns.map V.int
theorem iv_get {ns : List Int} {i : Nat} {x : V} (h : (iv ns)[i]? = some x) : ∃ n, ns[i]? = some n ∧ x = .int n := by
  rw [List.getElem?_map] at h
  cases e : ns[i]? with
  | none => rw [e] at h; cases h
  | some n => rw [e] at h; exact ⟨n, rfl, (Option.some.inj h).symm⟩
theorem iv_at {ns : List Int} {i : Nat} {n : Int} (h : ns[i]? = some n) : (iv ns)[i]? = some (.int n) := by rw [List.getElem?_map, h]; rfl
theorem iv_len (ns : List Int) : (iv ns).length = ns.length := List.length_map ..
/-- a tuple of ints -/
def TI (H : Hp) (v : V) (ns : List Int) : Prop := ∃ a, v = .ref a ∧ H a = some (.tup (iv ns))
/-- a tuple of tuples of ints -/
def TT2 (H : Hp) (v : V) (rows : List (List Int)) : Prop := ∃ a vs, v = .ref a ∧ H a = some (.tup vs) ∧ Paired (TI H) vs rows
/-- a list of ints, of tuples of ints -/
def LI (H : Hp) (v : V) (ns : List Int) : Prop := ∃ a, v = .ref a ∧ H a = some (.lst (iv ns))
def LT2 (H : Hp) (v : V) (rows : List (List Int)) : Prop := ∃ a vs, v = .ref a ∧ H a = some (.lst vs) ∧ Paired (TI H) vs rows
theorem TI.ext {H H' : Hp} {v : V} {ns : List Int} (e : Ext H H') (h : TI H v ns) : TI H' v ns := by
  obtain ⟨a, q, h⟩ := h
  exact ⟨a, q, e.tup h⟩
theorem pTI.ext {H H' : Hp} {vs : List V} {rows : List (List Int)} (e : Ext H H') (h : Paired (TI H) vs rows) : Paired (TI H') vs rows := paired_mono (fun _ _ r => r.ext e) h
theorem TT2.ext {H H' : Hp} {v : V} {rows : List (List Int)} (e : Ext H H') (h : TT2 H v rows) : TT2 H' v rows := by
  obtain ⟨a, vs, q, h, p⟩ := h
  exact ⟨a, vs, q, e.tup h, pTI.ext e p⟩
theorem LI.ext {H H' : Hp} {v : V} {ns : List Int} (e : Ext H H') (h : LI H v ns) : LI H' v ns := by
  obtain ⟨a, q, h⟩ := h
  exact ⟨a, q, e.lst h⟩
theorem LT2.ext {H H' : Hp} {v : V} {rows : List (List Int)} (e : Ext H H') (h : LT2 H v rows) : LT2 H' v rows := by
  obtain ⟨a, vs, q, h, p⟩ := h
  exact ⟨a, vs, q, e.lst h, pTI.ext e p⟩

/-! ### webs -/
/-- a look: one, other, sign -/
abbrev Look3 := Int × Int × Int
def row3 (l : Look3) : List Int := [l.1, l.2.1, l.2.2]
structure Web where
  tops : List Int
  looks : List Look3
structure Web.Ok (W : Web) : Prop where
  some_ : 1 ≤ W.tops.length
  few : W.tops.length ≤ 6
  tops : ∀ t ∈ W.tops, 1 ≤ t ∧ t ≤ 3
  most : W.looks.length ≤ 14
  look : ∀ l ∈ W.looks, (0 ≤ l.1 ∧ l.1 < W.tops.length) ∧ (0 ≤ l.2.1 ∧ l.2.1 < W.tops.length) ∧ (l.2.2 = 1 ∨ l.2.2 = -1)
  asc : W.looks.Pairwise fun k l => k.1 < l.1 ∨ k.1 = l.1 ∧ k.2.1 < l.2.1
  four : ∀ f : Int, ((W.looks.map fun l => l.2.1).filter fun o => o == f).length ≤ 4
def WebAt (H : Hp) (v : V) (W : Web) : Prop := ∃ a t l, v = .ref a ∧ H a = some (.tup [t, l]) ∧ TI H t W.tops ∧ TT2 H l (W.looks.map row3)
theorem WebAt.ext {H H' : Hp} {v : V} {W : Web} (e : Ext H H') (h : WebAt H v W) : WebAt H' v W := by
  obtain ⟨a, t, l, q, h, p1, p2⟩ := h
  exact ⟨a, t, l, q, e.tup h, p1.ext e, p2.ext e⟩

/-! ### callees -/
/-- the def of that name, its promise at level k -/
structure Cal (P : Program) (w : World) (K : PySem.W.Frag) (mg : Str → Option Value) (base : Heap) (CX : CXT) (k : Nat) (x : Str) (ps : List Str) (sp : Sp) : Prop where
  ex : ∃ f fd, mg x = some (.ref f) ∧ PySem.W.keepIn K (.ref f) = true ∧ Binds K fd ps [] ∧ FnOk P w K mg base CX k f fd ps sp
section
variable {X : Cx} {CX : CXT} {k : Nat} {ps : List Str} {sp : Sp} {E : XK} {x : Str} {p pos : Pos} {e : Expr} {es : List Expr} {t : TA}
theorem pe_cal (F : Cal X.prog X.w X.K X.mg X.base CX k x ps sp) (hr : Room k X.A) (hg : Gl X x) (hx : Passes CX X E)
    (ha : PA X (e :: es) t) (hdb : (x == ("__debug__" : Str)) = false := by decide) (he : starEach (e :: es) X.env = (false, eval e X.env) :: starEach es X.env := by rfl) (hpl : (backTo pos (starEach es X.env)).any (·.1) = false := by rfl) :
    PE X (.Call (.Name x p) (e :: es) [] pos) (tCall sp [] E t) := by
  obtain ⟨f, fd, hm, hk, hb, G⟩ := F.ex
  exact pe_call G hr hg hm hk hb .nil hx ha hdb he hpl
/-- .. that raises nothing -/
theorem pe_c0 (F : Cal X.prog X.w X.K X.mg X.base CX0 k x ps sp) (hr : Room k X.A) (hg : Gl X x)
    (ha : PA X (e :: es) t) (hdb : (x == ("__debug__" : Str)) = false := by decide) (he : starEach (e :: es) X.env = (false, eval e X.env) :: starEach es X.env := by rfl) (hpl : (backTo pos (starEach es X.env)).any (·.1) = false := by rfl) :
    PE X (.Call (.Name x p) (e :: es) [] pos) (tCall sp [] E0 t) := pe_cal F hr hg pass0 ha hdb he hpl
end
/-- a def with a table of code objects of its own: its code object's address, its table's -/
structure FunT (K : PySem.W.Frag) (mg : Str → Option Value) (base : Heap) (Ps : List Addr) (x : Str) (st : Stmt) (f : Addr) (fd : FuncData) (P : Addr) : Prop where
  ex : ∃ (oc : Value) (od : Option Addr) (kV doc pm : Value) (an : Option Addr) (c : Addr) (ct : Value) (osl : Array (Option Value)),
    fd = PySem.W.fnOf x x (defArgs st) (defBody st) (defScope st) .none kV doc pm an (.ref c) ct ∧ K.lookup f = some ⟨oc, od, .func fd, osl⟩ ∧ PySem.W.codeIn K (.ref c) x = true ∧ TabB base mg c P
  mem : P ∈ Ps
  nown : ¬ Own.own P
section
variable {P : Program} {w : World} {K : PySem.W.Frag} {mg : Str → Option Value} {base : Heap}
theorem FunT.ok {Ps : List Addr} {x : Str} {st : Stmt} {f : Addr} {fd : FuncData} {T : Addr} {N ps : List Str} {k : Nat} {sp : Sp} (F : FunT K mg base Ps x st f fd T) (S : FnScope N ps (defScope st)) (len : ∀ vs H Q E, sp vs H Q E → vs.length = ps.length)
    (hbody : ∀ (c : Addr) (A : Around) (outer : List Env) (s : Shared) (H : Hp) (vs : List V) (Q : VK) (E : XK), TabB base mg c T → Room k (A.deeper (envOfC x (defScope st) s.heap.objs.size f (.ref c))) → sp vs H Q E →
      ∃ t, PSs (cxOf CX0 P w K mg base N x (defScope st) f (.ref c) A outer s H E).nox (defBody st) t ∧ t { nx := fun _ H' => Q .non H', rt := Q } (start N vs) H) : FnOk P w K mg base CX0 (k + 1) f fd ps sp := by
  obtain ⟨oc, od, kV, doc, pm, an, c, ct, osl, rfl, lk, hcd, tb⟩ := F.ex
  refine fn_of lk hcd S len fun A outer s H vs Q E hr hsp => ?_
  obtain ⟨t, h, q⟩ := hbody c A outer s H vs Q E tb hr hsp
  exact ⟨t, h.nox, q⟩
end
/-- a value is an int: isinstance by the built-in class -/
theorem isi_int {K : PySem.W.Frag} {H : Hp} (i : Int) : TyX K H (.int i) (.type "int") := .base (.int i)
end Lk

/-! ## Lam1 -/
set_option Elab.async false
set_option linter.all false
set_option maxRecDepth 100000
set_option maxHeartbeats 2000000
/-! A lambda with parameters, that captures names of the def where it is made, handed to another def and called there. -/
namespace Lk
open PySem PySem.Spec PyProof.Rows L2 LamX NdefX
variable [Own]
/-- the object at f is the lambda with the words F, the expression b -/
def LmO (f : Addr) (F : NF) (b : Expr) : HO := .ext fun h => ∃ pm ctv : Value, h.get? f = some (PySem.W.kla_obj "<lambda>" F.qual F.params b F.scope F.cl pm F.c ctv)
theorem lm_at {P : Program} {w : World} {H : Hp} {h : Heap} {f : Addr} {F : NF} {b : Expr} (hok : HOk P w H h) (e : H f = some (LmO f F b)) : ∃ pm ctv : Value, h.get? f = some (PySem.W.kla_obj "<lambda>" F.qual F.params b F.scope F.cl pm F.c ctv) := (hok f _ e).1
section
variable {X : Cx} {pins : List (Addr × Obj)} {σ : L2.St} {H : Hp} {s : Shared}
theorem lm_track {F : NF} {b : Expr} {pm ctv : Value} {t' : Nat} (I : Inv X pins σ H s) :
    Inv X pins σ (upd H s.heap.objs.size (LmO s.heap.objs.size F b)) { s with heap := s.heap.push (PySem.W.kla_obj "<lambda>" F.qual F.params b F.scope F.cl pm F.c ctv), toks := t' } := by
  have e : (s.heap.push (PySem.W.kla_obj "<lambda>" F.qual F.params b F.scope F.cl pm F.c ctv)).get? s.heap.objs.size = some (PySem.W.kla_obj "<lambda>" F.qual F.params b F.scope F.cl pm F.c ctv) := Heap.get?_push_size _ rfl
  exact I.laid (a := s.heap.objs.size) (fun a u z => Heap.get?_push_of_some _ z) (Nat.le_refl _) ⟨⟨pm, ctv, e⟩, ⟨_, e⟩, fun h1 h2 ⟨p, t, z⟩ st => ⟨p, t, st _ z⟩⟩
theorem lam_new {c P : Addr} {q : Str} {params : Arguments} {body : Expr} {scope : Scope} {pos : Pos} {E : Value → Shared → Prop} {Q : Value → Shared → Prop} (I : Inv X pins σ H s) (TB : LamX.TabB X.base X.mg c P) (hcode : X.env.code = .ref c) (hT : TabS H P q) (hq : X.env.qual ++ "<lambda>" = q)
    (hdef : defaultsOf params X.env = ([], [])) (hfree : ∀ y ∈ scope.names, y.2 = .free → ∃ c, X.env.cells.lookup y.1 = some c)
    (k : ∀ (f c' : Addr) (H2 : Hp) (s2 : Shared), Inv X pins σ H2 s2 → (∀ b o, b ≠ P → H b = some o → H2 b = some o) → TabS H2 P q → (∀ b, H2 b = none → H b = none) → H2 f = some (LmO f ⟨"<lambda>", q, params, [], scope, cloFrom X.env.cells scope.names [], c'⟩ body) → H2 c' = some (CodeO c' q) → Q (.ref f) s2) :
    wpAny (model X.prog X.w) X.A (eval (.Lambda params body scope pos) X.env) Q E s := by
  subst hq
  obtain ⟨tb, tP, tOk, tAll⟩ := hT
  refine PySem.W.kla_eval hdef ?_
  have old : s.heap.get? P = some { cls := .none, data := .fields tb } := I.hok P _ tP
  have blt : s.heap.BuiltinsAt X.mg P := TB.bm.keeps I.bk
  cases found : codeAmong pos tb.toList with
  | some cv =>
    obtain ⟨c0, rfl, c0O⟩ := tAll pos cv found
    refine PySem.W.kla_makeFunctionHit (mg := X.mg) (c := c) (P := P) (ps := tb) (closure_ok hfree) I.ok.glob (I.mod.glob.keeps I.bk) hcode (TB.code.keeps I.bk) old tOk found blt fun ctv hh tk grown hsz => ?_
    have J : Inv X pins σ H { s with heap := hh, toks := tk } := I.kept grown
    have nf : H hh.objs.size = none := J.hok.fresh (Nat.le_refl _)
    have ext : ∀ b o, H b = some o → upd H hh.objs.size (LmO hh.objs.size ⟨"<lambda>", X.env.qual ++ "<lambda>", params, [], scope, cloFrom X.env.cells scope.names [], c0⟩ body) b = some o := fun b o e => (upd_ne (ne_of_none e nf)).trans e
    refine k hh.objs.size c0 _ _ (lm_track (F := ⟨"<lambda>", X.env.qual ++ "<lambda>", params, [], scope, cloFrom X.env.cells scope.names [], c0⟩) J) (fun b o _ e => ext b o e) (TabS.ext ⟨tb, tP, tOk, tAll⟩ ext) (fun b e => upd_none e) upd_same (ext _ _ c0O)
  | none =>
    refine PySem.W.kla_makeFunction (mg := X.mg) (c := c) (P := P) (ps := tb) (closure_ok hfree) I.ok.glob (I.mod.glob.keeps I.bk) hcode (TB.code.keeps I.bk) old tOk found TB.gP blt fun c1 ctv hh tk grown hge hlt hrec htb => ?_
    obtain ⟨c2, oc, vs, t, e2, hoc, hd, hv⟩ := hrec
    cases e2
    have nC : H c1 = none := I.hok.fresh hge
    have nCP : P ≠ c1 := ne_of_none tP nC
    have J := inv_table (q := X.env.qual ++ "<lambda>") (t' := tk) (more := #[rawInt pos.line, rawInt pos.col, .ref c1]) (h' := hh) I tP (fun b o hb e => grown b o hb e) htb hge ⟨oc, vs, t, hoc, hd, hv⟩
    have nf := J.hok.fresh (Nat.le_refl hh.objs.size)
    have J2 := lm_track (F := ⟨"<lambda>", X.env.qual ++ "<lambda>", params, [], scope, cloFrom X.env.cells scope.names [], c1⟩) (b := body) (pm := (X.mg "__name__").getD .none) (ctv := ctv) (t' := tk) J
    have ext : ∀ b o, b ≠ P → H b = some o → upd (upd H P (.tbl (tb ++ #[rawInt pos.line, rawInt pos.col, .ref c1]))) c1 (CodeO c1 (X.env.qual ++ "<lambda>")) b = some o := fun b o hb e => by
      rw [upd_ne (ne_of_none e nC), upd_ne hb]
      exact e
    have e1 : upd (upd H P (.tbl (tb ++ #[rawInt pos.line, rawInt pos.col, .ref c1]))) c1 (CodeO c1 (X.env.qual ++ "<lambda>")) P = some (.tbl (tb ++ #[rawInt pos.line, rawInt pos.col, .ref c1])) := by
      rw [upd_ne nCP]
      exact upd_same
    have el : (tb ++ #[rawInt pos.line, rawInt pos.col, .ref c1]).toList = tb.toList ++ [rawInt pos.line, rawInt pos.col, .ref c1] := by simp
    have tS : TabS (upd (upd H P (.tbl (tb ++ #[rawInt pos.line, rawInt pos.col, .ref c1]))) c1 (CodeO c1 (X.env.qual ++ "<lambda>"))) P (X.env.qual ++ "<lambda>") := by
      refine ⟨_, e1, by rw [el]; exact PySem.TriplesOk_snoc _ _ _ _ tOk, fun p' cv hcv => ?_⟩
      rw [el] at hcv
      rcases among_app _ tOk hcv with z | z
      · obtain ⟨c0, a1, a2⟩ := tAll p' cv z
        exact ⟨c0, a1, ext _ _ (fun z => by rw [z, tP] at a2; cases a2) a2⟩
      · exact ⟨c1, z, upd_same⟩
    have lay := fun b o (e : upd (upd H P (.tbl (tb ++ #[rawInt pos.line, rawInt pos.col, .ref c1]))) c1 (CodeO c1 (X.env.qual ++ "<lambda>")) b = some o) => (upd_ne (o := LmO hh.objs.size ⟨"<lambda>", X.env.qual ++ "<lambda>", params, [], scope, cloFrom X.env.cells scope.names [], c1⟩ body) (ne_of_none e nf)).trans e
    exact k hh.objs.size c1 _ _ J2 (fun b o hb e => lay _ _ (ext b o hb e)) (tS.ext lay) (fun b e => upd_none (upd_none (upd_none e))) upd_same (lay _ _ upd_same)
end
/-- a lambda's reading: its table tells code objects of the one name -/
def tLam1 (P : Addr) (q : Str) (mk : Addr → NF) (b : Expr) : TE := fun _ H Q => TabS H P q ∧ ∀ (f c' : Addr) (H2 : Hp), (∀ b o, b ≠ P → H b = some o → H2 b = some o) → TabS H2 P q → (∀ b, H2 b = none → H b = none) → H2 f = some (LmO f (mk c') b) → H2 c' = some (CodeO c' q) → Q (.ref f) H2
/-- the words of a lambda -/
def lamF (q : Str) (params : Arguments) (scope : Scope) (cl : List (Str × Addr)) (c : Addr) : NF := ⟨"<lambda>", q, params, [], scope, cl, c⟩
theorem pe_lam1 {X : Cx} {c P : Addr} {q : Str} {params : Arguments} {body : Expr} {scope : Scope} {pos : Pos} (TB : LamX.TabB X.base X.mg c P) (hcode : X.env.code = .ref c) (hq : X.env.qual ++ "<lambda>" = q) (hdef : defaultsOf params X.env = ([], []))
    (hfree : ∀ y ∈ scope.names, y.2 = .free → X.env.scope.names.lookup y.1 = some .cell ∨ X.env.scope.names.lookup y.1 = some .free) :
    PE X (.Lambda params body scope pos) (tLam1 P q (lamF q params scope (cloFrom X.env.cells scope.names [])) body) := by
  refine ⟨fun pins s σ H Q I h => ?_⟩
  obtain ⟨hT, h⟩ := h
  refine lam_new I TB hcode hT hq hdef (fun y hy e => (hfree y hy e).elim (fun z => I.ok.has _ (.inl z)) fun z => I.ok.has _ (.inr z)) fun f c' H2 s2 I2 h1 h2 h3 h4 h5 => ⟨.ref f, H2, I2, rfl, h f c' H2 h1 h2 h3 h4 h5⟩
/-- the promise of a lambda that lets nothing out -/
structure LOk (P : Program) (w : World) (K : PySem.W.Frag) (mg : Str → Option Value) (base : Heap) (k : Nat) (mk : Addr → NF) (b : Expr) (ps fr : List Str) (sp : List (Option V) → List V → Hp → VK → Prop) : Prop where
  len : ∀ ws vs H Q, sp ws vs H Q → vs.length = ps.length
  run : ∀ (f c' : Addr) (A : Around) (outer : List Env) (s : Shared) (H : Hp) (us : List Value) (vs : List V) (ws : List (Option V)) (Q : VK), Room k A → Env0 P w K mg base A outer s H → H f = some (LmO f (mk c') b) → H c' = some (CodeO c' (mk c').qual) → CellsAt (mk c').cl fr ws s.heap H → Vals vs us → sp ws vs H Q →
    codeAny (model P w) A (.call (.ref f) ⟨us, []⟩) (CR CX0 outer P w H s Q E0) s
section
variable {P : Program} {w : World} {K : PySem.W.Frag} {mg : Str → Option Value} {base : Heap} {N ps fr : List Str} {q : Str} {params : Arguments} {scope : Scope} {cl : List (Str × Addr)} {b : Expr} {k : Nat} {sp : List (Option V) → List V → Hp → VK → Prop}
theorem lok_of (S : NScope N ps fr scope) (hb : ∀ (pm ctv : Value) (c' : Addr) (us : List Value), us.length = ps.length → bindArgs (PySem.W.kla_fn "<lambda>" q params b scope cl pm (.ref c') ctv) ⟨us, []⟩ = pure (ps.zip us)) (len : ∀ ws vs H Q, sp ws vs H Q → vs.length = ps.length)
    (hbody : ∀ (f c' : Addr) (A : Around) (outer : List Env) (s : Shared) (H : Hp) (vs : List V) (ws : List (Option V)) (Q : VK), Room k (A.deeper (envF (lamF q params scope cl c') f s.heap.objs.size)) → ws.length = fr.length → sp ws vs H Q →
      ∃ t, PE (ncx CX0 P w K mg base N (lamF q params scope cl c') f A outer s H E0) b t ∧ t (startF N vs ws) H Q) : LOk P w K mg base (k + 1) (lamF q params scope cl) b ps fr sp := by
  refine ⟨len, fun f c' A outer s H us vs ws Q hr e0 hf hc C r hsp => ?_⟩
  have hl := len _ _ _ _ hsp
  have lim : s.heap.NoLimit := e0.mod.nolimit.keeps fun b o e => (e0.bs b o e).1
  obtain ⟨pm, ctv, ho⟩ := lm_at e0.hok hf
  refine PySem.W.kla_callFunE hr.depth ho rfl S.co S.gen rfl (codeO_at e0.hok hc) ?_
  show wpAny _ _ (bindArgs (PySem.W.kla_fn "<lambda>" q params b scope cl pm (.ref c') ctv) ⟨us, []⟩) _ _ _
  rw [hb pm ctv c' us (by rw [← r.length]; exact hl)]
  refine wpAny_pure (wpAny_newFunctionEnv S.nocell (fun ⟨n, _⟩ hy => S.par n (List.of_mem_zip hy).1) (fun h₁ hns hsb => ⟨lim.fresh _ hsb, ?_⟩) S.kind)
  show codeAny _ _ (.expr b (envF (lamF q params scope cl c') f s.heap.objs.size)) _ _
  have kp : ∀ a o, s.heap.get? a = some o → h₁.get? a = some o := fun a o e => hsb.extBut a o (Nat.ne_of_lt (Heap.lt_size e)) (Heap.get?_push_of_some _ e)
  obtain ⟨t, ht, hq⟩ := hbody f c' A outer s H vs ws Q (hr.deeper _) C.len hsp
  have I : Inv (ncx CX0 P w K mg base N (lamF q params scope cl c') f A outer s H E0) [] (startF N vs ws) H { s with heap := h₁, toks := s.toks + (ps.zip us).length } := inv_startN S hr.hd e0 hl r C hns kp
  refine PySem.W.kla_codeExpr (wpAny_mono (ht.run [] _ (startF N vs ws) H Q I hq) (fun v s' hs => ?_) fun e s' hs => hs)
  obtain ⟨x, H', J, rv, q2⟩ := hs
  exact ⟨x, H', J.os, J.bare, J.base, J.hok, rv, q2⟩
end
/-- what cells held at a frame's entry they hold still, whosever they are -/
theorem cells_still {X : Cx} {pins : List (Addr × Obj)} {σ : L2.St} {H : Hp} {s : Shared} {cl : List (Str × Addr)} {fr : List Str} {ws : List (Option V)} (C : CellsAt cl fr ws X.s_0.heap X.H_0) (hx : X.ex = []) (I : Inv X pins σ H s) : CellsAt cl fr ws s.heap H := by
  have nx : ∀ a : Addr, a ∉ X.ex := fun a z => by rw [hx] at z; cases z
  have kp : ∀ a, X.H_0 a = none → ∀ v, X.s_0.heap.IsCell a v → s.heap.IsCell a v := fun a n v ⟨o, ho, hd⟩ => by
    obtain ⟨sl, h1⟩ := I.base.any ho n (nx a)
    exact ⟨_, h1, hd⟩
  refine ⟨C.len, fun y c e => ?_, C.inj, fun i y e => ?_⟩
  · obtain ⟨n, v, z⟩ := C.all y c e
    refine ⟨?_, v, kp c n v z⟩
    obtain ⟨o, ho, _⟩ := z
    exact I.base.free c o ho n (nx c)
  · obtain ⟨c, hc, hv⟩ := C.has i y e
    refine ⟨c, hc, fun v ev => ?_⟩
    obtain ⟨u, r, z⟩ := hv v ev
    exact ⟨u, r, kp c (C.all y c hc).1 _ z⟩
/-- a lambda called: the i-th slot holds it -/
def tActL (i : Nat) (f c' : Addr) (mk : Addr → NF) (b : Expr) (sp : List V → Hp → VK → Prop) (t : TA) : TE := fun σ H Q => σ[i]? = some (some (.ref f)) ∧ H f = some (LmO f (mk c') b) ∧ t σ H fun vs H1 => H1 f = some (LmO f (mk c') b) ∧ H1 c' = some (CodeO c' (mk c').qual) ∧ sp vs H1 Q
section
variable {Z : Cx} {k i j : Nat} {mk : Addr → NF} {b : Expr} {ps fr : List Str} {sp : List (Option V) → List V → Hp → VK → Prop} {f c' : Addr} {ws : List (Option V)} {x : Str} {p pos : Pos} {e : Expr} {es : List Expr} {t : TA}
theorem pe_actL (L : LOk Z.prog Z.w Z.K Z.mg Z.base k mk b ps fr sp) (C : CellsAt (mk c').cl fr ws Z.s_0.heap Z.H_0) (hex : Z.ex = []) (hr : Room k Z.A) (hN : Z.N[i]? = some x) (hv : Vis Z.env.scope x) (ha : PA Z (e :: es) t)
    (hd : (x == ("__debug__" : Str)) = false := by decide) (hcd : (x == ("__classdict__" : Str)) = false := by decide)
    (he : starEach (e :: es) Z.env = (false, eval e Z.env) :: starEach es Z.env := by rfl) (hpl : (backTo pos (starEach es Z.env)).any (·.1) = false := by rfl) :
    PE Z (.Call (.Name x p) (e :: es) [] pos) (tActL i f c' mk b (sp ws) t) := by
  refine ⟨fun pins s σ H Q I h => ?_⟩
  obtain ⟨hs, hf0, ht⟩ := h
  refine wpAny_Call_Name_kw (thn ((pe_var (pos := p) hN hv hd hcd).run pins s σ H (fun v H1 => v = .ref f ∧ H1 f = some (LmO f (mk c') b) ∧ t σ H1 fun vs H2 => H2 f = some (LmO f (mk c') b) ∧ H2 c' = some (CodeO c' (mk c').qual) ∧ sp ws vs H2 Q) I ⟨.ref f, hs, rfl, hf0, ht⟩) fun u s1 ⟨v, H1, I1, r1, q1⟩ => ?_)
  obtain ⟨rfl, hf1, q1⟩ := q1
  obtain rfl : u = Value.ref f := r1
  have hF : PySem.W.FnAt f s1.heap := by
    obtain ⟨pm, ctv, ho⟩ := lm_at I1.hok hf1
    exact ⟨_, _, _, _, ho⟩
  refine PySem.W.callWith_F (first := []) hF (thn (ha.run pos pins s1 σ H1 _ I1 q1) fun us s2 ⟨vs, H2, I2, r, h1, h2, q⟩ => ?_) he hpl
  obtain ⟨pm, ctv, ho⟩ := lm_at I2.hok h1
  refine ⟨⟨_, _, _, _, ho⟩, ?_⟩
  show wpAny _ _ (call (.ref f) us) _ _ _
  refine wpAny_call (codeAny_mono (L.run f c' Z.A Z.stack s2 H2 us vs ws Q hr I2.env0 h1 h2 (cells_still C hex I2) r q) fun r s' hq => ?_)
  cases r with
  | error e => exact (show False from hq).elim
  | ok fl =>
    cases fl with
    | ret u => exact I2.after hq
    | next => exact False.elim hq
    | brk => exact False.elim hq
    | cont => exact False.elim hq
/-- a def that gets a lambda as its last thing, and its promise -/
structure GOk (P : Program) (w : World) (K : PySem.W.Frag) (mg : Str → Option Value) (base : Heap) (k : Nat) (g : Addr) (fd : FuncData) (ps : List Str) (mk : Addr → NF) (b : Expr) (fr : List Str) (sp : List (Option V) → List V → Hp → VK → Prop) : Prop where
  len : ∀ ws vs H Q, sp ws vs H Q → vs.length = ps.length
  run : ∀ (A : Around) (outer : List Env) (s : Shared) (H : Hp) (us : List Value) (vs : List V) (ws : List (Option V)) (f c' : Addr) (Q : VK), Room k A → Env0 P w K mg base A outer s H → vs.getLast? = some (.ref f) → H f = some (LmO f (mk c') b) → H c' = some (CodeO c' (mk c').qual) →
    CellsAt (mk c').cl fr ws s.heap H → BindsTo s fd ⟨us, []⟩ (ps.zip us) → Vals vs us → sp ws vs H Q → codeAny (model P w) A (.call (.ref g) ⟨us, []⟩) (CR CX0 outer P w H s Q E0) s
/-- g(.., lambda ..) -/
def tCallG (mk : Addr → NF) (b : Expr) (js : List Nat) (sp : List (Option V) → List V → Hp → VK → Prop) (t : TA) : TE := fun σ H Q => t σ H fun vs H1 => ∃ f c', vs.getLast? = some (.ref f) ∧ H1 f = some (LmO f (mk c') b) ∧ H1 c' = some (CodeO c' (mk c').qual) ∧ sp (js.map (slotAt σ)) vs H1 Q
theorem pe_callG {X : Cx} {g : Addr} {fd : FuncData} {js : List Nat} {cl : List (Str × Addr)} (G : GOk X.prog X.w X.K X.mg X.base k g fd ps mk b fr sp) (hcl : ∀ c', (mk c').cl = cl) (cp : X.Ok → Caps X cl fr js) (hr : Room k X.A) (hg : Gl X x) (hm : X.mg x = some (.ref g)) (hk : PySem.W.keepIn X.K (.ref g) = true) (hb : Binds X.K fd ps [])
    (ha : PA X (e :: es) t) (hdb : (x == ("__debug__" : Str)) = false := by decide) (he : starEach (e :: es) X.env = (false, eval e X.env) :: starEach es X.env := by rfl) (hpl : (backTo pos (starEach es X.env)).any (·.1) = false := by rfl) :
    PE X (.Call (.Name x p) (e :: es) [] pos) (tCallG mk b js sp t) := by
  refine ⟨fun pins s σ H Q I h => ?_⟩
  refine wpAny_Call_Name_kw (ld_glob I hg hm ?_ hdb)
  refine PySem.W.callWith_K (h₀ := X.base) I.ok.mod.kin hk (thn (ha.run pos pins s σ H _ I h) fun us s2 ⟨vs, H2, I2, r, f, c', h0, h1, h2, q⟩ => ⟨I2.kIn, ?_⟩) he hpl
  show wpAny _ _ (call (.ref g) us) _ _ _
  have hl : us.length = ps.length := by rw [← r.length]; exact G.len _ _ _ _ q
  have bd := hb s2 us I2.kIn (by rw [List.append_nil]; exact hl)
  rw [List.append_nil] at bd
  refine wpAny_call (codeAny_mono (G.run X.A X.stack s2 H2 us vs _ f c' Q hr I2.env0 h0 h1 h2 (by rw [hcl c']; exact cells_of I2 (cp I2.ok)) bd r q) fun r s' hq => ?_)
  cases r with
  | error e => exact (show False from hq).elim
  | ok fl =>
    cases fl with
    | ret u => exact I2.after hq
    | next => exact False.elim hq
    | brk => exact False.elim hq
    | cont => exact False.elim hq
/-- such a def by its body -/
theorem gok_of {P : Program} {w : World} {K : PySem.W.Frag} {mg : Str → Option Value} {base : Heap} {x : Str} {st : Stmt} {g : Addr} {fd : FuncData} {N : List Str} (F : Fun K x x st g fd) (S : FnScope N ps (defScope st)) (len : ∀ ws vs H Q, sp ws vs H Q → vs.length = ps.length)
    (hbody : ∀ (cdv : Value) (A : Around) (outer : List Env) (s : Shared) (H : Hp) (vs : List V) (ws : List (Option V)) (f c' : Addr) (Q : VK), Room k (A.deeper (envOfC x (defScope st) s.heap.objs.size g cdv)) → vs.getLast? = some (.ref f) → H f = some (LmO f (mk c') b) → H c' = some (CodeO c' (mk c').qual) → CellsAt (mk c').cl fr ws s.heap H → sp ws vs H Q →
      ∃ t, PSs (cxOf CX0 P w K mg base N x (defScope st) g cdv A outer s H E0).nox (defBody st) t ∧ t { nx := fun _ H' => Q .non H', rt := Q } (start N vs) H) : GOk P w K mg base (k + 1) g fd ps mk b fr sp := by
  obtain ⟨oc, od, kV, doc, pm, an, cdv, ct, osl, rfl, lk, hcd⟩ := F.ex
  refine ⟨len, fun A outer s H us vs ws f c' Q hr e0 h0 h1 h2 C bd r q => ?_⟩
  refine run_ofS (N := N) lk hcd S hr e0 bd r (len _ _ _ _ q) fun hr' => ?_
  obtain ⟨t, h3, h4⟩ := hbody cdv A outer s H vs ws f c' Q hr' h0 h1 h2 C q
  exact ⟨t, h3.nox, h4⟩
end
end Lk

/-! ## Top -/
set_option Elab.async false
set_option maxRecDepth 100000
namespace Lk
open PySem
/-- the i-th statement of the program -/
def top (i : Nat) : Stmt := PySem.Challenge.pw_likespite_k10_whole_benches.main.body.getD i (.Pass ⟨0, 0, 0, 0⟩)
end Lk

/-! ## D01 -/
set_option Elab.async false
set_option linter.all false
set_option maxRecDepth 100000
set_option maxHeartbeats 2000000
namespace Lk
open PySem PySem.Spec PyProof.Rows L2 Gx
open GxR (TabG Tabbed TabB)
variable [Own]
abbrev sIsWhole : Stmt := top 21
def isWhole (i lo hi : Int) : Bool := decide (lo ≤ i) && decide (i ≤ hi)
def spIsWhole : Sp := fun vs H Q _ => ∃ i lo hi : Int, vs = [.int i, .int lo, .int hi] ∧ Q (.bl (isWhole i lo hi)) H
section
variable {P : Program} {w : World} {K : PySem.W.Frag} {mg : Str → Option Value} {base : Heap}
theorem scIsWhole : FnScope ["value", "least", "most"] ["value", "least", "most"] (defScope sIsWhole) := ⟨rfl, rfl, rfl, by decide +kernel, rfl, by decide +kernel, by decide +kernel⟩
theorem boot_isinstance : bootBuiltins "isinstance" = some (.builtin "isinstance") := by decide +kernel
theorem boot_tyInt : bootBuiltins "int" = some (.type "int") := by decide +kernel
theorem boot_tyBool : bootBuiltins "bool" = some (.type "bool") := by decide +kernel
theorem ok_is_whole {f : Addr} {fd : FuncData} (F : Fun K "is_whole" "is_whole" sIsWhole f fd) (ni : mg "isinstance" = none) (nI : mg "int" = none) (nB : mg "bool" = none) : FnOk P w K mg base CX0 1 f fd ["value", "least", "most"] spIsWhole := by
  refine F.ok scIsWhole (fun vs H Q E h => ?_) (fun cdv A outer s H vs Q E hr h => ?_)
  · obtain ⟨i, lo, hi, rfl, _⟩ := h
    rfl
  · obtain ⟨i, lo, hi, rfl, k⟩ := h
    refine ⟨_, pss_one (ps_ret (pe_and (pe_callB call_isi (by rfl) ni boot_isinstance (pa_cons (pv 0) (pa_cons (pe_bltn (v := .ty "int") (by rfl) nI boot_tyInt rfl) pa_nil)))
      (pe_and (pe_not (pe_callB call_isi (by rfl) ni boot_isinstance (pa_cons (pv 0) (pa_cons (pe_bltn (v := .ty "bool") (by rfl) nB boot_tyBool rfl) pa_nil))))
      (pe_one (pe_chain op_le op_le (pv 1) (pv 0) (pv 2)))))), ?_⟩
    refine ⟨_, rfl, _, _, _, _, true, rfl, .ty "int", isi_int i, kit_ty (by decide +kernel), _, rfl, iteT ?_⟩
    refine ⟨_, rfl, _, _, _, _, false, rfl, .ty "bool", isi_int i, kit_ty (by decide +kernel), _, rfl, _, rfl, iteT ?_⟩
    refine ⟨_, rfl, _, rfl, _, _, rfl, rfl, _, rfl, ?_⟩
    unfold isWhole at k
    by_cases h : lo ≤ i
    · rw [decide_eq_true h, Bool.true_and] at k
      rw [decide_eq_true h]
      refine iteT ?_
      refine ⟨_, rfl, _, _, rfl, rfl, ?_⟩
      exact k
    · rw [decide_eq_false h, Bool.false_and] at k
      rw [decide_eq_false h]
      exact iteF k
end
end Lk

/-! ## D02 -/
set_option Elab.async false
set_option linter.all false
set_option maxRecDepth 100000
set_option maxHeartbeats 2000000
namespace Lk
open PySem PySem.Spec PyProof.Rows L2 Gx
open GxR (TabG Tabbed TabB)
variable [Own]
theorem iteTF {A B : Prop} (h : B) : if true = false then A else B := by
  rw [if_neg (by decide)]
  exact h
theorem iteFF {A B : Prop} (h : A) : if false = false then A else B := by
  rw [if_pos rfl]
  exact h
theorem ite_of {c : Bool} {A B : Prop} (h1 : c = true → A) (h2 : c = false → B) : if c = true then A else B := by
  cases c with
  | true => exact iteT (h1 rfl)
  | false => exact iteF (h2 rfl)
theorem iteb {c : Bool} {A B : Prop} (hc : c = true) (h : A) : if c = true then A else B := by rw [hc]; exact iteT h
theorem itebf {c : Bool} {A B : Prop} (hc : c = false) (h : B) : if c = true then A else B := by rw [hc]; exact iteF h
theorem yes {σ : L2.St} {H : Hp} {A B : Hp → Prop} (h : A H) : tYes σ H fun b H' => if b = true then A H' else B H' := by
  show if true = true then A H else B H
  exact iteT h
theorem boot_tyTuple : bootBuiltins "tuple" = some (.type "tuple") := by decide +kernel
theorem boot_tyList : bootBuiltins "list" = some (.type "list") := by decide +kernel
theorem boot_tyStr : bootBuiltins "str" = some (.type "str") := by decide +kernel
theorem boot_set : bootBuiltins "set" = some (.type "set") := by decide +kernel
theorem boot_max : bootBuiltins "max" = some (.builtin "max") := by decide +kernel
theorem boot_sorted : bootBuiltins "sorted" = some (.builtin "sorted") := by decide +kernel
theorem isi_tup {K : PySem.W.Frag} {H : Hp} {a : Addr} {xs : List V} (h : H a = some (.tup xs)) : TyX K H (.ref a) (.type "tuple") := .base (.tup h)
/-- a written number of the module -/
def Num (mg : Str → Option Value) (x : Str) (n : Int) : Prop := ∃ t, mg x = some (.int n t)
theorem pe_num {X : Cx} {x : Str} {n : Int} {pos : Pos} (h : Num X.mg x n) (hg : Gl X x) (hd : (x == ("__debug__" : Str)) = false := by decide) : PE X (.Name x pos) (tC (.int n)) := by
  obtain ⟨t, h⟩ := h
  exact pe_glob hg h ⟨t, rfl⟩ hd
/-- the names of the built-ins that the module has not made its own -/
structure Blt (mg : Str → Option Value) : Prop where
  isi : mg "isinstance" = none
  int : mg "int" = none
  bool : mg "bool" = none
  tuple : mg "tuple" = none
  list : mg "list" = none
  set : mg "set" = none
  len : mg "len" = none
  all : mg "all" = none
  range : mg "range" = none
  sorted : mg "sorted" = none
  enum : mg "enumerate" = none
  zip : mg "zip" = none
  max : mg "max" = none
  str : mg "str" = none
  sup : mg "super" = none
structure Nums (mg : Str → Option Value) : Prop where
  MOST_FOLK : Num mg "MOST_FOLK" 6
  MOST_TOP : Num mg "MOST_TOP" 3
  MOST_LOOKS : Num mg "MOST_LOOKS" 14
  MOST_LOOKS_OF_ONE : Num mg "MOST_LOOKS_OF_ONE" 4
end Lk


/-! ## Dat -/
set_option Elab.async false
set_option linter.all false
set_option maxRecDepth 100000
set_option maxHeartbeats 2000000
/-! Tuples and lists of ints as data: when two are equal. -/
namespace Lk
open PySem PySem.Spec PyProof.Rows L2 Gx
variable [Own]
abbrev dI (ns : List Int) : PyData := .tuple (ns.map .int)
theorem eqv_ii (a b : Int) : PyData.eqv (.int a) (.int b) = decide (a = b) := by
  simp only [PyData.eqv]
  first | rfl | exact Bool.beq_eq_decide_eq .. | (by_cases h : a = b <;> simp [h])
theorem eqvAll_ints : ∀ a b : List Int, PyData.eqvAll (a.map .int) (b.map .int) = decide (a = b)
  | [], [] => by simp [PyData.eqvAll]
  | [], _ :: _ => by simp [PyData.eqvAll]
  | _ :: _, [] => by simp [PyData.eqvAll]
  | x :: xs, y :: ys => by
    rw [List.map_cons, List.map_cons]
    simp only [PyData.eqvAll]
    rw [eqv_ii, eqvAll_ints xs ys]
    by_cases h1 : x = y <;> by_cases h2 : xs = ys <;> simp [h1, h2]
theorem eqv_tt (a b : List Int) : PyData.eqv (dI a) (dI b) = decide (a = b) := by
  show PyData.eqv (.tuple _) (.tuple _) = _
  simp only [PyData.eqv]
  exact eqvAll_ints a b
theorem eqvAll_rows : ∀ a b : List (List Int), PyData.eqvAll (a.map dI) (b.map dI) = decide (a = b)
  | [], [] => by simp [PyData.eqvAll]
  | [], _ :: _ => by simp [PyData.eqvAll]
  | _ :: _, [] => by simp [PyData.eqvAll]
  | x :: xs, y :: ys => by
    rw [List.map_cons, List.map_cons]
    simp only [PyData.eqvAll]
    rw [eqv_tt, eqvAll_rows xs ys]
    by_cases h1 : x = y <;> by_cases h2 : xs = ys <;> simp [h1, h2]
theorem eqv_ll (a b : List (List Int)) : PyData.eqv (.list (a.map dI)) (.list (b.map dI)) = decide (a = b) := by
  simp only [PyData.eqv]
  exact eqvAll_rows a b
theorem canLay_ints : ∀ a : List Int, PyData.canLayAll0 (a.map .int) = true
  | [] => by simp [PyData.canLayAll0]
  | x :: xs => by
    rw [List.map_cons]
    simp only [PyData.canLayAll0, PyData.canLay0, canLay_ints xs, Bool.and_self]
theorem canLay_rows : ∀ a : List (List Int), PyData.canLayAll0 (a.map dI) = true
  | [] => by simp [PyData.canLayAll0]
  | x :: xs => by
    rw [List.map_cons]
    simp only [PyData.canLayAll0, PyData.canLay0, canLay_ints x, canLay_rows xs, Bool.and_self]
theorem depth_ints : ∀ a : List Int, PyData.depthAll (a.map .int) = 0
  | [] => by simp [PyData.depthAll]
  | x :: xs => by
    rw [List.map_cons]
    simp only [PyData.depthAll, PyData.depth, depth_ints xs, Nat.max_self]
theorem depth_rows : ∀ a : List (List Int), PyData.depthAll (a.map dI) ≤ 1
  | [] => by simp [PyData.depthAll]
  | x :: xs => by
    rw [List.map_cons]
    have h := depth_rows xs
    simp only [PyData.depthAll, PyData.depth, depth_ints x]
    omega
theorem shaped_t (a : List Int) : SeqAt.shaped (dI a) = true := by
  unfold SeqAt.shaped
  simp only [PyData.canLay0, canLay_ints a, PyData.depth, depth_ints a, Bool.true_and]
  decide
theorem shaped_l (a : List (List Int)) : SeqAt.shaped (.list (a.map dI)) = true := by
  unfold SeqAt.shaped
  have h := depth_rows a
  simp only [PyData.canLay0, canLay_rows a, PyData.depth, Bool.true_and]
  exact decide_eq_true (by omega)
theorem shaped_tl (a : List (List Int)) : SeqAt.shaped (.tuple (a.map dI)) = true := by
  unfold SeqAt.shaped
  have h := depth_rows a
  simp only [PyData.canLay0, canLay_rows a, PyData.depth, Bool.true_and]
  exact decide_eq_true (by omega)
section
variable {K : PySem.W.Frag} {H : Hp}
theorem dpAll_ints : ∀ ns : List Int, DpAll K H (iv ns) (ns.map .int)
  | [] => .nil
  | n :: ns => .cons (.int n) (dpAll_ints ns)
theorem TI.dp {v : V} {ns : List Int} (h : TI H v ns) : Dp K H v (dI ns) := by
  obtain ⟨a, rfl, h⟩ := h
  exact .tup (SqT.of h) (dpAll_ints ns)
theorem pTI.dp : ∀ {vs : List V} {rows : List (List Int)}, Paired (TI H) vs rows → DpAll K H vs (rows.map dI)
  | _, _, .nil => .nil
  | _, _, .cons r t => .cons r.dp (pTI.dp t)
theorem LT2.dp {v : V} {rows : List (List Int)} (h : LT2 H v rows) : Dp K H v (.list (rows.map dI)) := by
  obtain ⟨a, vs, rfl, h, p⟩ := h
  exact .lst (SqL.of h) (pTI.dp p)
theorem TT2.dp {v : V} {rows : List (List Int)} (h : TT2 H v rows) : Dp K H v (.tuple (rows.map dI)) := by
  obtain ⟨a, vs, rfl, h, p⟩ := h
  exact .tup (SqT.of h) (pTI.dp p)
end
end Lk

/-! ## LkT -/
set_option Elab.async false
set_option linter.all false
set_option maxRecDepth 100000
set_option maxHeartbeats 2000000
/-! Rules over what is tracked alone (no word of the written part): for comprehensions and generators, too. -/
namespace Lk
open PySem PySem.Spec PyProof.Rows L2 Gx
variable [Own]
section
variable {X : Cx} {pos : Pos}
def gTupT (n : Nat) (t : TGs) : TG := fun v σ H Q => ∃ a xs, v = .ref a ∧ H a = some (.tup xs) ∧ xs.length = n ∧ t xs σ H Q
theorem pg_tupT {es : List Expr} {k : Nat} {t : TGs} {n : Nat} (hc : X.calm = true) (h : PGs X es t)
    (hn : (assignEach es X.env).length = n := by rfl) (hst : (assignEach es X.env).findIdx? (·.1) = none := by rfl) : PG X (.Tuple es k pos) (gTupT n t) := by
  refine ⟨fun pins s σ H v u Q I r hw => ?_⟩
  obtain ⟨a, xs, e1, hq, hl, hw⟩ := hw
  exact (pg_tup hc h hn hst).run pins s σ H v u Q I r ⟨a, xs, e1, SqT.of hq, hl, hw⟩
/-- t[i], of a tuple; xs[i], of a list -/
def rIxTT : R2 := fun x y H Q => ∃ p xs i v, x = .ref p ∧ y = .int i ∧ H p = some (.tup xs) ∧ atI xs i = some v ∧ Q v H
def rIxLT : R2 := fun x y H Q => ∃ p xs i v, x = .ref p ∧ y = .int i ∧ H p = some (.lst xs) ∧ atI xs i = some v ∧ Q v H
theorem ix_tT : IxR X rIxTT := by
  intro value slice pins s σ H x y v u Q I rx ry h hs
  obtain ⟨p, xs, i, z, e1, e2, hq, he, q⟩ := h
  exact ix_tup value slice pins s σ H x y v u Q I rx ry ⟨p, xs, i, z, e1, e2, SqT.of hq, he, q⟩ hs
theorem ix_lT : IxR X rIxLT := by
  intro value slice pins s σ H x y v u Q I rx ry h hs
  obtain ⟨p, xs, i, z, e1, e2, hq, he, q⟩ := h
  exact ix_list value slice pins s σ H x y v u Q I rx ry ⟨p, xs, i, z, e1, e2, SqL.of hq, he, q⟩ hs
/-- len of a tuple or a list -/
def rLenT : List V → Hp → VK → Prop := fun xs H Q => ∃ p ys, xs = [.ref p] ∧ (H p = some (.lst ys) ∨ H p = some (.tup ys)) ∧ Q (.int ys.length) H
theorem call_lenT : CallR X (.builtin "len") rLenT := by
  intro pins s σ H xs us Q I r h
  obtain ⟨p, ys, e, hq, q⟩ := h
  exact call_len_seq pins s σ H xs us Q I r ⟨p, ys, e, hq.imp SqL.of SqT.of, q⟩
/-- tuple + tuple -/
def rCatT : R2 := fun x y H Q => ∃ a b xs ys, x = .ref a ∧ y = .ref b ∧ H a = some (.tup xs) ∧ H b = some (.tup ys) ∧ xs.length + ys.length ≤ sizeLine ∧
  (xs = [] → Q (.ref b) H) ∧ (xs ≠ [] → ys = [] → Q (.ref a) H) ∧ (xs ≠ [] → ys ≠ [] → ∀ p, H p = none → Q (.ref p) (upd H p (.tup (xs ++ ys))))
theorem op_catTT : OpR X (binaryOp .Add) rCatT := by
  intro pins s σ H x y v u Q I rx ry h
  obtain ⟨a, b, xs, ys, e1, e2, h1, h2, q⟩ := h
  exact op_catA pins s σ H x y v u Q I rx ry ⟨a, b, xs, ys, e1, e2, SqT.of h1, SqT.of h2, q⟩
/-- tuple(list) -/
def kTupL : V → Hp → VK → Prop := fun x H Q => ∃ p xs, x = .ref p ∧ H p = some (.lst xs) ∧ ∀ q, H q = none → Q (.ref q) (upd H q (.tup xs))
def tTupleL (ta : TE) : TE := fun σ H Q => ta σ H fun x H1 => kTupL x H1 Q
theorem pe_tupleL {p : Pos} {a : Expr} {ta : TE} (hg : Gl X "tuple") (hm : X.mg "tuple" = none) (ha : PE X a ta) (hs : starEach [a] X.env = (false, eval a X.env) :: starEach [] X.env := by rfl) : PE X (.Call (.Name "tuple" p) [a] [] pos) (tTupleL ta) := by
  refine ⟨fun pins s σ H Q I h => ?_⟩
  exact Call_ (ld_blt I hg hm boot_tuple (PyProof.Rows.callWith_type1 (one_arg ha I h (fun v s2 x H2 I2 r q => by
    obtain ⟨p, xs, e, hp, q⟩ := q
    exact rl_tuple pins s2 σ H2 x v Q I2 r (.inl ⟨p, xs, e, SqL.of hp, q⟩)) hs) hs))
/-- two tuples of ints, two lists or tuples of such -/
def rEqTI : R2 := fun x y H Q => ∃ a b : List Int, TI H x a ∧ TI H y b ∧ Q (.bl (decide (a = b))) H
def rNeTI : R2 := fun x y H Q => ∃ a b : List Int, TI H x a ∧ TI H y b ∧ Q (.bl (!decide (a = b))) H
theorem op_eqTI (hu : X.A.units + 64 < cLine) : OpR X (compareOp .Eq) rEqTI := by
  intro pins s σ H x y v u Q I rx ry h
  obtain ⟨a, b, h1, h2, q⟩ := h
  exact op_eqD hu pins s σ H x y v u Q I rx ry ⟨_, _, h1.dp, h2.dp, shaped_t a, shaped_t b, by rw [eqv_tt]; exact q⟩
theorem op_neTI (hu : X.A.units + 64 < cLine) : OpR X (compareOp .NotEq) rNeTI := by
  intro pins s σ H x y v u Q I rx ry h
  obtain ⟨a, b, h1, h2, q⟩ := h
  exact op_neD hu pins s σ H x y v u Q I rx ry ⟨_, _, h1.dp, h2.dp, shaped_t a, shaped_t b, by rw [eqv_tt]; exact q⟩
def rNeLT2 : R2 := fun x y H Q => ∃ a b : List (List Int), LT2 H x a ∧ LT2 H y b ∧ Q (.bl (!decide (a = b))) H
theorem op_neLT2 (hu : X.A.units + 64 < cLine) : OpR X (compareOp .NotEq) rNeLT2 := by
  intro pins s σ H x y v u Q I rx ry h
  obtain ⟨a, b, h1, h2, q⟩ := h
  exact op_neD hu pins s σ H x y v u Q I rx ry ⟨_, _, h1.dp, h2.dp, shaped_l a, shaped_l b, by rw [eqv_ll]; exact q⟩
/-- state in a list of such -/
def rInTI : R2 := fun x y H Q => ∃ (a : List Int) (b : List (List Int)), TI H x a ∧ LT2 H y b ∧ Q (.bl (decide (a ∈ b))) H
theorem any_rows (a : List Int) : ∀ b : List (List Int), ((b.map dI).any fun z => PyData.eqv z (dI a)) = decide (a ∈ b)
  | [] => by simp
  | x :: xs => by
    rw [List.map_cons, List.any_cons, eqv_tt, any_rows a xs]
    by_cases h : x = a
    · simp [h]
    · have : ¬ a = x := fun z => h z.symm
      simp [h, this]
theorem op_inTI (hu : X.A.units + 65 < cLine) : OpR X (compareOp .In) rInTI := by
  intro pins s σ H x y v u Q I rx ry h
  obtain ⟨a, b, h1, h2, q⟩ := h
  exact op_inD hu pins s σ H x y v u Q I rx ry ⟨_, _, h1.dp, h2.dp, shaped_t a, shaped_l b, by rw [any_rows]; exact q⟩
/-- rows.index(row) -/
def rIndexTI : V → List V → Hp → VK → Prop := fun x xs H Q => ∃ (y : V) (a : List Int) (b : List (List Int)) (j : Nat), xs = [y] ∧ TI H y a ∧ LT2 H x b ∧ b[j]? = some a ∧ (∀ m, m < j → b[m]? ≠ some a) ∧ Q (.int (j : Nat)) H
theorem mt_indexTI (hu : X.A.units + 65 < cLine) : MtR X "list.index" rIndexTI := by
  intro pins s σ H x xs v us Q I rx ry h
  obtain ⟨y, a, b, j, e, h1, h2, hj, hm, q⟩ := h
  obtain ⟨p, vs, e2, h3, h4⟩ := id h2
  refine mt_indexD hu pins s σ H x xs v us Q I rx ry ⟨p, y, dI a, b.map dI, j, dI a, e2, e, by rw [← e2]; exact h2.dp, h1.dp, shaped_l b, shaped_t a, by rw [List.getElem?_map, hj]; rfl, by rw [eqv_tt]; simp, fun m z' hlt hz => ?_, q⟩
  rw [List.getElem?_map] at hz
  cases e3 : b[m]? with
  | none => rw [e3] at hz; cases hz
  | some r =>
    rw [e3] at hz
    cases hz
    rw [eqv_tt]
    refine decide_eq_false fun z => hm m hlt ?_
    rw [e3, z]
end
end Lk
namespace Lk
open PySem PySem.Spec PyProof.Rows L2 Gx
variable [Own]
/-- quant_it where the answer is a test's -/
theorem quant_test {want : Bool} {J : It} {n : Nat} {G : Hp → Prop} {Y : Nat → Hp → V → Hp → Prop} (w : Walk J n G Y) {g : TG} {tt : TT} {te : TE} {vs : List Nat} {σ : L2.St} {H2 : Hp} {R : Bool → Hp → Prop} (Pv : Nat → Hp → Prop) (h0 : Pv 0 H2) (hG : ∀ i H, i ≤ n → Pv i H → G H)
    (hs : ∀ i x H H', i < n → Pv i H → Y i H x H' → g x (wipe σ vs) H' fun σ2 H3 => wipe σ2 vs = wipe σ vs ∧ tt σ2 H3 fun b H4 => if b = true then te σ2 H4 fun y H5 => ∃ c, y = .bl c ∧ if c = want then (∃ d, V.bl want = .bl d ∧ R d H5) else Pv (i + 1) H5 else Pv (i + 1) H4)
    (hd : ∀ H, Pv n H → R (!want) H) :
    ∃ W : Nat → Nat → Hp → Prop, (∃ m, W 0 m H2) ∧ ∀ i m H, W i m H →
      (J.stop i H ∧ ∃ d, V.bl (!want) = .bl d ∧ R d H) ∨ (J.go i H ∧ 0 < m ∧ ∃ Nx : Hp → Prop, (∀ H', Nx H' → ∃ m', m' < m ∧ W (i + 1) m' H') ∧ ∀ x H', J.yld i H x H' → g x (wipe σ vs) H' fun σ2 H3 => wipe σ2 vs = wipe σ vs ∧ tt σ2 H3 fun b H4 =>
        if b = true then te σ2 H4 fun y H5 => ∃ c, y = .bl c ∧ if c = want then (∃ d, V.bl want = .bl d ∧ R d H5) else Nx H5 else Nx H4) :=
  quant_it (Q := fun x H => ∃ d, x = .bl d ∧ R d H) w Pv h0 hG hs fun H p => ⟨_, rfl, hd H p⟩
end Lk
namespace Lk
open PySem PySem.Spec PyProof.Rows L2 Gx
variable [Own]
section
variable {X : Cx}
/-- a list's method, called: the list is tracked -/
def tBML (r : V → List V → Hp → VK → Prop) (to : TE) (t : TA) : TE := fun σ H Q => to σ H fun x H1 => (∃ p xs, x = .ref p ∧ H1 p = some (.lst xs)) ∧ t σ H1 fun vs H2 => r x vs H2 Q
variable {o e : Expr} {es : List Expr} {to : TE} {t : TA} {name : Str} {apos cpos : Pos} {id : String} {r : V → List V → Hp → VK → Prop}
theorem pe_bmL (pa : PlainAttrs "list") (slot : Slot "list" name id) (hty : typeOf (.builtin id) = pure (.type "method_descriptor")) (hm : MtR X id r) (ho : PE X o to) (ha : PA X (e :: es) t)
    (hbase : attributeBase o name X.env (eval o X.env) = eval o X.env := by rfl)
    (hfew : ((backTo cpos (starEach (e :: es) X.env)).all (fun x => !x.1) && (backToKw cpos (keywordEach [] X.env)).all (fun x => x.1.isSome)
      && decide ((e :: es).length + ([] : List Keyword).length + (if ([] : List Keyword).isEmpty then 0 else 1) < 30)) = true := by rfl)
    (hline : (apos.endLine == cpos.line) = true := by rfl) (hs : starEach (e :: es) X.env = (false, eval e X.env) :: starEach es X.env := by rfl) (hplain : (backTo cpos (starEach es X.env)).any (·.1) = false := by rfl) :
    PE X (.Call (.Attribute o name apos) (e :: es) [] cpos) (tBML r to t) := by
  refine ⟨fun pins s σ H Q I h => ?_⟩
  refine wpAny_Call_method_late hbase hfew hline rfl (thn (ho.run pins s σ H _ I h) fun v s1 ⟨x, H1, I1, r1, ⟨p, xs, ex, hp⟩, q1⟩ => ?_)
  obtain ⟨h1, h2⟩ := tyV_is (T := "list") I1 r1 (by rw [ex]; exact .inl ⟨rfl, _, SqL.of hp⟩)
  refine ⟨"list", id, pa, slot, hty, h1, h2, ?_⟩
  have hA := ha.run cpos pins s1 σ H1 _ I1 q1
  rw [hs] at hA ⊢
  refine Calls.callWith_builtin (by show (false || (backTo cpos (starEach es X.env)).any (·.1)) = false; rw [hplain] <;> rfl) (Calls.evalArgs_plain ?_)
  exact thn hA fun us s2 ⟨vs, H2, I2, r2, q2⟩ => hm pins s2 σ H2 x vs v us Q I2 r1 r2 q2
def rCntL : V → List V → Hp → VK → Prop := fun x xs H Q => ∃ (p : Addr) (ns : List Int) (k : Int), x = .ref p ∧ xs = [.int k] ∧ H p = some (.lst (iv ns)) ∧ Q (.int (ns.count k : Nat)) H
theorem mt_cntL : MtR X "list.count" rCntL := by
  intro pins s σ H x xs v us Q I rx ry h
  obtain ⟨p, ns, k, e1, e2, h1, q⟩ := h
  exact mt_lcount pins s σ H x xs v us Q I rx ry ⟨p, ns, k, e1, e2, SqL.of h1, q⟩
end
/-- a range's turns -/
theorem rng_len {i : Nat} {H : Hp} {x : V} {H' : Hp} (y : YFn (fun i => V.int (0 + (i : Int))) i H x H') : H' = H ∧ x = .int (i : Int) := by
  obtain ⟨e, ex⟩ := y
  exact ⟨e, ex.trans (by show V.int (0 + ((i : Nat) : Int)) = _; rw [Int.zero_add])⟩
/-- two ascending lists of the same things -/
theorem asc_eq {α : Type} {f : α → Int} : ∀ {l m : List α}, l.Pairwise (fun x y => f x < f y) → m.Pairwise (fun x y => f x < f y) → (∀ x, x ∈ l ↔ x ∈ m) → l = m
  | [], [], _, _, _ => rfl
  | [], b :: m, _, _, h => by have := (h b).mpr (List.mem_cons_self ..); simp at this
  | a :: l, [], _, _, h => by have := (h a).mp (List.mem_cons_self ..); simp at this
  | a :: l, b :: m, hl, hm, h => by
    obtain ⟨hl1, hl2⟩ := List.pairwise_cons.mp hl
    obtain ⟨hm1, hm2⟩ := List.pairwise_cons.mp hm
    have hab : a = b := by
      rcases List.mem_cons.mp ((h a).mp (List.mem_cons_self ..)) with e | ha
      · exact e
      · rcases List.mem_cons.mp ((h b).mpr (List.mem_cons_self ..)) with e | hb
        · exact e.symm
        · have := hm1 a ha
          have := hl1 b hb
          omega
    subst hab
    congr 1
    refine asc_eq hl2 hm2 fun x => ⟨fun hx => ?_, fun hx => ?_⟩
    · rcases List.mem_cons.mp ((h x).mp (List.mem_cons_of_mem _ hx)) with e | h1
      · have := hl1 x hx
        rw [e] at this
        omega
      · exact h1
    · rcases List.mem_cons.mp ((h x).mpr (List.mem_cons_of_mem _ hx)) with e | h1
      · have := hm1 x hx
        rw [e] at this
        omega
      · exact h1
/-- addresses and rows -/
theorem paired_ks {H : Hp} : ∀ {vs : List V} {rows : List (List Int)}, Paired (TI H) vs rows → ∃ ks : List (Addr × List Int), vs = ks.map (fun p => V.ref p.1) ∧ rows = ks.map (·.2) ∧ ∀ p ∈ ks, H p.1 = some (.tup (iv p.2))
  | _, _, .nil => ⟨[], rfl, rfl, fun p h => by simp at h⟩
  | v :: vs, r :: rows, .cons ⟨a, e, h⟩ t => by
    obtain ⟨ks, e1, e2, e3⟩ := paired_ks t
    subst e e1 e2
    refine ⟨(a, r) :: ks, rfl, rfl, fun p hp => ?_⟩
    rcases List.mem_cons.mp hp with e | hp
    · rw [e]; exact h
    · exact e3 p hp
theorem ks_paired {H : Hp} : ∀ {ks : List (Addr × List Int)}, (∀ p ∈ ks, H p.1 = some (.tup (iv p.2))) → Paired (TI H) (ks.map fun p => V.ref p.1) (ks.map (·.2))
  | [], _ => .nil
  | k :: ks, h => .cons ⟨k.1, rfl, h k (List.mem_cons_self ..)⟩ (ks_paired fun p hp => h p (List.mem_cons_of_mem _ hp))
end Lk

/-! ## D02b -/
set_option Elab.async false
set_option linter.all false
set_option maxRecDepth 100000
set_option maxHeartbeats 2000000
namespace Lk
open PySem PySem.Spec PyProof.Rows L2 Gx
open GxR (TabG Tabbed TabB)
variable [Own]
abbrev s_are_tops : Stmt := top 22
theorem sc_are_tops : FnScope ["value", "top"] ["value"] (defScope s_are_tops) := ⟨rfl, rfl, rfl, by decide +kernel, rfl, by decide +kernel, by decide +kernel⟩
def spAreTops (Ps : List Addr) : Sp := fun vs H Q _ => ∃ (v : V) (tops : List Int), vs = [v] ∧ TI H v tops ∧ (1 ≤ tops.length ∧ tops.length ≤ 6) ∧ (∀ t ∈ tops, 1 ≤ t ∧ t ≤ 3) ∧ Tabs Ps H ∧ ∀ H', Ext H H' → Q (.bl true) H'
section
variable {P : Program} {w : World} {K : PySem.W.Frag} {mg : Str → Option Value} {base : Heap} {Ps : List Addr}
theorem ok_are_tops {f T : Addr} {fd : FuncData} (F : FunT K mg base Ps "are_tops" s_are_tops f fd T) (B : Blt mg) (M : Nums mg)
    (c_is_whole : Cal P w K mg base CX0 1 "is_whole" ["value", "least", "most"] spIsWhole) : FnOk P w K mg base CX0 3 f fd ["value"] (spAreTops Ps) := by
  refine F.ok sc_are_tops (fun vs H Q E h => ?_) (fun c A outer s H vs Q E TB hr h => ?_)
  · obtain ⟨v, tops, rfl, _⟩ := h
    rfl
  · obtain ⟨v, tops, rfl, ⟨a, rfl, ha⟩, ⟨h1, h6⟩, hT, hTb, k⟩ := h
    refine ⟨_, (pss_cons (ps_if (PW.pt (pw_or (pt_not (pt_val (pe_callB call_isi (by rfl) B.isi boot_isinstance (pa_cons (pv 0) (pa_cons (pe_bltn (v := .ty "tuple") (by rfl) B.tuple boot_tyTuple rfl) pa_nil))))) (pw_or1 (pt_not (pt_chain op_le op_le pe_int (pe_callB call_lenT (by rfl) B.len PySem.boot_len (pa_cons (pv 0) pa_nil)) (pe_num M.MOST_FOLK (by rfl)))))))
        (pss_one (ps_ret pe_bl)) pss_nil)
      (pss_one (ps_ret (pe_allG (own := [("top", 1)]) (k := 1) (hr.mono (by decide)) rfl sc_are_tops.nd (by rfl) B.all TB rfl (pi_tup (pv 0)) ⟨(blkOk_by (N := ["value", "top"]) (sc := defScope s_are_tops) (by decide +kernel)), noCells_ok (by decide +kernel), rfl, rfl⟩ (fun _ _ _ _ _ _ => (pg_name (i := 1) sc_are_tops.nd rfl (by first | exact Or.inl rfl | exact Or.inr rfl))) (fun _ _ _ _ _ _ hr' => pts_nil) (fun _ _ _ _ _ _ hr' => (pe_c0 c_is_whole (hr'.mono (by decide)) (by rfl) (pa_cons (pv 1) (pa_cons pe_int (pa_cons (pe_num M.MOST_TOP (by rfl)) pa_nil))))))))), ?_⟩
    have lenT : (iv tops).length = tops.length := iv_len tops
    refine ⟨_, rfl, _, _, _, _, true, rfl, .ty "tuple", isi_tup ha, kit_ty (by decide +kernel), _, rfl, iteF ?_⟩
    refine ⟨_, rfl, _, _, rfl, .inr ha, _, _, rfl, rfl, true, ?_⟩
    have e1 : decide ((1 : Int) ≤ ((iv tops).length : Int)) = true := decide_eq_true (by rw [lenT]; omega)
    have e2 : decide (((iv tops).length : Int) ≤ (6 : Int)) = true := decide_eq_true (by rw [lenT]; omega)
    refine ⟨congrArg V.bl e1, iteT ⟨_, _, rfl, rfl, true, congrArg V.bl e2, iteF ?_⟩⟩
    have hg : TabG H T := hTb T F.mem
    refine ⟨_, rfl, a, rfl, ⟨_, SqT.of ha⟩, hg, fun H2 hT2 => ?_⟩
    have E2 : Ext H H2 := Ext.tabbed F.nown hg hT2
    refine quant_it (walk_tup (xs := iv tops)) (fun _ H' => H' = H2) rfl (fun i H' _ e => by rw [e]; exact SqT.of (E2.tup ha)) (fun i x H' H'' hi e y => ?_) fun H' e => by rw [e]; exact k H2 E2
    obtain ⟨e', hx⟩ := y
    subst e e'
    obtain ⟨n, hn, rfl⟩ := iv_get hx
    refine ⟨rfl, yes ?_⟩
    refine ⟨_, rfl, n, 1, 3, rfl, ?_⟩
    have hb := hT n (List.mem_of_getElem? hn)
    have e3 : isWhole n 1 3 = true := by simp [isWhole, hb.1, hb.2]
    refine ⟨true, congrArg V.bl e3, iteTF rfl⟩
end
end Lk


/-! ## D03 -/
set_option Elab.async false
set_option linter.all false
set_option maxRecDepth 100000
set_option maxHeartbeats 2000000
namespace Lk
open PySem PySem.Spec PyProof.Rows L2 Gx
open GxR (TabG Tabbed TabB)
variable [Own]
abbrev s_is_look : Stmt := top 23
theorem sc_is_look : FnScope ["value", "many", "one", "other", "sign"] ["value", "many"] (defScope s_is_look) := ⟨rfl, rfl, rfl, by decide +kernel, rfl, by decide +kernel, by decide +kernel⟩
def spIsLook : Sp := fun vs H Q _ => ∃ (v : V) (n a b s : Int), vs = [v, .int n] ∧ TI H v [a, b, s] ∧ (0 ≤ a ∧ a < n) ∧ (0 ≤ b ∧ b < n) ∧ (s = 1 ∨ s = -1) ∧ Q (.bl true) H
section
variable {P : Program} {w : World} {K : PySem.W.Frag} {mg : Str → Option Value} {base : Heap} {Ps : List Addr}
theorem whole_in {i lo hi : Int} (h : lo ≤ i) (h2 : i ≤ hi) : isWhole i lo hi = true := by simp [isWhole, h, h2]
theorem ok_is_look {f : Addr} {fd : FuncData} (F : Fun K "is_look" "is_look" s_is_look f fd) (B : Blt mg)
    (c_is_whole : Cal P w K mg base CX0 1 "is_whole" ["value", "least", "most"] spIsWhole) : FnOk P w K mg base CX0 2 f fd ["value", "many"] spIsLook := by
  refine F.ok sc_is_look (fun vs H Q E h => ?_) (fun cdv A outer s H vs Q E hr h => ?_)
  · obtain ⟨v, n, a, b, s, rfl, _⟩ := h
    rfl
  · obtain ⟨v, n, a, b, sg, rfl, ⟨p, rfl, hp⟩, ⟨ha, ha2⟩, ⟨hb, hb2⟩, hs, k⟩ := h
    refine ⟨_, (pss_cons (ps_if (PW.pt (pw_or (pt_not (pt_val (pe_callB call_isi (by rfl) B.isi boot_isinstance (pa_cons (pv 0) (pa_cons (pe_bltn (v := .ty "tuple") (by rfl) B.tuple boot_tyTuple rfl) pa_nil))))) (pw_or1 (pt_cmpR op_ne (pe_callB call_lenT (by rfl) B.len PySem.boot_len (pa_cons (pv 0) pa_nil)) pe_int (nomark _)))))
        (pss_one (ps_ret pe_bl)) pss_nil)
      (pss_cons (ps_asg (pv 0) (pg_tupT (n := 3) rfl (pgs_cons (pg_name (i := 2) sc_is_look.nd rfl (by first | exact Or.inl rfl | exact Or.inr rfl)) (pgs_cons (pg_name (i := 3) sc_is_look.nd rfl (by first | exact Or.inl rfl | exact Or.inr rfl)) (pgs_cons (pg_name (i := 4) sc_is_look.nd rfl (by first | exact Or.inl rfl | exact Or.inr rfl)) pgs_nil)))))
      (pss_cons (ps_if (PW.pt (pw_or (pt_not (pt_val (pe_c0 c_is_whole (hr.mono (by decide)) (by rfl) (pa_cons (pv 2) (pa_cons pe_int (pa_cons (pe_op op_sub (pv 1) pe_int) pa_nil)))))) (pw_or1 (pt_not (pt_val (pe_c0 c_is_whole (hr.mono (by decide)) (by rfl) (pa_cons (pv 3) (pa_cons pe_int (pa_cons (pe_op op_sub (pv 1) pe_int) pa_nil)))))))))
        (pss_one (ps_ret pe_bl)) pss_nil)
      (pss_one (ps_ret (pe_and (pe_c0 c_is_whole (hr.mono (by decide)) (by rfl) (pa_cons (pv 4) (pa_cons (pe_un un_neg pe_int) (pa_cons pe_int pa_nil)))) (pe_one (pe_cmpR op_ne (pv 4) pe_int (nomark _))))))))), ?_⟩
    refine ⟨_, rfl, _, _, _, _, true, rfl, .ty "tuple", isi_tup hp, kit_ty (by decide +kernel), _, rfl, iteF ?_⟩
    refine ⟨_, rfl, _, _, rfl, .inr hp, rfl, _, rfl, iteF ?_⟩
    refine ⟨_, rfl, p, _, rfl, hp, rfl, _, _, rfl, _, _, rfl, _, _, rfl, rfl, ?_⟩
    refine ⟨_, rfl, _, rfl, _, _, rfl, rfl, a, 0, n - 1, rfl, _, rfl, ?_⟩
    rw [whole_in ha (by omega)]
    refine iteF ⟨_, rfl, _, rfl, _, _, rfl, rfl, b, 0, n - 1, rfl, _, rfl, ?_⟩
    rw [whole_in hb (by omega)]
    refine iteF ⟨_, rfl, _, rfl, sg, -1, 1, rfl, _, rfl, ?_⟩
    rw [whole_in (by omega) (by omega)]
    refine iteT ⟨_, rfl, rfl, ?_⟩
    have e : (!decide (V.int sg = V.int 0)) = true := by
      rw [decide_eq_false (fun z => by cases z; omega)]
      rfl
    show Q (V.bl (!decide (V.int sg = V.int 0))) H
    rw [e]
    exact k
end
end Lk


/-! ## D04 -/
set_option Elab.async false
set_option linter.all false
set_option maxRecDepth 100000
set_option maxHeartbeats 2000000
namespace Lk
open PySem PySem.Spec PyProof.Rows L2 Gx
open GxR (TabG Tabbed TabB)
variable [Own]
/-- at whom one looks, with which sign -/
def looksOf (W : Web) (f : Int) : List (Int × Int) := (W.looks.filter fun l => l.2.1 == f).map fun l => (l.1, l.2.2)
def row2 (p : Int × Int) : List Int := [p.1, p.2]
abbrev s_looks_of : Stmt := top 28
theorem sc_looks_of : FnScope ["web", "folk", "_", "looks", "one", "other", "sign"] ["web", "folk"] (defScope s_looks_of) := ⟨rfl, rfl, rfl, by decide +kernel, rfl, by decide +kernel, by decide +kernel⟩
def spLooksOf : Sp := fun vs H Q _ => ∃ (v : V) (W : Web) (f : Int), vs = [v, .int f] ∧ WebAt H v W ∧ W.looks.length ≤ 14 ∧ ∀ H' p vs, Ext H H' → H p = none → H' p = some (.lst vs) → Paired (TI H') vs ((looksOf W f).map row2) → Q (.ref p) H'
theorem take_snoc {α : Type} {l : List α} {i : Nat} {x : α} (h : l[i]? = some x) : l.take (i + 1) = l.take i ++ [x] := by
  rw [List.take_add_one, h]; rfl
section
variable {P : Program} {w : World} {K : PySem.W.Frag} {mg : Str → Option Value} {base : Heap} {Ps : List Addr}
theorem ok_looks_of {f : Addr} {fd : FuncData} (F : Fun K "looks_of" "looks_of" s_looks_of f fd) : FnOk P w K mg base CX0 1 f fd ["web", "folk"] spLooksOf := by
  refine F.ok sc_looks_of (fun vs H Q E h => ?_) (fun cdv A outer s H vs Q E hr h => ?_)
  · obtain ⟨v, W, n, rfl, _⟩ := h
    rfl
  · obtain ⟨v, W, n, rfl, ⟨a, t, l, rfl, ha, ht, ⟨b, ls, rfl, hb, hls⟩⟩, h14, k⟩ := h
    refine ⟨_, (pss_cons (ps_asg (pv 0) (pg_tupT (n := 2) rfl (pgs_cons (pg_name (i := 2) sc_looks_of.nd rfl (by first | exact Or.inl rfl | exact Or.inr rfl)) (pgs_cons (pg_name (i := 3) sc_looks_of.nd rfl (by first | exact Or.inl rfl | exact Or.inr rfl)) pgs_nil))))
      (pss_one (ps_ret (pe_lc (own := [("one", 4), ("other", 5), ("sign", 6)]) rfl sc_looks_of.nd (pi_tup (pv 3)) (blkOk_by (N := ["web", "folk", "_", "looks", "one", "other", "sign"]) (sc := defScope s_looks_of) (by decide +kernel)) (fun _ _ _ _ _ => (pg_tupT (n := 3) rfl (pgs_cons (pg_name (i := 4) sc_looks_of.nd rfl (by first | exact Or.inl rfl | exact Or.inr rfl)) (pgs_cons (pg_name (i := 5) sc_looks_of.nd rfl (by first | exact Or.inl rfl | exact Or.inr rfl)) (pgs_cons (pg_name (i := 6) sc_looks_of.nd rfl (by first | exact Or.inl rfl | exact Or.inr rfl)) pgs_nil))))) (fun _ _ _ _ _ => (pts_one (pt_cmpR op_eq (pv 5) (pv 1) (nomark _)))) (fun _ _ _ _ _ => (pe_tup (pa_cons (pv 4) (pa_cons (pv 6) pa_nil)))))))), ?_⟩
    refine ⟨_, rfl, a, _, rfl, ha, rfl, _, _, rfl, _, _, rfl, rfl, ?_⟩
    refine ⟨_, rfl, b, rfl, ⟨_, SqT.of hb⟩, fun D hD => ?_⟩
    have llen : ls.length = W.looks.length := by rw [paired_len hls, List.length_map]
    refine lc_tup (xs := ls) (fun i H' => ∃ acc, H' D = some (.lst acc) ∧ Ext H H' ∧ acc.length ≤ i ∧ Paired (TI H') acc ((((W.looks.take i).filter fun l => l.2.1 == n).map fun l => (l.1, l.2.2)).map row2)) ⟨[], upd_same, Ext.new hD _, Nat.le_refl _, .nil⟩ (fun i H' _ ⟨_, _, e, _⟩ => SqT.of (e.tup hb)) (fun i x H' hi ⟨acc, hacc, e, hl, hp⟩ => ?_) fun H' ⟨acc, hacc, e, hl, hp⟩ => ?_
    · obtain ⟨row, hrow, hx⟩ := paired_get' (pTI.ext e hls) hi
      obtain ⟨lk, hlk, rfl⟩ : ∃ lk, W.looks[i]? = some lk ∧ row = row3 lk := by
        rw [List.getElem?_map] at hrow
        cases q : W.looks[i]? with
        | none => rw [q] at hrow; cases hrow
        | some lk => rw [q] at hrow; exact ⟨lk, rfl, (Option.some.inj hrow).symm⟩
      obtain ⟨p, rfl, hp1⟩ := hx
      have hi14 : i < 14 := by
        have := (List.getElem?_eq_some_iff.mp hlk).1
        omega
      refine ⟨p, _, rfl, hp1, rfl, _, _, rfl, _, _, rfl, _, _, rfl, rfl, rfl, ?_⟩
      refine ⟨_, rfl, _, rfl, rfl, _, rfl, ?_⟩
      rw [take_snoc hlk, List.filter_append]
      by_cases hf : lk.2.1 = n
      · have e1 : decide (V.int lk.2.1 = V.int n) = true := decide_eq_true (by rw [hf])
        have e2 : (lk.2.1 == n) = true := by rw [hf]; exact beq_self_eq_true n
        rw [e1]
        refine iteT ⟨_, rfl, _, rfl, (by show 2 ≤ sizeLine; decide), fun q hq => ?_⟩
        have dq : D ≠ q := ne_of_none hacc hq
        refine ⟨acc, by rw [upd_ne dq]; exact hacc, small1000 (by omega), acc ++ [.ref q], upd_same, (e.trans (Ext.new hq _)).put hD _, by rw [List.length_append]; simp; omega, ?_⟩
        have F1 : [lk].filter (fun l => l.2.1 == n) = [lk] := by rw [List.filter_cons, if_pos e2]; rfl
        rw [F1, List.map_append, List.map_append]
        refine paired_snoc ⟨q, rfl, by rw [upd_ne dq.symm]; exact upd_same⟩ ?_
        refine paired_mono (fun x r h => ?_) hp
        obtain ⟨z, rfl, hz⟩ := h
        exact ⟨z, rfl, by rw [upd_ne (ne_of hacc hz (by intro q; cases q)).symm, upd_ne (ne_of_none hz hq)]; exact hz⟩
      · have e1 : decide (V.int lk.2.1 = V.int n) = false := decide_eq_false (fun z => hf (by cases z; rfl))
        have e2 : (lk.2.1 == n) = false := by simpa using hf
        rw [e1]
        have F1 : [lk].filter (fun l => l.2.1 == n) = [] := by rw [List.filter_cons, e2]; rfl
        rw [F1, List.append_nil]
        exact iteF ⟨acc, hacc, e, by omega, hp⟩
    · rw [llen, List.take_length] at hp
      exact k H' D acc e hD hacc hp
end
end Lk


/-! ## Lc2 -/
set_option Elab.async false
set_option linter.all false
set_option maxRecDepth 100000
set_option maxHeartbeats 2000000
namespace Lk
open PySem PySem.Spec PyProof.Rows L2 Gx
variable [Own]
/-- the outer walk of a comprehension of two clauses -/
theorem lc2_out {J : It} {n : Nat} {G : Hp → Prop} {Y : Nat → Hp → V → Hp → Prop} (w : Walk J n G Y) {g g1 : TG} {tt tt1 : TT} {wi1 : L2.TI} {te : TE} {vs vs1 : List Nat} {σ : L2.St} {H1 : Hp} {D : Addr} {Qd : Hp → Prop} (Pv : Nat → Hp → Prop) (h0 : Pv 0 (upd H1 D (.lst []))) (hG : ∀ i H, i ≤ n → Pv i H → G H)
    (hs : ∀ i x H H', i < n → Pv i H → Y i H x H' → g x (wipe σ vs) H' fun σ2 H2 => wipe σ2 vs = wipe σ vs ∧ tt σ2 H2 fun b H3 =>
      if b = true then wi1 σ2 H3 fun J1 H4 => ∃ W1 : Nat → Nat → Hp → Prop, (∃ m, W1 0 m H4) ∧ ∀ j k H, W1 j k H →
        (J1.stop j H ∧ Pv (i + 1) H) ∨ (J1.go j H ∧ ∃ Nx1 : Hp → Prop, (∀ H', Nx1 H' → ∃ k', k' < k ∧ W1 (j + 1) k' H') ∧ ∀ x H', J1.yld j H x H' → g1 x (wipe σ2 vs1) H' fun σ3 H5 => wipe σ3 vs1 = wipe σ2 vs1 ∧ tt1 σ3 H5 fun b H6 =>
          if b = true then te σ3 H6 fun y H7 => ∃ acc, H7 D = some (.lst acc) ∧ acc.length < sizeLine ∧ Nx1 (upd H7 D (.lst (acc ++ [y]))) else Nx1 H6)
      else Pv (i + 1) H3) (hd : ∀ H, Pv n H → Qd H) :
    ∃ W : Nat → Nat → Hp → Prop, (∃ m, W 0 m (upd H1 D (.lst []))) ∧ ∀ i m H, W i m H →
      (J.stop i H ∧ Qd H) ∨ (J.go i H ∧ ∃ Nx : Hp → Prop, (∀ H', Nx H' → ∃ m', m' < m ∧ W (i + 1) m' H') ∧ ∀ x H', J.yld i H x H' → g x (wipe σ vs) H' fun σ2 H2 => wipe σ2 vs = wipe σ vs ∧ tt σ2 H2 fun b H3 =>
        if b = true then wi1 σ2 H3 fun J1 H4 => ∃ W1 : Nat → Nat → Hp → Prop, (∃ m, W1 0 m H4) ∧ ∀ j k H, W1 j k H →
          (J1.stop j H ∧ Nx H) ∨ (J1.go j H ∧ ∃ Nx1 : Hp → Prop, (∀ H', Nx1 H' → ∃ k', k' < k ∧ W1 (j + 1) k' H') ∧ ∀ x H', J1.yld j H x H' → g1 x (wipe σ2 vs1) H' fun σ3 H5 => wipe σ3 vs1 = wipe σ2 vs1 ∧ tt1 σ3 H5 fun b H6 =>
            if b = true then te σ3 H6 fun y H7 => ∃ acc, H7 D = some (.lst acc) ∧ acc.length < sizeLine ∧ Nx1 (upd H7 D (.lst (acc ++ [y]))) else Nx1 H6)
        else Nx H3) := by
  refine ⟨fun i m H => m = n - i ∧ i ≤ n ∧ Pv i H, ⟨n, by simp, Nat.zero_le _, h0⟩, ?_⟩
  rintro i m H ⟨rfl, hi, p⟩
  have q := hG i H hi p
  by_cases hlt : i < n
  · exact .inr ⟨w.goes i H hlt q, Pv (i + 1), fun H' p' => ⟨n - (i + 1), by omega, rfl, hlt, p'⟩, fun x H' y => hs i x H H' hlt p (w.yields i H x H' hlt q y)⟩
  · have e : i = n := by omega
    subst e
    exact .inl ⟨w.stops H q, hd H p⟩
/-- the inner one -/
theorem lc2_in {J : It} {n : Nat} {G : Hp → Prop} {Y : Nat → Hp → V → Hp → Prop} (w : Walk J n G Y) {g : TG} {tt : TT} {te : TE} {vs : List Nat} {σ : L2.St} {H4 : Hp} {D : Addr} {Qd : Hp → Prop} (Pv : Nat → Hp → Prop) (h0 : Pv 0 H4) (hG : ∀ i H, i ≤ n → Pv i H → G H)
    (hs : ∀ i x H H', i < n → Pv i H → Y i H x H' → g x (wipe σ vs) H' fun σ2 H2 => wipe σ2 vs = wipe σ vs ∧ tt σ2 H2 fun b H3 =>
      if b = true then te σ2 H3 fun y H4 => ∃ acc, H4 D = some (.lst acc) ∧ acc.length < sizeLine ∧ Pv (i + 1) (upd H4 D (.lst (acc ++ [y]))) else Pv (i + 1) H3) (hd : ∀ H, Pv n H → Qd H) :
    ∃ W : Nat → Nat → Hp → Prop, (∃ m, W 0 m H4) ∧ ∀ i m H, W i m H →
      (J.stop i H ∧ Qd H) ∨ (J.go i H ∧ ∃ Nx : Hp → Prop, (∀ H', Nx H' → ∃ m', m' < m ∧ W (i + 1) m' H') ∧ ∀ x H', J.yld i H x H' → g x (wipe σ vs) H' fun σ2 H2 => wipe σ2 vs = wipe σ vs ∧ tt σ2 H2 fun b H3 =>
        if b = true then te σ2 H3 fun y H4 => ∃ acc, H4 D = some (.lst acc) ∧ acc.length < sizeLine ∧ Nx (upd H4 D (.lst (acc ++ [y]))) else Nx H3) := by
  refine ⟨fun i m H => m = n - i ∧ i ≤ n ∧ Pv i H, ⟨n, by simp, Nat.zero_le _, h0⟩, ?_⟩
  rintro i m H ⟨rfl, hi, p⟩
  have q := hG i H hi p
  by_cases hlt : i < n
  · exact .inr ⟨w.goes i H hlt q, Pv (i + 1), fun H' p' => ⟨n - (i + 1), by omega, rfl, hlt, p'⟩, fun x H' y => hs i x H H' hlt p (w.yields i H x H' hlt q y)⟩
  · have e : i = n := by omega
    subst e
    exact .inl ⟨w.stops H q, hd H p⟩
/-- a new list's pairs, told anew behind growth -/
theorem pTI.put {H H' : Hp} {D : Addr} {acc : List V} {rows : List (List Int)} {o : HO} (hD : H D = some (.lst acc)) (e : ∀ a xs, H a = some (.tup xs) → H' a = some (.tup xs)) {vs : List V} (p : Paired (TI H) vs rows) : Paired (TI (upd H' D o)) vs rows :=
  paired_mono (fun x r h => by
    obtain ⟨z, rfl, hz⟩ := h
    exact ⟨z, rfl, by rw [upd_ne (ne_of hD hz (by intro q; cases q)).symm]; exact e _ _ hz⟩) p
end Lk

/-! ## D06 -/
set_option Elab.async false
set_option linter.all false
set_option maxRecDepth 100000
set_option maxHeartbeats 2000000
namespace Lk
open PySem PySem.Spec PyProof.Rows L2 Gx
open GxR (TabG Tabbed TabB)
variable [Own]
abbrev s_are_looks : Stmt := top 24
theorem sc_are_looks : FnScope ["value", "many", "look", "one", "other", "_", "pairs", "lookers", "folk"] ["value", "many"] (defScope s_are_looks) := ⟨rfl, rfl, rfl, by decide +kernel, rfl, by decide +kernel, by decide +kernel⟩
def spAreLooks (Ps : List Addr) : Sp := fun vs H Q _ => ∃ (v : V) (W : Web), vs = [v, .int W.tops.length] ∧ TT2 H v (W.looks.map row3) ∧ W.Ok ∧ Tabs Ps H ∧ ∀ H', Ext H H' → Q (.bl true) H'
def pair2 (l : Look3) : List Int := [l.1, l.2.1]
theorem pairs_asc {W : Web} (ok : W.Ok) : (W.looks.map pair2).Pairwise fun x y => TS.code 64 x < TS.code 64 y := by
  rw [List.pairwise_map]
  refine List.Pairwise.imp_of_mem (fun {a b} ha hb h => ?_) ok.asc
  have h1 := ok.look a ha
  have h2 := ok.look b hb
  have h6 := ok.few
  unfold pair2
  rw [code_pair, code_pair]
  omega
section
variable {P : Program} {w : World} {K : PySem.W.Frag} {mg : Str → Option Value} {base : Heap} {Ps : List Addr}
theorem row3_at {H : Hp} {vs : List V} {ls : List Look3} {i : Nat} {x : V} (p : Paired (TI H) vs (ls.map row3)) (h : vs[i]? = some x) : ∃ l q, ls[i]? = some l ∧ x = .ref q ∧ H q = some (.tup [.int l.1, .int l.2.1, .int l.2.2]) := by
  obtain ⟨row, hrow, q, e, hq⟩ := paired_get' p h
  rw [List.getElem?_map] at hrow
  cases e2 : ls[i]? with
  | none => rw [e2] at hrow; cases hrow
  | some l =>
    rw [e2] at hrow
    obtain rfl := Option.some.inj hrow
    exact ⟨l, q, rfl, e, hq⟩
theorem pair_at {H : Hp} {vs : List V} {ls : List Look3} {i : Nat} {x : V} (p : Paired (TI H) vs (ls.map pair2)) (h : vs[i]? = some x) : ∃ l q, ls[i]? = some l ∧ x = .ref q ∧ H q = some (.tup [.int l.1, .int l.2.1]) := by
  obtain ⟨row, hrow, q, e, hq⟩ := paired_get' p h
  rw [List.getElem?_map] at hrow
  cases e2 : ls[i]? with
  | none => rw [e2] at hrow; cases hrow
  | some l =>
    rw [e2] at hrow
    obtain rfl := Option.some.inj hrow
    exact ⟨l, q, rfl, e, hq⟩
theorem ok_are_looks {f T : Addr} {fd : FuncData} (F : FunT K mg base Ps "are_looks" s_are_looks f fd T) (B : Blt mg) (M : Nums mg)
    (c_is_look : Cal P w K mg base CX0 2 "is_look" ["value", "many"] spIsLook) : FnOk P w K mg base CX0 4 f fd ["value", "many"] (spAreLooks Ps) := by
  refine F.ok sc_are_looks (fun vs H Q E h => ?_) (fun c A outer s0 H vs Q E TB hr h => ?_)
  · obtain ⟨v, W, rfl, _⟩ := h
    rfl
  · obtain ⟨v, W, rfl, ⟨a, ls, rfl, ha, hls⟩, ok, hTb, k⟩ := h
    refine ⟨_, (pss_cons (ps_if (PW.pt (pw_or (pt_not (pt_val (pe_callB call_isi (by rfl) B.isi boot_isinstance (pa_cons (pv 0) (pa_cons (pe_bltn (v := .ty "tuple") (by rfl) B.tuple boot_tyTuple rfl) pa_nil))))) (pw_or1 (pt_cmpR op_gt (pe_callB call_lenT (by rfl) B.len PySem.boot_len (pa_cons (pv 0) pa_nil)) (pe_num M.MOST_LOOKS (by rfl)) (nomark _)))))
        (pss_one (ps_ret pe_bl)) pss_nil)
      (pss_cons (ps_if (pt_not (pt_val (pe_allG (own := [("look", 2)]) (k := 2) (hr.mono (by decide)) rfl sc_are_looks.nd (by rfl) B.all TB rfl (pi_tup (pv 0)) ⟨(blkOk_by (N := ["value", "many", "look", "one", "other", "_", "pairs", "lookers", "folk"]) (sc := defScope s_are_looks) (by decide +kernel)), noCells_ok (by decide +kernel), rfl, rfl⟩ (fun _ _ _ _ _ _ => (pg_name (i := 2) sc_are_looks.nd rfl (by first | exact Or.inl rfl | exact Or.inr rfl))) (fun _ _ _ _ _ _ hr' => pts_nil) (fun _ _ _ _ _ _ hr' => (pe_c0 c_is_look (hr'.mono (by decide)) (by rfl) (pa_cons (pv 2) (pa_cons (pv 1) pa_nil)))))))
        (pss_one (ps_ret pe_bl)) pss_nil)
      (pss_cons (ps_setLc (i := 6) (own := [("one", 3), ("other", 4), ("_", 5)]) rfl sc_are_looks.nd rfl rfl (sw_true rfl rfl rfl (by decide +kernel)) (pi_tup (pv 0)) (blkOk_by (N := ["value", "many", "look", "one", "other", "_", "pairs", "lookers", "folk"]) (sc := defScope s_are_looks) (by decide +kernel)) (fun _ _ _ _ _ => (pg_tupT (n := 3) rfl (pgs_cons (pg_name (i := 3) sc_are_looks.nd rfl (by first | exact Or.inl rfl | exact Or.inr rfl)) (pgs_cons (pg_name (i := 4) sc_are_looks.nd rfl (by first | exact Or.inl rfl | exact Or.inr rfl)) (pgs_cons (pg_name (i := 5) sc_are_looks.nd rfl (by first | exact Or.inl rfl | exact Or.inr rfl)) pgs_nil))))) (fun _ _ _ _ _ => pts_nil) (fun _ _ _ _ _ => (pe_tup (pa_cons (pv 3) (pa_cons (pv 4) pa_nil)))))
      (pss_cons (ps_if (pt_cmpR (op_neLT2 hr.units) (pv 6) (pe_callB (cr_sortedT rfl) (by rfl) B.sorted boot_sorted (pa_cons (pe_callTy (cr_setOfT rfl hr.units) (by rfl) B.set boot_set (pa_cons (pv 6) pa_nil)) pa_nil)) (nomark _))
        (pss_one (ps_ret pe_bl)) pss_nil)
      (pss_cons (ps_set (i := 7) sc_are_looks.nd rfl (by first | exact Or.inl rfl | exact Or.inr rfl) (pe_lc (own := [("_", 5), ("other", 4)]) rfl sc_are_looks.nd (pi_list (pv 6)) (blkOk_by (N := ["value", "many", "look", "one", "other", "_", "pairs", "lookers", "folk"]) (sc := defScope s_are_looks) (by decide +kernel)) (fun _ _ _ _ _ => (pg_tupT (n := 2) rfl (pgs_cons (pg_name (i := 5) sc_are_looks.nd rfl (by first | exact Or.inl rfl | exact Or.inr rfl)) (pgs_cons (pg_name (i := 4) sc_are_looks.nd rfl (by first | exact Or.inl rfl | exact Or.inr rfl)) pgs_nil)))) (fun _ _ _ _ _ => pts_nil) (fun _ _ _ _ _ => (pv 4))))
      (pss_one (ps_ret (pe_allG (own := [("folk", 8)]) (k := 2) (hr.mono (by decide)) rfl sc_are_looks.nd (by rfl) B.all TB rfl (pi_range1 (by rfl) B.range (pa_cons (pv 1) pa_nil)) ⟨(blkOk_by (N := ["value", "many", "look", "one", "other", "_", "pairs", "lookers", "folk"]) (sc := defScope s_are_looks) (by decide +kernel)), noCells_ok (by decide +kernel), rfl, rfl⟩ (fun _ _ _ _ _ _ => (pg_name (i := 8) sc_are_looks.nd rfl (by first | exact Or.inl rfl | exact Or.inr rfl))) (fun _ _ _ _ _ _ hr' => pts_nil) (fun _ _ _ _ _ _ hr' => (pe_cmpR op_le (pe_bmL PySem.F.plainAttrs_list PySem.F.slot_list_count PySem.F.type_list_count mt_cntL (pv 7) (pa_cons (pv 8) pa_nil)) (pe_num M.MOST_LOOKS_OF_ONE (by rfl)) (nomark _))))))))))), ?_⟩
    have lls : ls.length = W.looks.length := by rw [paired_len hls, List.length_map]
    have h14 := ok.most
    have h6 := ok.few
    refine ⟨_, rfl, _, _, _, _, true, rfl, .ty "tuple", isi_tup ha, kit_ty (by decide +kernel), _, rfl, iteF ?_⟩
    refine ⟨_, rfl, _, _, rfl, .inr ha, _, _, rfl, rfl, _, rfl, ?_⟩
    rw [decide_eq_false (by omega : ¬ (14 : Int) < (ls.length : Int))]
    refine iteF ?_
    have hg : TabG H T := hTb T F.mem
    refine ⟨_, rfl, a, rfl, ⟨_, SqT.of ha⟩, hg, fun H2 hT2 => ?_⟩
    have E2 : Ext H H2 := Ext.tabbed F.nown hg hT2
    refine quant_test (walk_tup (K := K) (xs := ls)) (fun _ H' => H' = H2) rfl (fun i H' _ e => by rw [e]; exact SqT.of (E2.tup ha)) (fun i x H4 H5 hi e4 y => ?_) fun H4 e4 => ?_
    · subst e4
      obtain ⟨rfl, hx⟩ := y
      obtain ⟨lk, q, hlk, rfl, hq⟩ := row3_at (pTI.ext E2 hls) hx
      have h1 := ok.look lk (List.mem_of_getElem? hlk)
      refine ⟨rfl, yes ?_⟩
      exact ⟨_, rfl, _, rfl, _, _, lk.1, lk.2.1, lk.2.2, rfl, ⟨q, rfl, hq⟩, h1.1, h1.2.1, h1.2.2, true, rfl, iteTF rfl⟩
    · subst e4
      refine iteF ?_
      refine ⟨_, rfl, a, rfl, ⟨_, SqT.of (E2.tup ha)⟩, fun D hD => ?_⟩
      refine lc_tup (K := K) (xs := ls) (fun i H' => ∃ acc, H' D = some (.lst acc) ∧ Ext H4 H' ∧ acc.length ≤ i ∧ Paired (TI H') acc ((W.looks.take i).map pair2)) ⟨[], upd_same, Ext.new hD _, Nat.le_refl _, .nil⟩ (fun i H' _ ⟨_, _, e, _⟩ => SqT.of (e.tup (E2.tup ha))) (fun i x H' hi ⟨acc, hacc, e, hl, hp⟩ => ?_) fun H' ⟨acc, hacc, e, hl, hp⟩ => ?_
      · obtain ⟨lk, q, hlk, rfl, hq⟩ := row3_at (pTI.ext (E2.trans e) hls) hi
        have hi14 : i < 14 := by
          have := (List.getElem?_eq_some_iff.mp hlk).1
          omega
        refine ⟨q, _, rfl, hq, rfl, _, _, rfl, _, _, rfl, _, _, rfl, rfl, rfl, yes ?_⟩
        refine ⟨_, rfl, _, rfl, (by show 2 ≤ sizeLine; decide), fun u hu => ?_⟩
        have hDu : D ≠ u := ne_of_none hacc hu
        refine ⟨acc, by rw [upd_ne hDu]; exact hacc, small1000 (by omega), acc ++ [.ref u], upd_same, (e.trans (Ext.new hu _)).put hD _, by rw [List.length_append]; simp; omega, ?_⟩
        rw [take_snoc hlk, List.map_append]
        exact pTI.put (H := upd H' u (.tup [.int lk.1, .int lk.2.1])) (by rw [upd_ne hDu]; exact hacc) (fun _ _ h => h) (paired_snoc ⟨u, rfl, upd_same⟩ (pTI.ext (Ext.new hu _) hp))
      · rw [lls, List.take_length] at hp
        have E3 := E2.trans e
        have lacc : acc.length = W.looks.length := by rw [paired_len hp, List.length_map]
        obtain ⟨ks, rfl, hrows, hks⟩ := paired_ks hp
        have lks : ks.length ≤ 14 := by rw [← List.length_map (f := fun p : Addr × List Int => V.ref p.1), lacc]; exact h14
        refine ⟨_, rfl, _, rfl, D, ks, rfl, SqL.of hacc, fun p hpk => SqT.of (hks p hpk), by omega, fun u L hu hL1 hL2 => ?_⟩
        have hksu : ∀ p ∈ ks, p.1 ≠ u := fun p hp z => by
          have := hks p hp
          rw [z, hu] at this
          cases this
        have hmem : ∀ p ∈ ks, ∃ l ∈ W.looks, p.2 = pair2 l := fun p hp => by
          have h1 : p.2 ∈ ks.map (·.2) := List.mem_map.mpr ⟨p, hp, rfl⟩
          rw [← hrows] at h1
          obtain ⟨l, hl, e⟩ := List.mem_map.mp h1
          exact ⟨l, hl, e.symm⟩
        have bdP : ∀ p ∈ ks, p.2.length = 2 ∧ TS.Bd 64 p.2 := fun p hp => by
          obtain ⟨l, hl, e⟩ := hmem p hp
          have h1 := ok.look l hl
          rw [e]
          refine ⟨rfl, fun m hm => ?_⟩
          unfold pair2 at hm
          rcases List.mem_cons.mp hm with z | hm
          · omega
          · rw [List.mem_singleton.mp hm]
            omega
        refine ⟨u, L, 2, 64, rfl, upd_same, fun p hp => SqT.of (by rw [upd_ne (hksu p (hL1 p hp))]; exact hks p (hL1 p hp)), by decide, fun p hp => bdP p (hL1 p hp), fun L' q perm nd hlt hpw hq => ?_⟩
        have E5 := (Ext.new hu _).trans (Ext.new hq (.lst (L'.map fun q => V.ref q.1)))
        have inK : ∀ p ∈ L', p ∈ ks := fun p hp => hL1 p (perm.mem_iff.mp hp)
        have hb : L'.map (·.2) = W.looks.map pair2 := by
          refine asc_eq (f := TS.code 64) ?_ (pairs_asc ok) fun x => ⟨fun hx => ?_, fun hx => ?_⟩
          · rw [List.pairwise_map]
            have nd2 := List.pairwise_map.mp nd
            refine List.Pairwise.imp_of_mem (fun {x y} hx hy h => ?_) (hpw.and nd2)
            obtain ⟨h1, h2⟩ := h
            obtain ⟨l, hl, ex⟩ := hmem x (inK x hx)
            obtain ⟨m, hm, ey⟩ := hmem y (inK y hy)
            have b1 := ok.look l hl
            have b2 := ok.look m hm
            rw [ex, ey] at h1 h2 ⊢
            unfold pair2 at h1 h2 ⊢
            rw [code_pair, code_pair] at h1 ⊢
            rcases Int.lt_or_eq_of_le h1 with z | z
            · exact z
            · exact absurd (by rw [show l.1 = m.1 by omega, show l.2.1 = m.2.1 by omega]) h2
          · obtain ⟨p, hp, rfl⟩ := List.mem_map.mp hx
            rw [hrows]
            exact List.mem_map.mpr ⟨p, inK p hp, rfl⟩
          · rw [hrows] at hx
            obtain ⟨p, hp, rfl⟩ := List.mem_map.mp hx
            obtain ⟨p', hp', e'⟩ := List.mem_map.mp (hL2 p hp)
            exact List.mem_map.mpr ⟨p', perm.mem_iff.mpr hp', e'⟩
        refine ⟨W.looks.map pair2, L'.map (·.2), ⟨D, _, rfl, E5.lst hacc, pTI.ext E5 hp⟩, ⟨q, _, rfl, upd_same, ks_paired fun p hp => E5.tup (hks p (inK p hp))⟩, _, rfl, ?_⟩
        rw [hb, decide_eq_true rfl]
        refine iteF ?_
        refine ⟨_, rfl, D, rfl, ⟨_, SqL.of (E5.lst hacc)⟩, fun D2 hD2 => ?_⟩
        refine lc_list (K := K) (xs := ks.map fun p => V.ref p.1) (fun i H7 => H7 D2 = some (.lst (iv ((W.looks.take i).map fun l => l.2.1))) ∧ Ext H' H7) ⟨upd_same, E5.trans (Ext.new hD2 _)⟩ (fun i H7 _ ⟨_, e7⟩ => SqL.of (e7.lst hacc)) (fun i x H7 hi ⟨h7, e7⟩ => ?_) fun H7 ⟨h7, e7⟩ => ?_
        · obtain ⟨lk, z, hlk, rfl, hz⟩ := pair_at (pTI.ext e7 hp) hi
          refine ⟨z, _, rfl, hz, rfl, _, _, rfl, _, _, rfl, rfl, rfl, yes ?_⟩
          have hi14 : i < 14 := by
            have := (List.getElem?_eq_some_iff.mp hlk).1
            omega
          refine ⟨_, rfl, _, h7, ?_, ?_, e7.put (E5.free hD2) _⟩
          · rw [iv_len, List.length_map, List.length_take]
            exact small1000 (by omega)
          · rw [upd_same, take_snoc hlk, List.map_append]
            show some (HO.lst _) = some (HO.lst (List.map V.int (_ ++ _)))
            rw [List.map_append]
            rfl
        · have h7 : H7 D2 = some (.lst (iv (W.looks.map fun l => l.2.1))) := by
            rw [h7, lacc, List.take_length]
          have E7 := E3.trans e7
          have hg7 : TabG H7 T := E7.tab T hg
          refine ⟨_, rfl, _, rfl, by omega, by omega, hg7, fun H8 hT8 => ?_⟩
          have E8 := E7.trans (Ext.tabbed F.nown hg7 hT8)
          have h8 := (Ext.tabbed F.nown hg7 hT8).lst h7
          refine quant_it (walk_range (lo := 0) (n := ((W.tops.length : Int)).toNat)) (fun _ H' => H' = H8) rfl (fun _ _ _ _ => trivial) (fun i x H9 H10 hi e9 y => ?_) fun H9 e9 => by rw [e9]; exact k H8 E8
          subst e9
          obtain ⟨rfl, rfl⟩ := rng_len y
          refine ⟨rfl, yes ?_⟩
          refine ⟨_, rfl, ⟨D2, _, rfl, h8⟩, _, rfl, D2, _, (i : Int), rfl, rfl, h8, _, _, rfl, rfl, ?_⟩
          have h4 := ok.four (i : Int)
          rw [← List.countP_eq_length_filter] at h4
          refine ⟨true, congrArg V.bl (decide_eq_true ?_), iteTF rfl⟩
          have : ((W.looks.map fun l => l.2.1).count (i : Int)) ≤ 4 := h4
          omega
end
end Lk


/-! ## D07 -/
set_option Elab.async false
set_option linter.all false
set_option maxRecDepth 100000
set_option maxHeartbeats 2000000
namespace Lk
open PySem PySem.Spec PyProof.Rows L2 Gx
open GxR (TabG Tabbed TabB)
variable [Own]
def topAt (W : Web) (i : Int) : Int := W.tops.getD i.toNat 0
theorem topAt_get {W : Web} {i : Int} (h0 : 0 ≤ i) (h1 : i < W.tops.length) : W.tops[i.toNat]? = some (topAt W i) := by
  unfold topAt
  rw [List.getD_eq_getElem?_getD, List.getElem?_eq_getElem (by omega)]
  rfl
theorem topAt_ok {W : Web} (ok : W.Ok) {i : Int} (h0 : 0 ≤ i) (h1 : i < W.tops.length) : 1 ≤ topAt W i ∧ topAt W i ≤ 3 := ok.tops _ (List.mem_of_getElem? (topAt_get h0 h1))
theorem looksOf_ok {W : Web} (ok : W.Ok) {f : Int} : ∀ p ∈ looksOf W f, (0 ≤ p.1 ∧ p.1 < W.tops.length) ∧ (p.2 = 1 ∨ p.2 = -1) := by
  intro p hp
  unfold looksOf at hp
  obtain ⟨l, hl, rfl⟩ := List.mem_map.mp hp
  have := ok.look l (List.mem_filter.mp hl).1
  exact ⟨this.1, this.2.2⟩
def manyStep (W : Web) (m : Int) (p : Int × Int) : Int := m * (topAt W p.1 + 1)
/-- how many rows of moods one can see -/
def manyRows (W : Web) (f : Int) : Int := (looksOf W f).foldl (manyStep W) 1
abbrev s_many_rows : Stmt := top 31
theorem sc_many_rows : FnScope ["web", "folk", "tops", "_", "many", "one"] ["web", "folk"] (defScope s_many_rows) := ⟨rfl, rfl, rfl, by decide +kernel, rfl, by decide +kernel, by decide +kernel⟩
def spManyRows : Sp := fun vs H Q _ => ∃ (v : V) (W : Web) (f : Int), vs = [v, .int f] ∧ WebAt H v W ∧ W.Ok ∧ ∀ H', Ext H H' → Q (.int (manyRows W f)) H'
theorem foldl_take' {α β : Type} {f : α → β → α} {a : α} {l : List β} {i : Nat} {x : β} (h : l[i]? = some x) : (l.take (i + 1)).foldl f a = f ((l.take i).foldl f a) x := by
  rw [List.take_add_one, h]
  simp
section
variable {P : Program} {w : World} {K : PySem.W.Frag} {mg : Str → Option Value} {base : Heap} {Ps : List Addr}
/-- a look of the list, taken apart -/
theorem look_at {H : Hp} {vs : List V} {ls : List (Int × Int)} {i : Nat} {x : V} (p : Paired (TI H) vs (ls.map row2)) (h : vs[i]? = some x) : ∃ l q, ls[i]? = some l ∧ x = .ref q ∧ H q = some (.tup [.int l.1, .int l.2]) := by
  obtain ⟨row, hrow, q, e, hq⟩ := paired_get' p h
  rw [List.getElem?_map] at hrow
  cases e2 : ls[i]? with
  | none => rw [e2] at hrow; cases hrow
  | some l =>
    rw [e2] at hrow
    obtain rfl := Option.some.inj hrow
    exact ⟨l, q, rfl, e, hq⟩
theorem ok_many_rows {f : Addr} {fd : FuncData} (F : Fun K "many_rows" "many_rows" s_many_rows f fd)
    (c_looks_of : Cal P w K mg base CX0 1 "looks_of" ["web", "folk"] spLooksOf) : FnOk P w K mg base CX0 2 f fd ["web", "folk"] spManyRows := by
  refine F.ok sc_many_rows (fun vs H Q E h => ?_) (fun cdv A outer s H vs Q E hr h => ?_)
  · obtain ⟨v, W, n, rfl, _⟩ := h
    rfl
  · obtain ⟨v, W, n, rfl, hW, ok, k⟩ := h
    obtain ⟨a, t, l, rfl, ha, ⟨b, rfl, hb⟩, hl⟩ := id hW
    refine ⟨_, (pss_cons (ps_asg (pv 0) (pg_tupT (n := 2) rfl (pgs_cons (pg_name (i := 2) sc_many_rows.nd rfl (by first | exact Or.inl rfl | exact Or.inr rfl)) (pgs_cons (pg_name (i := 3) sc_many_rows.nd rfl (by first | exact Or.inl rfl | exact Or.inr rfl)) pgs_nil))))
      (pss_cons (ps_set (i := 4) sc_many_rows.nd rfl (by first | exact Or.inl rfl | exact Or.inr rfl) pe_int)
      (pss_cons (ps_for PassesOwn.never rfl (pi_list (pe_c0 c_looks_of (hr.mono (by decide)) (by rfl) (pa_cons (pv 0) (pa_cons (pv 1) pa_nil)))) (pg_tupT (n := 2) rfl (pgs_cons (pg_name (i := 5) sc_many_rows.nd rfl (by first | exact Or.inl rfl | exact Or.inr rfl)) (pgs_cons (pg_name (i := 3) sc_many_rows.nd rfl (by first | exact Or.inl rfl | exact Or.inr rfl)) pgs_nil)))
        (pss_one (ps_set (i := 4) sc_many_rows.nd rfl (by first | exact Or.inl rfl | exact Or.inr rfl) (pe_op op_mul (pv 4) (pe_op op_add (pe_ix ix_tT (pv 2) (pv 5) (fun _ _ => rfl)) pe_int)))))
      (pss_one (ps_ret (pv 4)))))), ?_⟩
    refine ⟨_, rfl, a, _, rfl, ha, rfl, _, _, rfl, _, _, rfl, rfl, ?_⟩
    refine ⟨_, rfl, _, rfl, _, W, n, rfl, hW, ok.most, fun H1 p vs E1 hp0 hp hvs => ?_⟩
    refine ⟨p, rfl, ⟨_, SqL.of hp⟩, for_list (K := K) (a := p) (xs := vs) (fun i σ H' => ∃ (o3 o5 : Option V), σ = [some (.ref a), some (.int n), some (.ref b), o3, some (.int (((looksOf W n).take i).foldl (manyStep W) 1)), o5] ∧ H' = H1)
      ⟨_, _, rfl, rfl⟩ (fun i σ H' _ ⟨_, _, _, e⟩ => by rw [e]; exact SqL.of hp) ?_ ?_⟩
    · rintro i x σ H' hi ⟨o3, o5, rfl, rfl⟩
      obtain ⟨lk, q, hlk, rfl, hq⟩ := look_at hvs hi
      have h1 := looksOf_ok ok lk (List.mem_of_getElem? hlk)
      have h2 := topAt_ok ok h1.1.1 h1.1.2
      refine ⟨q, _, rfl, hq, rfl, _, _, rfl, _, _, rfl, rfl, ?_⟩
      refine ⟨_, rfl, _, rfl, _, rfl, b, _, _, _, rfl, rfl, E1.tup hb, at_of (show lk.1 = ((lk.1.toNat : Nat) : Int) by omega) (iv_at (topAt_get h1.1.1 h1.1.2)), _, _, rfl, rfl, _, _, rfl, rfl, .inr ⟨by omega, by omega⟩, ?_⟩
      exact ⟨_, _, by rw [foldl_take' hlk]; rfl, rfl⟩
    · rintro σ H' ⟨o3, o5, rfl, rfl⟩
      have e : ((looksOf W n).take vs.length) = looksOf W n := List.take_of_length_le (by rw [paired_len hvs, List.length_map]; exact Nat.le_refl _)
      rw [e]
      exact ⟨_, rfl, k _ E1⟩
def stAt (st : List Int) (i : Int) : Int := st.getD i.toNat 0
def placeStep (W : Web) (st : List Int) (m : Int) (p : Int × Int) : Int := m * (topAt W p.1 + 1) + stAt st p.1
def placeOf (W : Web) (st : List Int) (f : Int) : Int := (looksOf W f).foldl (placeStep W st) 0
/-- a state of the web -/
structure StOk (W : Web) (st : List Int) : Prop where
  len : st.length = W.tops.length
  bd : ∀ i : Int, 0 ≤ i → i < W.tops.length → 0 ≤ stAt st i ∧ stAt st i ≤ topAt W i
theorem stAt_get {st : List Int} {i : Int} (h0 : 0 ≤ i) (h1 : i < st.length) : st[i.toNat]? = some (stAt st i) := by
  unfold stAt
  rw [List.getD_eq_getElem?_getD, List.getElem?_eq_getElem (by omega)]
  rfl
theorem place_bd {W : Web} (ok : W.Ok) {st : List Int} (so : StOk W st) : ∀ (ls : List (Int × Int)) (m p : Int), (∀ l ∈ ls, 0 ≤ l.1 ∧ l.1 < W.tops.length) → 0 ≤ p → p < m → 0 ≤ ls.foldl (placeStep W st) p ∧ ls.foldl (placeStep W st) p < ls.foldl (manyStep W) m
  | [], _, _, _, h0, h1 => ⟨h0, h1⟩
  | l :: ls, m, p, hl, h0, h1 => by
    have hh := hl l (List.mem_cons_self ..)
    have ht := topAt_ok ok hh.1 hh.2
    have hs := so.bd l.1 hh.1 hh.2
    refine place_bd ok so ls (manyStep W m l) (placeStep W st p l) (fun x hx => hl x (List.mem_cons_of_mem _ hx)) ?_ ?_
    · unfold placeStep
      have : 0 ≤ p * (topAt W l.1 + 1) := Int.mul_nonneg h0 (by omega)
      omega
    · unfold placeStep manyStep
      have h2 : (p + 1) * (topAt W l.1 + 1) ≤ m * (topAt W l.1 + 1) := Int.mul_le_mul_of_nonneg_right (by omega) (by omega)
      rw [Int.add_mul, Int.one_mul] at h2
      omega
/-- tables: one for each, as long as there are rows -/
structure RuOk (W : Web) (ru : List (List Int)) : Prop where
  len : ru.length = W.tops.length
  rows : ∀ f : Int, 0 ≤ f → f < W.tops.length → ((ru.getD f.toNat []).length : Int) = manyRows W f
def moodTold (W : Web) (ru : List (List Int)) (st : List Int) (f : Int) : Int := (ru.getD f.toNat []).getD (placeOf W st f).toNat 0
abbrev s_place_seen : Stmt := top 39
theorem sc_place_seen : FnScope ["web", "state", "folk", "tops", "_", "place", "one"] ["web", "state", "folk"] (defScope s_place_seen) := ⟨rfl, rfl, rfl, by decide +kernel, rfl, by decide +kernel, by decide +kernel⟩
abbrev s_mood_told : Stmt := top 40
theorem sc_mood_told : FnScope ["web", "rules", "state", "folk"] ["web", "rules", "state", "folk"] (defScope s_mood_told) := ⟨rfl, rfl, rfl, by decide +kernel, rfl, by decide +kernel, by decide +kernel⟩
def spPlaceSeen : Sp := fun vs H Q _ => ∃ (v z : V) (W : Web) (st : List Int) (f : Int), vs = [v, z, .int f] ∧ WebAt H v W ∧ W.Ok ∧ TI H z st ∧ StOk W st ∧ ∀ H', Ext H H' → Q (.int (placeOf W st f)) H'
def spMoodTold : Sp := fun vs H Q _ => ∃ (v r z : V) (W : Web) (ru : List (List Int)) (st : List Int) (f : Int), vs = [v, r, z, .int f] ∧ WebAt H v W ∧ W.Ok ∧ TT2 H r ru ∧ RuOk W ru ∧ TI H z st ∧ StOk W st ∧ (0 ≤ f ∧ f < W.tops.length) ∧ ∀ H', Ext H H' → Q (.int (moodTold W ru st f)) H'
theorem ok_place_seen {f : Addr} {fd : FuncData} (F : Fun K "place_seen" "place_seen" s_place_seen f fd)
    (c_looks_of : Cal P w K mg base CX0 1 "looks_of" ["web", "folk"] spLooksOf) : FnOk P w K mg base CX0 2 f fd ["web", "state", "folk"] spPlaceSeen := by
  refine F.ok sc_place_seen (fun vs H Q E h => ?_) (fun cdv A outer s H vs Q E hr h => ?_)
  · obtain ⟨v, z, W, st, n, rfl, _⟩ := h
    rfl
  · obtain ⟨v, z, W, st, n, rfl, hW, ok, ⟨sa, rfl, hsa⟩, so, k⟩ := h
    obtain ⟨a, t, l, rfl, ha, ⟨b, rfl, hb⟩, hl⟩ := id hW
    refine ⟨_, (pss_cons (ps_asg (pv 0) (pg_tupT (n := 2) rfl (pgs_cons (pg_name (i := 3) sc_place_seen.nd rfl (by first | exact Or.inl rfl | exact Or.inr rfl)) (pgs_cons (pg_name (i := 4) sc_place_seen.nd rfl (by first | exact Or.inl rfl | exact Or.inr rfl)) pgs_nil))))
      (pss_cons (ps_set (i := 5) sc_place_seen.nd rfl (by first | exact Or.inl rfl | exact Or.inr rfl) pe_int)
      (pss_cons (ps_for PassesOwn.never rfl (pi_list (pe_c0 c_looks_of (hr.mono (by decide)) (by rfl) (pa_cons (pv 0) (pa_cons (pv 2) pa_nil)))) (pg_tupT (n := 2) rfl (pgs_cons (pg_name (i := 6) sc_place_seen.nd rfl (by first | exact Or.inl rfl | exact Or.inr rfl)) (pgs_cons (pg_name (i := 4) sc_place_seen.nd rfl (by first | exact Or.inl rfl | exact Or.inr rfl)) pgs_nil)))
        (pss_one (ps_set (i := 5) sc_place_seen.nd rfl (by first | exact Or.inl rfl | exact Or.inr rfl) (pe_op op_add (pe_op op_mul (pv 5) (pe_op op_add (pe_ix ix_tT (pv 3) (pv 6) (fun _ _ => rfl)) pe_int)) (pe_ix ix_tT (pv 1) (pv 6) (fun _ _ => rfl))))))
      (pss_one (ps_ret (pv 5)))))), ?_⟩
    refine ⟨_, rfl, a, _, rfl, ha, rfl, _, _, rfl, _, _, rfl, rfl, ?_⟩
    refine ⟨_, rfl, _, rfl, _, W, n, rfl, hW, ok.most, fun H1 p vs E1 hp0 hp hvs => ?_⟩
    refine ⟨p, rfl, ⟨_, SqL.of hp⟩, for_list (K := K) (a := p) (xs := vs) (fun i σ H' => ∃ (o3 o5 : Option V), σ = [some (.ref a), some (.ref sa), some (.int n), some (.ref b), o3, some (.int (((looksOf W n).take i).foldl (placeStep W st) 0)), o5] ∧ H' = H1)
      ⟨_, _, rfl, rfl⟩ (fun i σ H' _ ⟨_, _, _, e⟩ => by rw [e]; exact SqL.of hp) ?_ ?_⟩
    · rintro i x σ H' hi ⟨o3, o5, rfl, rfl⟩
      obtain ⟨lk, q, hlk, rfl, hq⟩ := look_at hvs hi
      have h1 := looksOf_ok ok lk (List.mem_of_getElem? hlk)
      have h2 := topAt_ok ok h1.1.1 h1.1.2
      refine ⟨q, _, rfl, hq, rfl, _, _, rfl, _, _, rfl, rfl, ?_⟩
      refine ⟨_, rfl, _, rfl, _, rfl, b, _, _, _, rfl, rfl, E1.tup hb, at_of (show lk.1 = ((lk.1.toNat : Nat) : Int) by omega) (iv_at (topAt_get h1.1.1 h1.1.2)), _, _, rfl, rfl, _, _, rfl, rfl, .inr ⟨by omega, by omega⟩, ?_⟩
      refine ⟨_, rfl, _, rfl, sa, _, _, _, rfl, rfl, E1.tup hsa, at_of (show lk.1 = ((lk.1.toNat : Nat) : Int) by omega) (iv_at (stAt_get h1.1.1 (by rw [so.len]; exact h1.1.2))), _, _, rfl, rfl, ?_⟩
      exact ⟨_, _, by rw [foldl_take' hlk]; rfl, rfl⟩
    · rintro σ H' ⟨o3, o5, rfl, rfl⟩
      have e : ((looksOf W n).take vs.length) = looksOf W n := List.take_of_length_le (by rw [paired_len hvs, List.length_map]; exact Nat.le_refl _)
      rw [e]
      exact ⟨_, rfl, k _ E1⟩
theorem ok_mood_told {f : Addr} {fd : FuncData} (F : Fun K "mood_told" "mood_told" s_mood_told f fd)
    (c_place_seen : Cal P w K mg base CX0 2 "place_seen" ["web", "state", "folk"] spPlaceSeen) : FnOk P w K mg base CX0 3 f fd ["web", "rules", "state", "folk"] spMoodTold := by
  refine F.ok sc_mood_told (fun vs H Q E h => ?_) (fun cdv A outer s H vs Q E hr h => ?_)
  · obtain ⟨v, r, z, W, ru, st, n, rfl, _⟩ := h
    rfl
  · obtain ⟨v, r, z, W, ru, st, n, rfl, hW, ok, ⟨ra, rvs, rfl, hra, hru⟩, rok, hz, so, hn, k⟩ := h
    refine ⟨_, (pss_one (ps_ret (pe_ix ix_tT (pe_ix ix_tT (pv 1) (pv 3) (fun _ _ => rfl)) (pe_c0 c_place_seen (hr.mono (by decide)) (by rfl) (pa_cons (pv 0) (pa_cons (pv 2) (pa_cons (pv 3) pa_nil)))) (fun _ _ => rfl)))), ?_⟩
    have hrl : n.toNat < ru.length := by rw [rok.len]; omega
    have hr1 : ru[n.toNat]? = some (ru.getD n.toNat []) := by rw [List.getD_eq_getElem?_getD, List.getElem?_eq_getElem hrl]; rfl
    obtain ⟨tv, htv, ta, rfl, hta⟩ := paired_get hru hr1
    have hb1 := place_bd ok so (looksOf W n) 1 0 (fun l hl => (looksOf_ok ok l hl).1) (by decide) (by decide)
    have hb2 : (looksOf W n).foldl (placeStep W st) 0 < ((ru.getD n.toNat []).length : Int) := by rw [rok.rows n hn.1 hn.2]; exact hb1.2
    refine ⟨_, rfl, _, rfl, ra, _, _, _, rfl, rfl, hra, at_of (show n = ((n.toNat : Nat) : Int) by omega) htv, _, rfl, _, rfl, _, rfl, _, _, W, st, n, rfl, hW, ok, hz, so, fun H1 E1 => ?_⟩
    refine ⟨ta, _, _, _, rfl, rfl, E1.tup hta, at_of (j := ((looksOf W n).foldl (placeStep W st) 0).toNat) (show (looksOf W n).foldl (placeStep W st) 0 = _ by omega) (iv_at (n := moodTold W ru st n) ?_), k _ E1⟩
    unfold moodTold placeOf
    rw [List.getD_eq_getElem?_getD (l := ru.getD n.toNat []), List.getElem?_eq_getElem (by omega)]
    rfl
end
end Lk


/-! ## D11 -/
set_option Elab.async false
set_option linter.all false
set_option maxRecDepth 100000
set_option maxHeartbeats 2000000
namespace Lk
open PySem PySem.Spec PyProof.Rows L2 Gx
open GxR (TabG Tabbed TabB)
open RZ (ItzT pi_zipA)
variable [Own]
theorem walk_zipT {K : PySem.W.Frag} {a b : Addr} {xs ys : List V} {n : Nat} (hn : n = min xs.length ys.length) : Walk (ItzT K a b) n (fun H => SqT K H a xs ∧ SqT K H b ys) (YPair (fun i => xs[i]?) (fun i => ys[i]?)) := by
  subst hn
  refine ⟨fun i _ hi q => ⟨xs, ys, xs[i]'(by omega), ys[i]'(by omega), q.1, q.2, by simp [show i < xs.length by omega], by simp [show i < ys.length by omega]⟩, fun _ q => ⟨xs, ys, q.1, q.2, by omega⟩, fun i H v H' _ q y => ?_⟩
  obtain ⟨T, x, z, h1, h2, h3, h4, h5⟩ := y
  exact ⟨T, x, z, h1, h2, h3, h4 xs q.1, h5 ys q.2⟩
abbrev s_is_state : Stmt := top 36
theorem sc_is_state : FnScope ["web", "value", "tops", "_", "mood", "top"] ["web", "value"] (defScope s_is_state) := ⟨rfl, rfl, rfl, by decide +kernel, rfl, by decide +kernel, by decide +kernel⟩
def spIsState (Ps : List Addr) : Sp := fun vs H Q _ => ∃ (v z : V) (W : Web) (st : List Int), vs = [v, z] ∧ WebAt H v W ∧ W.Ok ∧ TI H z st ∧ StOk W st ∧ Tabs Ps H ∧ ∀ H', Ext H H' → Q (.bl true) H'
abbrev s_check_state : Stmt := top 37
theorem sc_check_state : FnScope ["web", "state"] ["web", "state"] (defScope s_check_state) := ⟨rfl, rfl, rfl, by decide +kernel, rfl, by decide +kernel, by decide +kernel⟩
def spCheckState (Ps : List Addr) : Sp := fun vs H Q _ => ∃ (v z : V) (W : Web) (st : List Int), vs = [v, z] ∧ WebAt H v W ∧ W.Ok ∧ TI H z st ∧ StOk W st ∧ Tabs Ps H ∧ ∀ H', Ext H H' → Q .non H'
abbrev s_wrong_part : Stmt := top 25
theorem sc_wrong_part : FnScope ["web", "tops", "looks"] ["web"] (defScope s_wrong_part) := ⟨rfl, rfl, rfl, by decide +kernel, rfl, by decide +kernel, by decide +kernel⟩
def spWrongPart (Ps : List Addr) : Sp := fun vs H Q _ => ∃ (v : V) (W : Web), vs = [v] ∧ WebAt H v W ∧ W.Ok ∧ Tabs Ps H ∧ ∀ H', Ext H H' → Q .non H'
abbrev s_check_web : Stmt := top 26
theorem sc_check_web : FnScope ["web", "part"] ["web"] (defScope s_check_web) := ⟨rfl, rfl, rfl, by decide +kernel, rfl, by decide +kernel, by decide +kernel⟩
def spCheckWeb (Ps : List Addr) : Sp := fun vs H Q _ => ∃ (v : V) (W : Web), vs = [v] ∧ WebAt H v W ∧ W.Ok ∧ Tabs Ps H ∧ ∀ H', Ext H H' → Q .non H'
abbrev s_check_folk : Stmt := top 27
theorem sc_check_folk : FnScope ["web", "folk", "tops", "_"] ["web", "folk"] (defScope s_check_folk) := ⟨rfl, rfl, rfl, by decide +kernel, rfl, by decide +kernel, by decide +kernel⟩
def spCheckFolk : Sp := fun vs H Q _ => ∃ (v : V) (W : Web) (f : Int), vs = [v, .int f] ∧ WebAt H v W ∧ (0 ≤ f ∧ f < W.tops.length) ∧ Q .non H
section
variable {P : Program} {w : World} {K : PySem.W.Frag} {mg : Str → Option Value} {base : Heap} {Ps : List Addr}
theorem ok_is_state {f T : Addr} {fd : FuncData} (F : FunT K mg base Ps "is_state" s_is_state f fd T) (B : Blt mg)
    (c_is_whole : Cal P w K mg base CX0 1 "is_whole" ["value", "least", "most"] spIsWhole) : FnOk P w K mg base CX0 3 f fd ["web", "value"] (spIsState Ps) := by
  refine F.ok sc_is_state (fun vs H Q E h => ?_) (fun c A outer s0 H vs Q E TB hr h => ?_)
  · obtain ⟨v, z, W, st, rfl, _⟩ := h
    rfl
  · obtain ⟨v, z, W, st, rfl, hW, ok, ⟨sa, rfl, hsa⟩, so, hTb, k⟩ := h
    obtain ⟨a, t, l, rfl, ha, ⟨b, rfl, hb⟩, hl⟩ := id hW
    refine ⟨_, (pss_cons (ps_asg (pv 0) (pg_tupT (n := 2) rfl (pgs_cons (pg_name (i := 2) sc_is_state.nd rfl (by first | exact Or.inl rfl | exact Or.inr rfl)) (pgs_cons (pg_name (i := 3) sc_is_state.nd rfl (by first | exact Or.inl rfl | exact Or.inr rfl)) pgs_nil))))
      (pss_cons (ps_if (PW.pt (pw_or (pt_not (pt_val (pe_callB call_isi (by rfl) B.isi boot_isinstance (pa_cons (pv 1) (pa_cons (pe_bltn (v := .ty "tuple") (by rfl) B.tuple boot_tyTuple rfl) pa_nil))))) (pw_or1 (pt_cmpR op_ne (pe_callB call_lenT (by rfl) B.len PySem.boot_len (pa_cons (pv 1) pa_nil)) (pe_callB call_lenT (by rfl) B.len PySem.boot_len (pa_cons (pv 2) pa_nil)) (nomark _)))))
        (pss_one (ps_ret pe_bl)) pss_nil)
      (pss_one (ps_ret (pe_allG (own := [("mood", 4), ("top", 5)]) (k := 1) (hr.mono (by decide)) rfl sc_is_state.nd (by rfl) B.all TB rfl (pi_zipA (by rfl) B.zip (pa_cons (pv 1) (pa_cons (pv 2) pa_nil))) ⟨(blkOk_by (N := ["web", "value", "tops", "_", "mood", "top"]) (sc := defScope s_is_state) (by decide +kernel)), noCells_ok (by decide +kernel), rfl, rfl⟩ (fun _ _ _ _ _ _ => (pg_tupT (n := 2) rfl (pgs_cons (pg_name (i := 4) sc_is_state.nd rfl (by first | exact Or.inl rfl | exact Or.inr rfl)) (pgs_cons (pg_name (i := 5) sc_is_state.nd rfl (by first | exact Or.inl rfl | exact Or.inr rfl)) pgs_nil)))) (fun _ _ _ _ _ _ hr' => pts_nil) (fun _ _ _ _ _ _ hr' => (pe_c0 c_is_whole (hr'.mono (by decide)) (by rfl) (pa_cons (pv 4) (pa_cons pe_int (pa_cons (pv 5) pa_nil)))))))))), ?_⟩
    refine ⟨_, rfl, a, _, rfl, ha, rfl, _, _, rfl, _, _, rfl, rfl, ?_⟩
    refine ⟨_, rfl, _, _, _, _, true, rfl, .ty "tuple", isi_tup hsa, kit_ty (by decide +kernel), _, rfl, iteF ?_⟩
    refine ⟨_, rfl, _, _, rfl, .inr hsa, _, rfl, _, _, rfl, .inr hb, rfl, _, rfl, ?_⟩
    have e1 : (!decide (V.int ((iv st).length : Int) = V.int ((iv W.tops).length : Int))) = false := by
      rw [iv_len, iv_len, so.len, decide_eq_true rfl]
      rfl
    rw [e1]
    refine iteF ?_
    have hg : TabG H T := hTb T F.mem
    refine ⟨_, rfl, _, rfl, sa, b, iv st, iv W.tops, rfl, .inr ⟨SqT.of hsa, SqT.of hb, hg, fun H2 hT2 => ?_⟩⟩
    have E2 : Ext H H2 := Ext.tabbed F.nown hg hT2
    refine quant_it (walk_zipT (K := K) (xs := iv st) (ys := iv W.tops) rfl) (fun _ H' => Ext H2 H') (Ext.refl _) (fun i H' _ e => ⟨SqT.of (e.tup (E2.tup hsa)), SqT.of (e.tup (E2.tup hb))⟩) (fun i x H' H'' hi e y => ?_) fun H' e => k H' (E2.trans e)
    obtain ⟨u, x1, y1, rfl, hu, rfl, hx, hy⟩ := y
    obtain ⟨m, hm, rfl⟩ := iv_get hx
    obtain ⟨t, ht, rfl⟩ := iv_get hy
    have hi1 : i < st.length := (List.getElem?_eq_some_iff.mp hm).1
    have hi2 : i < W.tops.length := by rw [← so.len]; exact hi1
    have hbd := so.bd (i : Int) (by omega) (by omega)
    have em : stAt st (i : Int) = m := by unfold stAt; rw [List.getD_eq_getElem?_getD, Int.toNat_natCast, hm]; rfl
    have et : topAt W (i : Int) = t := by unfold topAt; rw [List.getD_eq_getElem?_getD, Int.toNat_natCast, ht]; rfl
    rw [em, et] at hbd
    refine ⟨u, _, rfl, upd_same, rfl, _, _, rfl, _, _, rfl, rfl, rfl, yes ?_⟩
    refine ⟨_, rfl, _, rfl, m, 0, t, rfl, ?_⟩
    rw [whole_in hbd.1 hbd.2]
    exact ⟨true, rfl, iteTF (e.trans (Ext.new hu _))⟩
theorem ok_check_state {f : Addr} {fd : FuncData} (F : Fun K "check_state" "check_state" s_check_state f fd)
    (c_is_state : Cal P w K mg base CX0 3 "is_state" ["web", "value"] (spIsState Ps)) : FnOk P w K mg base CX0 4 f fd ["web", "state"] (spCheckState Ps) := by
  refine F.ok sc_check_state (fun vs H Q E h => ?_) (fun cdv A outer s0 H vs Q E hr h => ?_)
  · obtain ⟨v, z, W, st, rfl, _⟩ := h
    rfl
  · obtain ⟨v, z, W, st, rfl, hW, ok, hs, so, hTb, k⟩ := h
    refine ⟨_, (pss_one (ps_if (pt_not (pt_val (pe_c0 c_is_state (hr.mono (by decide)) (by rfl) (pa_cons (pv 0) (pa_cons (pv 1) pa_nil)))))
        (pss_one ps_never) pss_nil)), ?_⟩
    exact ⟨_, rfl, _, rfl, _, _, W, st, rfl, hW, ok, hs, so, hTb, fun H' e => ⟨_, rfl, iteF (k H' e)⟩⟩
theorem ok_wrong_part {f : Addr} {fd : FuncData} (F : Fun K "wrong_part" "wrong_part" s_wrong_part f fd) (B : Blt mg)
    (c_are_tops : Cal P w K mg base CX0 3 "are_tops" ["value"] (spAreTops Ps)) (c_are_looks : Cal P w K mg base CX0 4 "are_looks" ["value", "many"] (spAreLooks Ps)) : FnOk P w K mg base CX0 5 f fd ["web"] (spWrongPart Ps) := by
  refine F.ok sc_wrong_part (fun vs H Q E h => ?_) (fun cdv A outer s0 H vs Q E hr h => ?_)
  · obtain ⟨v, W, rfl, _⟩ := h
    rfl
  · obtain ⟨v, W, rfl, hW, ok, hTb, k⟩ := h
    obtain ⟨a, t, l, rfl, ha, ⟨b, rfl, hb⟩, hl⟩ := id hW
    refine ⟨_, (pss_cons (ps_if (PW.pt (pw_or (pt_not (pt_val (pe_callB call_isi (by rfl) B.isi boot_isinstance (pa_cons (pv 0) (pa_cons (pe_bltn (v := .ty "tuple") (by rfl) B.tuple boot_tyTuple rfl) pa_nil))))) (pw_or1 (pt_cmpR op_ne (pe_callB call_lenT (by rfl) B.len PySem.boot_len (pa_cons (pv 0) pa_nil)) pe_int (nomark _)))))
        (pss_one (ps_ret pe_str)) pss_nil)
      (pss_cons (ps_asg (pv 0) (pg_tupT (n := 2) rfl (pgs_cons (pg_name (i := 1) sc_wrong_part.nd rfl (by first | exact Or.inl rfl | exact Or.inr rfl)) (pgs_cons (pg_name (i := 2) sc_wrong_part.nd rfl (by first | exact Or.inl rfl | exact Or.inr rfl)) pgs_nil))))
      (pss_cons (ps_if (pt_not (pt_val (pe_c0 c_are_tops (hr.mono (by decide)) (by rfl) (pa_cons (pv 1) pa_nil))))
        (pss_one (ps_ret pe_str)) pss_nil)
      (pss_cons (ps_if (pt_not (pt_val (pe_c0 c_are_looks (hr.mono (by decide)) (by rfl) (pa_cons (pv 2) (pa_cons (pe_callB call_lenT (by rfl) B.len PySem.boot_len (pa_cons (pv 1) pa_nil)) pa_nil)))))
        (pss_one (ps_ret pe_str)) pss_nil)
      (pss_one (ps_ret pe_non)))))), ?_⟩
    refine ⟨_, rfl, _, _, _, _, true, rfl, .ty "tuple", isi_tup ha, kit_ty (by decide +kernel), _, rfl, iteF ?_⟩
    refine ⟨_, rfl, _, _, rfl, .inr ha, rfl, _, rfl, iteF ?_⟩
    refine ⟨_, rfl, a, _, rfl, ha, rfl, _, _, rfl, _, _, rfl, rfl, ?_⟩
    refine ⟨_, rfl, _, W.tops, rfl, ⟨b, rfl, hb⟩, ⟨ok.some_, ok.few⟩, ok.tops, hTb, fun H1 e1 => ⟨_, rfl, iteF ?_⟩⟩
    refine ⟨_, rfl, _, rfl, _, _, rfl, .inr (e1.tup hb), _, W, ?_, hl.ext e1, ok, hTb.ext e1, fun H2 e2 => ⟨_, rfl, iteF (k H2 (e1.trans e2))⟩⟩
    rw [iv_len]
    rfl
theorem ok_check_web {f : Addr} {fd : FuncData} (F : Fun K "check_web" "check_web" s_check_web f fd)
    (c_wrong_part : Cal P w K mg base CX0 5 "wrong_part" ["web"] (spWrongPart Ps)) : FnOk P w K mg base CX0 6 f fd ["web"] (spCheckWeb Ps) := by
  refine F.ok sc_check_web (fun vs H Q E h => ?_) (fun cdv A outer s0 H vs Q E hr h => ?_)
  · obtain ⟨v, W, rfl, _⟩ := h
    rfl
  · obtain ⟨v, W, rfl, hW, ok, hTb, k⟩ := h
    refine ⟨_, (pss_cons (ps_set (i := 1) sc_check_web.nd rfl (by first | exact Or.inl rfl | exact Or.inr rfl) (pe_c0 c_wrong_part (hr.mono (by decide)) (by rfl) (pa_cons (pv 0) pa_nil)))
      (pss_one (ps_if (pt_cmpR op_notN (pv 1) pe_non (nomark _))
        (pss_one ps_never) pss_nil))), ?_⟩
    exact ⟨_, rfl, _, W, rfl, hW, ok, hTb, fun H' e => ⟨_, rfl, rfl, _, rfl, iteF (k H' e)⟩⟩
theorem ok_check_folk {f : Addr} {fd : FuncData} (F : Fun K "check_folk" "check_folk" s_check_folk f fd) (B : Blt mg)
    (c_is_whole : Cal P w K mg base CX0 1 "is_whole" ["value", "least", "most"] spIsWhole) : FnOk P w K mg base CX0 2 f fd ["web", "folk"] spCheckFolk := by
  refine F.ok sc_check_folk (fun vs H Q E h => ?_) (fun cdv A outer s0 H vs Q E hr h => ?_)
  · obtain ⟨v, W, n, rfl, _⟩ := h
    rfl
  · obtain ⟨v, W, n, rfl, hW, hn, k⟩ := h
    obtain ⟨a, t, l, rfl, ha, ⟨b, rfl, hb⟩, hl⟩ := id hW
    refine ⟨_, (pss_cons (ps_asg (pv 0) (pg_tupT (n := 2) rfl (pgs_cons (pg_name (i := 2) sc_check_folk.nd rfl (by first | exact Or.inl rfl | exact Or.inr rfl)) (pgs_cons (pg_name (i := 3) sc_check_folk.nd rfl (by first | exact Or.inl rfl | exact Or.inr rfl)) pgs_nil))))
      (pss_one (ps_if (pt_not (pt_val (pe_c0 c_is_whole (hr.mono (by decide)) (by rfl) (pa_cons (pv 1) (pa_cons pe_int (pa_cons (pe_op op_sub (pe_callB call_lenT (by rfl) B.len PySem.boot_len (pa_cons (pv 2) pa_nil)) pe_int) pa_nil))))))
        (pss_one ps_never) pss_nil))), ?_⟩
    refine ⟨_, rfl, a, _, rfl, ha, rfl, _, _, rfl, _, _, rfl, rfl, ?_⟩
    refine ⟨_, rfl, _, rfl, _, _, rfl, .inr hb, _, _, rfl, rfl, n, 0, _, rfl, _, rfl, ?_⟩
    rw [whole_in hn.1 (by rw [iv_len]; omega)]
    exact iteF k
end
end Lk


/-! ## LkR -/
set_option Elab.async false
set_option linter.all false
set_option maxRecDepth 100000
set_option maxHeartbeats 2000000
/-! The laws' draws: a row of four, the script first. -/
namespace Lk
open PySem PySem.Spec PyProof.Rows L2 Gx
open GxR (TabG Tabbed TabB)
variable [Own]
/-- as Ext, but for the list at r -/
structure ExtB (r : Addr) (H H' : Hp) : Prop where
  keep : ∀ a o, a ≠ r → H a = some o → isTbl o = false → H' a = some o
  tab : ∀ P, TabG H P → TabG H' P
  tb : ∀ a o, H a = some o → ∃ o', H' a = some o'
  own : ∀ P ps, Own.own P → H P = some (.tbl ps) → H' P = some (.tbl ps)
theorem Ext.b {r : Addr} {H H' : Hp} (e : Ext H H') : ExtB r H H' := ⟨fun a o _ h q => e.keep a o h q, e.tab, e.tb, e.own⟩
theorem ExtB.refl (r : Addr) (H : Hp) : ExtB r H H := (Ext.refl H).b
theorem ExtB.trans {r : Addr} {H H1 H2 : Hp} (a : ExtB r H H1) (b : ExtB r H1 H2) : ExtB r H H2 := ⟨fun c o n h q => b.keep c o n (a.keep c o n h q) q, fun P h => b.tab P (a.tab P h), fun c o h => by
  obtain ⟨o', h'⟩ := a.tb c o h
  exact b.tb c o' h', fun P ps o h => b.own P ps o (a.own P ps o h)⟩
theorem ExtB.upd {r : Addr} {H : Hp} {xs ys : List V} (h : H r = some (.lst xs)) : ExtB r H (upd H r (.lst ys)) := ⟨fun a o n e _ => by rw [upd_ne n]; exact e, fun P ⟨ps, e, t⟩ => ⟨ps, by rw [upd_ne (ne_of h e (by intro z; cases z)).symm]; exact e, t⟩, fun a o e => by
  by_cases z : a = r
  · exact ⟨_, by rw [z]; exact upd_same⟩
  · exact ⟨o, by rw [upd_ne z]; exact e⟩, fun P ps _ e => by rw [upd_ne (ne_of h e (by intro z; cases z)).symm]; exact e⟩
theorem ExtB.free {r : Addr} {H H' : Hp} (e : ExtB r H H') {l : Addr} (h : H' l = none) : H l = none := by
  cases q : H l with
  | none => rfl
  | some o =>
    obtain ⟨o', h'⟩ := e.tb l o q
    rw [h] at h'
    cases h'
section
variable {r : Addr} {H H' : Hp} {rs : List V}
theorem ExtB.tup (e : ExtB r H H') (hr : H r = some (.lst rs)) {a : Addr} {xs : List V} (h : H a = some (.tup xs)) : H' a = some (.tup xs) := e.keep _ _ (ne_of hr h (by intro z; cases z)).symm h rfl
theorem ExtB.lst (e : ExtB r H H') {a : Addr} {xs : List V} (n : a ≠ r) (h : H a = some (.lst xs)) : H' a = some (.lst xs) := e.keep _ _ n h rfl
theorem TI.extB (e : ExtB r H H') (hr : H r = some (.lst rs)) {v : V} {ns : List Int} (h : TI H v ns) : TI H' v ns := by
  obtain ⟨a, q, h⟩ := h
  exact ⟨a, q, e.tup hr h⟩
theorem pTI.extB (e : ExtB r H H') (hr : H r = some (.lst rs)) {vs : List V} {rows : List (List Int)} (h : Paired (TI H) vs rows) : Paired (TI H') vs rows := paired_mono (fun _ _ h => h.extB e hr) h
theorem TT2.extB (e : ExtB r H H') (hr : H r = some (.lst rs)) {v : V} {rows : List (List Int)} (h : TT2 H v rows) : TT2 H' v rows := by
  obtain ⟨a, vs, q, h, p⟩ := h
  exact ⟨a, vs, q, e.tup hr h, pTI.extB e hr p⟩
theorem WebAt.extB (e : ExtB r H H') (hr : H r = some (.lst rs)) {v : V} {W : Web} (h : WebAt H v W) : WebAt H' v W := by
  obtain ⟨a, t, l, q, h, p1, p2⟩ := h
  exact ⟨a, t, l, q, e.tup hr h, p1.extB e hr, p2.extB e hr⟩
theorem Tabs.extB {Ps : List Addr} (t : Tabs Ps H) (e : ExtB r H H') : Tabs Ps H' := fun P h => e.tab P (t P h)
end
/-- the rest of a row of draws -/
structure Dr where
  pos : Nat
  rest : Int
  cell : Int
structure Dr.Ok (d : Dr) : Prop where
  r0 : 0 ≤ d.rest
  r1 : d.rest < 2147483647
  c0 : 0 ≤ d.cell
theorem SqL.extB {K : PySem.W.Frag} {r : Addr} {H H' : Hp} (e : ExtB r H H') {a : Addr} {xs : List V} (n : a ≠ r) (h : SqL K H a xs) : SqL K H' a xs := by
  rcases h with (h | ⟨o, h⟩) | h
  · exact .inl (.inl (e.keep _ _ n h rfl))
  · exact .inl (.inr ⟨o, e.keep _ _ n h rfl⟩)
  · exact .inr h
theorem SqL.ext {K : PySem.W.Frag} {H H' : Hp} (e : Ext H H') {a : Addr} {xs : List V} (h : SqL K H a xs) : SqL K H' a xs := by
  rcases h with (h | ⟨o, h⟩) | h
  · exact .inl (.inl (e.keep _ _ h rfl))
  · exact .inl (.inr ⟨o, e.keep _ _ h rfl⟩)
  · exact .inr h
/-- the script, that is no row -/
def ScrAt (K : PySem.W.Frag) (H : Hp) (r sc : Addr) (xs : List V) : Prop := (SqL K H sc xs ∧ sc ≠ r) ∨ ∀ H' : Hp, SqL K H' sc xs
theorem ScrAt.sql {K : PySem.W.Frag} {H : Hp} {r sc : Addr} {xs : List V} (h : ScrAt K H r sc xs) : SqL K H sc xs := by
  rcases h with h | h
  · exact h.1
  · exact h H
theorem ScrAt.extB {K : PySem.W.Frag} {H H' : Hp} {r sc : Addr} {xs : List V} (h : ScrAt K H r sc xs) (e : ExtB r H H') : ScrAt K H' r sc xs := by
  rcases h with ⟨h, n⟩ | h
  · exact .inl ⟨SqL.extB e n h, n⟩
  · exact .inr h
theorem ScrAt.new {K : PySem.W.Frag} {H : Hp} {r sc : Addr} {xs : List V} (h : SqL K H sc xs) (hr : H r = none) (o : HO) : ScrAt K (L2.upd H r o) r sc xs := by
  rcases h with (h | ⟨o', h⟩) | h
  · have n := ne_of_none h hr
    exact .inl ⟨.inl (.inl (by rw [upd_ne n]; exact h)), n⟩
  · have n := ne_of_none h hr
    exact .inl ⟨.inl (.inr ⟨o', by rw [upd_ne n]; exact h⟩), n⟩
  · exact .inr fun _ => .inr h
/-- at a list that stands not in H0 -/
theorem ScrAt.put {K : PySem.W.Frag} {H H0 : Hp} {r sc D : Addr} {xs : List V} (h : ScrAt K H r sc xs) (h0 : ScrAt K H0 r sc xs) (q : H0 D = none) (o : HO) : ScrAt K (L2.upd H D o) r sc xs := by
  rcases h0 with ⟨h0, n0⟩ | h0
  · rcases h0 with (h1 | ⟨o1, h1⟩) | h1
    · have n := ne_of_none h1 q
      refine .inl ⟨?_, n0⟩
      rcases h.sql with (h2 | ⟨o2, h2⟩) | h2
      · exact .inl (.inl (by rw [upd_ne n]; exact h2))
      · exact .inl (.inr ⟨o2, by rw [upd_ne n]; exact h2⟩)
      · exact .inr h2
    · have n := ne_of_none h1 q
      refine .inl ⟨?_, n0⟩
      rcases h.sql with (h2 | ⟨o2, h2⟩) | h2
      · exact .inl (.inl (by rw [upd_ne n]; exact h2))
      · exact .inl (.inr ⟨o2, by rw [upd_ne n]; exact h2⟩)
      · exact .inr h2
    · exact .inr fun _ => .inr h1
  · exact .inr h0
/-- the row stands -/
structure RowAt (K : PySem.W.Frag) (H : Hp) (r sc : Addr) (ns : List Int) (d : Dr) : Prop where
  row : H r = some (.lst [.ref sc, .int d.pos, .int d.rest, .int d.cell])
  scr : ScrAt K H r sc (iv ns)
  len : ns.length ≤ 63
  ok : d.Ok
theorem RowAt.ext {K : PySem.W.Frag} {H H' : Hp} {r sc : Addr} {ns : List Int} {d : Dr} (h : RowAt K H r sc ns d) (e : Ext H H') : RowAt K H' r sc ns d := ⟨e.lst h.row, h.scr.extB e.b, h.len, h.ok⟩
theorem RowAt.extB {K : PySem.W.Frag} {H H' : Hp} {r sc : Addr} {ns : List Int} {d d' : Dr} (h : RowAt K H r sc ns d) (e : ExtB r H H') (hr : H' r = some (.lst [.ref sc, .int d'.pos, .int d'.rest, .int d'.cell])) (ok : d'.Ok) : RowAt K H' r sc ns d' := ⟨hr, h.scr.extB e, h.len, ok⟩
/-- one draw -/
def drawn (ns : List Int) (d : Dr) (m : Int) : Int × Dr :=
  if 0 < d.cell then (d.cell % m, { d with cell := d.cell / m })
  else if ns.length < d.pos + 1 then ((d.rest * 48271 + 11) % 2147483647 / 7 % m, { d with pos := d.pos + 1, rest := (d.rest * 48271 + 11) % 2147483647 })
  else ((ns.getD d.pos 0) % m, { pos := d.pos + 1, rest := (d.rest * 48271 + ns.getD d.pos 0 + 11) % 2147483647, cell := if 10 ^ 18 ≤ ns.getD d.pos 0 then ns.getD d.pos 0 / m else d.cell })
theorem drawn_bd {ns : List Int} {d : Dr} {m : Int} (h : 0 < m) : 0 ≤ (drawn ns d m).1 ∧ (drawn ns d m).1 < m := by
  unfold drawn
  split
  · exact ⟨Int.emod_nonneg _ (by omega), Int.emod_lt_of_pos _ h⟩
  · split
    · exact ⟨Int.emod_nonneg _ (by omega), Int.emod_lt_of_pos _ h⟩
    · exact ⟨Int.emod_nonneg _ (by omega), Int.emod_lt_of_pos _ h⟩
theorem drawn_ok {ns : List Int} {d : Dr} {m : Int} (h : 0 < m) (ok : d.Ok) : (drawn ns d m).2.Ok := by
  have h1 := ok.r0
  have h2 := ok.r1
  have h3 := ok.c0
  unfold drawn
  split
  · exact ⟨h1, h2, Int.ediv_nonneg h3 (by omega)⟩
  · split
    · exact ⟨Int.emod_nonneg _ (by omega), Int.emod_lt_of_pos _ (by omega), h3⟩
    · refine ⟨Int.emod_nonneg _ (by omega), Int.emod_lt_of_pos _ (by omega), ?_⟩
      show 0 ≤ (if 10 ^ 18 ≤ ns.getD d.pos 0 then ns.getD d.pos 0 / m else d.cell)
      split
      · rename_i hh
        exact Int.ediv_nonneg (by omega) (by omega)
      · exact h3
end Lk

/-! ## D20 -/
set_option Elab.async false
set_option linter.all false
set_option maxRecDepth 100000
set_option maxHeartbeats 2000000
namespace Lk
open PySem PySem.Spec PyProof.Rows L2 Gx
open GxR (TabG Tabbed TabB)
variable [Own]
abbrev s__law_taken : Stmt := top 49
theorem sc__law_taken : FnScope ["row", "many", "found", "cell"] ["row", "many"] (defScope s__law_taken) := ⟨rfl, rfl, rfl, by decide +kernel, rfl, by decide +kernel, by decide +kernel⟩
/-- a row of draws stands -/
def Rw (K : PySem.W.Frag) (H : Hp) (r sc : Addr) (ns : List Int) : Prop := ∃ d, RowAt K H r sc ns d
theorem Rw.lst {K : PySem.W.Frag} {H : Hp} {r sc : Addr} {ns : List Int} (h : Rw K H r sc ns) : ∃ rs, H r = some (.lst rs) := by
  obtain ⟨_, h⟩ := h
  exact ⟨_, h.row⟩
theorem Rw.ext {K : PySem.W.Frag} {H H' : Hp} {r sc : Addr} {ns : List Int} (h : Rw K H r sc ns) (e : Ext H H') : Rw K H' r sc ns := by
  obtain ⟨_, h⟩ := h
  exact ⟨_, h.ext e⟩
def spTaken (K : PySem.W.Frag) : Sp := fun vs H Q _ => ∃ (r sc : Addr) (ns : List Int) (m : Int), vs = [.ref r, .int m] ∧ Rw K H r sc ns ∧ (0 < m ∧ m < 1000000) ∧
  ∀ H' i, ExtB r H H' → Rw K H' r sc ns → (∀ a, a ≠ r → H' a = H a) → (0 ≤ i ∧ i < m) → Q (.int i) H'
section
variable {P : Program} {w : World} {K : PySem.W.Frag} {mg : Str → Option Value} {base : Heap} {Ps : List Addr}
theorem ok_taken {f : Addr} {fd : FuncData} (F : Fun K "_law_taken" "_law_taken" s__law_taken f fd) (B : Blt mg) : FnOk P w K mg base CX0 1 f fd ["row", "many"] (spTaken K) := by
  refine F.ok sc__law_taken (fun vs H Q E h => ?_) (fun cdv A outer s0 H vs Q E hr h => ?_)
  · obtain ⟨r, sc, ns, m, rfl, _⟩ := h
    rfl
  · obtain ⟨r, sc, ns, m, rfl, ⟨d, hR⟩, hm, k0⟩ := h
    have k : ∀ H', ExtB r H H' → RowAt K H' r sc ns (drawn ns d m).2 → (∀ a, a ≠ r → H' a = H a) → Q (.int (drawn ns d m).1) H' := fun H' e q t => k0 H' _ e ⟨_, q⟩ t (drawn_bd hm.1)
    refine ⟨_, (pss_cons (ps_if (pt_cmpR op_gt (pe_ix ix_lT (pv 0) pe_int (fun _ _ => rfl)) pe_int (nomark _))
        (pss_cons (ps_set (i := 2) sc__law_taken.nd rfl (by first | exact Or.inl rfl | exact Or.inr rfl) (pe_op op_mod (pe_callTy call_int1 (by rfl) B.int boot_tyInt (pa_cons (pe_ix ix_lT (pv 0) pe_int (fun _ _ => rfl)) pa_nil)) (pv 1)))
        (pss_cons (ps_asg (pe_op op_fdiv (pe_ix ix_lT (pv 0) pe_int (fun _ _ => rfl)) (pv 1)) (pg_sub (pv 0) pe_int set_list))
        (pss_one (ps_ret (pv 2))))) pss_nil)
      (pss_cons (ps_asg (pe_op op_add (pe_ix ix_lT (pv 0) pe_int (fun _ _ => rfl)) pe_int) (pg_sub (pv 0) pe_int set_list))
      (pss_cons (ps_if (pt_cmpR op_gt (pe_ix ix_lT (pv 0) pe_int (fun _ _ => rfl)) (pe_callB call_len_seq (by rfl) B.len PySem.boot_len (pa_cons (pe_ix ix_lT (pv 0) pe_int (fun _ _ => rfl)) pa_nil)) (nomark _))
        (pss_cons (ps_asg (pe_op op_mod (pe_callTy call_int1 (by rfl) B.int boot_tyInt (pa_cons (pe_op op_add (pe_op op_mul (pe_ix ix_lT (pv 0) pe_int (fun _ _ => rfl)) pe_int) pe_int) pa_nil)) pe_int) (pg_sub (pv 0) pe_int set_list))
        (pss_one (ps_ret (pe_op op_mod (pe_callTy call_int1 (by rfl) B.int boot_tyInt (pa_cons (pe_op op_fdiv (pe_ix ix_lT (pv 0) pe_int (fun _ _ => rfl)) pe_int) pa_nil)) (pv 1))))) pss_nil)
      (pss_cons (ps_set (i := 3) sc__law_taken.nd rfl (by first | exact Or.inl rfl | exact Or.inr rfl) (pe_ix ix_list (pe_ix ix_lT (pv 0) pe_int (fun _ _ => rfl)) (pe_op op_sub (pe_ix ix_lT (pv 0) pe_int (fun _ _ => rfl)) pe_int) (fun _ _ => rfl)))
      (pss_cons (ps_asg (pe_op op_mod (pe_callTy call_int1 (by rfl) B.int boot_tyInt (pa_cons (pe_op op_add (pe_op op_add (pe_op op_mul (pe_ix ix_lT (pv 0) pe_int (fun _ _ => rfl)) pe_int) (pv 3)) pe_int) pa_nil)) pe_int) (pg_sub (pv 0) pe_int set_list))
      (pss_cons (ps_if (pt_cmpR op_ge (pv 3) (pe_op op_pow pe_int pe_int) (nomark _))
        (pss_one (ps_asg (pe_op op_fdiv (pv 3) (pv 1)) (pg_sub (pv 0) pe_int set_list))) pss_nil)
      (pss_one (ps_ret (pe_op op_mod (pe_callTy call_int1 (by rfl) B.int boot_tyInt (pa_cons (pv 3) pa_nil)) (pv 1)))))))))), ?_⟩
    have h1 := hR.ok.r0
    have h2 := hR.ok.r1
    have h3 := hR.ok.c0
    have k1 := k
    refine ⟨_, rfl, r, _, _, _, rfl, rfl, hR.row, rfl, _, _, rfl, rfl, _, rfl, ?_⟩
    unfold drawn at k1
    by_cases hc : 0 < d.cell
    · rw [if_pos hc] at k1
      rw [decide_eq_true hc]
      refine iteT ?_
      refine ⟨_, rfl, r, _, _, _, rfl, rfl, hR.row, rfl, .inl ⟨_, rfl, _, rfl, _, _, rfl, rfl, hm.1, ?_⟩⟩
      refine ⟨_, rfl, r, _, _, _, rfl, rfl, hR.row, rfl, _, rfl, _, _, rfl, rfl, ⟨hm.1, by omega⟩, _, rfl, r, _, _, _, rfl, rfl, hR.row, rfl, _, rfl, ?_⟩
      exact k1 _ (ExtB.upd hR.row) (hR.extB (ExtB.upd hR.row) upd_same ⟨h1, h2, Int.ediv_nonneg h3 (by omega)⟩) fun a ha => upd_ne ha
    · rw [if_neg hc] at k1
      rw [decide_eq_false hc]
      refine iteF ?_
      refine ⟨_, rfl, r, _, _, _, rfl, rfl, hR.row, rfl, _, _, rfl, rfl, _, rfl, r, _, _, _, rfl, rfl, hR.row, rfl, ?_⟩
      have b1 := ExtB.upd (ys := [V.ref sc, .int ((d.pos : Int) + 1), .int d.rest, .int d.cell]) hR.row
      have r1 : (upd H r (.lst [V.ref sc, .int ((d.pos : Int) + 1), .int d.rest, .int d.cell])) r = some (.lst [V.ref sc, .int ((d.pos : Int) + 1), .int d.rest, .int d.cell]) := upd_same
      have s1 := (hR.scr.extB b1).sql
      refine ⟨_, rfl, r, _, _, _, rfl, rfl, r1, rfl, _, rfl, r, _, _, _, rfl, rfl, r1, rfl, sc, _, rfl, .inl s1, _, _, rfl, rfl, _, rfl, ?_⟩
      have eL : decide (((iv ns).length : Int) < (d.pos : Int) + 1) = decide (ns.length < d.pos + 1) := by
        rw [iv_len]
        exact decide_eq_decide.mpr (by omega)
      rw [eL]
      by_cases hL : ns.length < d.pos + 1
      · rw [if_pos hL] at k1
        rw [decide_eq_true hL]
        refine iteT ?_
        refine ⟨_, rfl, r, _, _, _, rfl, rfl, r1, rfl, _, _, rfl, rfl, .inl ⟨by omega, by omega⟩, _, _, rfl, rfl, .inl ⟨_, rfl, _, _, rfl, rfl, (show (0 : Int) < 2147483647 by decide), ?_⟩⟩
        refine ⟨_, rfl, r, _, _, _, rfl, rfl, r1, rfl, ?_⟩
        have eu : ∀ z w : HO, upd (upd H r z) r w = upd H r w := fun z w => upd_upd
        rw [eu]
        refine ⟨_, rfl, r, _, _, _, rfl, rfl, upd_same, rfl, _, _, rfl, rfl, ⟨by decide, by decide⟩, .inl ⟨_, rfl, _, rfl, _, _, rfl, rfl, hm.1, ?_⟩⟩
        exact k1 _ (ExtB.upd hR.row) (hR.extB (ExtB.upd hR.row) upd_same ⟨Int.emod_nonneg _ (by omega), Int.emod_lt_of_pos _ (by omega), h3⟩) fun a ha => upd_ne ha
      · rw [if_neg hL] at k1
        rw [decide_eq_false hL]
        refine iteF ?_
        have hp : ns[d.pos]? = some (ns.getD d.pos 0) := by rw [List.getD_eq_getElem?_getD, List.getElem?_eq_getElem (by omega)]; rfl
        generalize ns.getD d.pos 0 = cell at hp k1
        refine ⟨_, rfl, r, _, _, _, rfl, rfl, r1, rfl, _, rfl, r, _, _, _, rfl, rfl, r1, rfl, _, _, rfl, rfl, sc, _, _, _, rfl, rfl, s1, at_of (j := d.pos) (by omega) (iv_at hp), ?_⟩
        refine ⟨_, rfl, r, _, _, _, rfl, rfl, r1, rfl, _, _, rfl, rfl, .inl ⟨by omega, by omega⟩, _, rfl, _, _, rfl, rfl, _, _, rfl, rfl, .inl ⟨_, rfl, _, _, rfl, rfl, (show (0 : Int) < 2147483647 by decide), ?_⟩⟩
        refine ⟨_, rfl, r, _, _, _, rfl, rfl, r1, rfl, ?_⟩
        have eu : ∀ z w : HO, upd (upd H r z) r w = upd H r w := fun z w => upd_upd
        rw [eu]
        refine ⟨_, rfl, _, _, rfl, rfl, ⟨by decide, by decide, by decide⟩, _, _, rfl, rfl, _, rfl, ?_⟩
        have e18 : (10 : Int) ^ (18 : Int).toNat = 10 ^ 18 := rfl
        rw [e18]
        have i1 : 0 ≤ (d.rest * 48271 + cell + 11) % 2147483647 := Int.emod_nonneg _ (by omega)
        have i2 : (d.rest * 48271 + cell + 11) % 2147483647 < 2147483647 := Int.emod_lt_of_pos _ (by omega)
        by_cases h18 : 10 ^ 18 ≤ cell
        · rw [if_pos h18] at k1
          rw [decide_eq_true h18]
          refine iteT ?_
          refine ⟨_, rfl, _, rfl, _, _, rfl, rfl, ⟨hm.1, by omega⟩, _, rfl, r, _, _, _, rfl, rfl, upd_same, rfl, ?_⟩
          rw [eu]
          refine ⟨_, rfl, .inl ⟨_, rfl, _, rfl, _, _, rfl, rfl, hm.1, ?_⟩⟩
          exact k1 _ (ExtB.upd hR.row) (hR.extB (ExtB.upd hR.row) upd_same ⟨i1, i2, Int.ediv_nonneg (by omega) (by omega)⟩) fun a ha => upd_ne ha
        · rw [if_neg h18] at k1
          rw [decide_eq_false h18]
          refine iteF ?_
          refine ⟨_, rfl, .inl ⟨_, rfl, _, rfl, _, _, rfl, rfl, hm.1, ?_⟩⟩
          exact k1 _ (ExtB.upd hR.row) (hR.extB (ExtB.upd hR.row) upd_same ⟨i1, i2, h3⟩) fun a ha => upd_ne ha
end
end Lk


/-! ## D05 -/
set_option Elab.async false
set_option linter.all false
set_option maxRecDepth 100000
set_option maxHeartbeats 2000000
namespace Lk
open PySem PySem.Spec PyProof.Rows L2 Gx
open GxR (TabG Tabbed TabB)
variable [Own]
/-- the moods up to a top -/
def moods (t : Int) : List Int := (List.range (t + 1).toNat).map fun k : Nat => (k : Int)
def rowsStep (rows : List (List Int)) (t : Int) : List (List Int) := rows.flatMap fun r => (moods t).map fun m => r ++ [m]
/-- all rows of moods up to these tops -/
def rowsOf (tops : List Int) : List (List Int) := tops.foldl rowsStep [[]]
theorem moods_len (t : Int) : (moods t).length = (t + 1).toNat := by unfold moods; rw [List.length_map, List.length_range]
theorem rowsStep_len (rows : List (List Int)) (t : Int) : (rowsStep rows t).length = rows.length * (t + 1).toNat := by
  unfold rowsStep
  induction rows with
  | nil => simp
  | cons r rs ih =>
    rw [List.flatMap_cons, List.length_append, ih, List.length_map, moods_len, List.length_cons, Nat.add_mul, Nat.one_mul, Nat.add_comm]
theorem rows_len4 {tops : List Int} (h : ∀ t ∈ tops, t ≤ 3) : ∀ rows : List (List Int), (tops.foldl rowsStep rows).length ≤ rows.length * 4 ^ tops.length := by
  induction tops with
  | nil => intro rows; simp
  | cons t ts ih =>
    intro rows
    have h1 := ih (fun u hu => h u (List.mem_cons_of_mem _ hu)) (rowsStep rows t)
    rw [rowsStep_len] at h1
    have h2 : (t + 1).toNat ≤ 4 := by
      have := h t (List.mem_cons_self ..)
      omega
    rw [List.foldl_cons, List.length_cons, Nat.pow_succ]
    refine Nat.le_trans h1 ?_
    have h3 : rows.length * (t + 1).toNat ≤ rows.length * 4 := Nat.mul_le_mul_left _ h2
    calc rows.length * (t + 1).toNat * 4 ^ ts.length ≤ rows.length * 4 * 4 ^ ts.length := Nat.mul_le_mul_right _ h3
      _ = rows.length * (4 ^ ts.length * 4) := by rw [Nat.mul_assoc, Nat.mul_comm 4]
theorem rows_row {tops : List Int} : ∀ {rows : List (List Int)} {n : Nat}, (∀ r ∈ rows, r.length = n) → ∀ r ∈ tops.foldl rowsStep rows, r.length = n + tops.length := by
  induction tops with
  | nil => intro rows n h r hr; simpa using h r hr
  | cons t ts ih =>
    intro rows n h r hr
    rw [List.foldl_cons] at hr
    have := ih (rows := rowsStep rows t) (n := n + 1) (fun q hq => by
      unfold rowsStep at hq
      obtain ⟨z, hz, hq⟩ := List.mem_flatMap.mp hq
      obtain ⟨m, _, rfl⟩ := List.mem_map.mp hq
      rw [List.length_append, h z hz]
      rfl) r hr
    rw [this, List.length_cons]
    omega
abbrev s_rows_of : Stmt := top 30
theorem sc_rows_of : FnScope ["tops", "rows", "top", "row", "mood"] ["tops"] (defScope s_rows_of) := ⟨rfl, rfl, rfl, by decide +kernel, rfl, by decide +kernel, by decide +kernel⟩
def spRowsOf : Sp := fun vs H Q _ => ∃ (v : V) (tops : List Int), vs = [v] ∧ TI H v tops ∧ tops.length ≤ 6 ∧ (∀ t ∈ tops, 0 ≤ t ∧ t ≤ 3) ∧ ∀ H' p vs, Ext H H' → H p = none → H' p = some (.lst vs) → Paired (TI H') vs (rowsOf tops) → Q (.ref p) H'
theorem foldl_take {α β : Type} {f : α → β → α} {a : α} {l : List β} {i : Nat} {x : β} (h : l[i]? = some x) : (l.take (i + 1)).foldl f a = f ((l.take i).foldl f a) x := by
  rw [List.take_add_one, h]
  simp
theorem flatMap_take {α β : Type} {f : α → List β} {l : List α} {i : Nat} {x : α} (h : l[i]? = some x) : (l.take (i + 1)).flatMap f = (l.take i).flatMap f ++ f x := by
  rw [List.take_add_one, h]
  simp
section
variable {P : Program} {w : World} {K : PySem.W.Frag} {mg : Str → Option Value} {base : Heap} {Ps : List Addr}
theorem ok_rows_of {f : Addr} {fd : FuncData} (F : Fun K "rows_of" "rows_of" s_rows_of f fd) (B : Blt mg) : FnOk P w K mg base CX0 1 f fd ["tops"] spRowsOf := by
  refine F.ok sc_rows_of (fun vs H Q E h => ?_) (fun cdv A outer s H vs Q E hr h => ?_)
  · obtain ⟨v, W, rfl, _⟩ := h
    rfl
  · obtain ⟨v, tops, rfl, ⟨a, rfl, ha⟩, h6, hT, k⟩ := h
    refine ⟨_, (pss_cons (ps_set (i := 1) sc_rows_of.nd rfl (by first | exact Or.inl rfl | exact Or.inr rfl) (pe_lst (pa_cons (pe_tup pa_nil) pa_nil)))
      (pss_cons (ps_for PassesOwn.never rfl (pi_tup (pv 0)) (pg_name (i := 2) sc_rows_of.nd rfl (by first | exact Or.inl rfl | exact Or.inr rfl))
        (pss_one (ps_setLc2 (i := 1) (own := [("row", 3), ("mood", 4)]) (vs1 := [4]) rfl sc_rows_of.nd rfl rfl (sw_true rfl rfl rfl (by decide +kernel)) (pi_list (pv 1)) (blkOk_by (N := ["tops", "rows", "top", "row", "mood"]) (sc := defScope s_rows_of) (by decide +kernel)) (by decide) (fun _ _ _ _ _ => (pg_name (i := 3) sc_rows_of.nd rfl (by first | exact Or.inl rfl | exact Or.inr rfl))) (fun _ _ _ _ _ => pts_nil) (fun _ _ _ _ _ => (pi_range1 (by rfl) B.range (pa_cons (pe_op op_add (pv 2) pe_int) pa_nil))) (fun _ _ _ _ _ => (pg_name (i := 4) sc_rows_of.nd rfl (by first | exact Or.inl rfl | exact Or.inr rfl))) (fun _ _ _ _ _ => pts_nil) (fun _ _ _ _ _ => (pe_op op_catTT (pv 3) (pe_tup (pa_cons (pv 4) pa_nil)))))))
      (pss_one (ps_ret (pv 1))))), ?_⟩
    have rl : ∀ i, ((tops.take i).foldl rowsStep [[]]).length ≤ 4096 := fun i => by
      have h1 := rows_len4 (tops := tops.take i) (fun t ht => (hT t (List.mem_of_mem_take ht)).2) [[]]
      have h2 : 4 ^ (tops.take i).length ≤ 4 ^ 6 := Nat.pow_le_pow_right (by decide) (by rw [List.length_take]; omega)
      simp only [List.length_singleton, Nat.one_mul] at h1
      exact Nat.le_trans h1 h2
    refine ⟨(by show 0 ≤ sizeLine; decide), fun q hq => ⟨(by show 1 ≤ sizeLine; decide), fun p hp => ?_⟩⟩
    have hpq : p ≠ q := fun z => by rw [z, upd_same] at hp; cases hp
    have hp0 : H p = none := by rw [upd_ne hpq] at hp; exact hp
    have E1 : Ext H (upd (upd H q (.tup [])) p (.lst [.ref q])) := (Ext.new hq _).trans (Ext.new hp _)
    refine ⟨_, rfl, a, rfl, ⟨_, SqT.of (E1.tup ha)⟩, for_tup (K := K) (a := a) (xs := iv tops) (fun i σ H' => ∃ (r : Addr) (vs : List V) (o2 o3 o4 : Option V), σ = [some (.ref a), some (.ref r), o2, o3, o4] ∧ Ext H H' ∧ H r = none ∧ H' r = some (.lst vs) ∧ Paired (TI H') vs ((tops.take i).foldl rowsStep [[]]))
      ⟨p, _, none, none, none, rfl, E1, hp0, upd_same, .cons ⟨q, rfl, by rw [upd_ne hpq.symm]; exact upd_same⟩ .nil⟩ (fun i σ H' _ ⟨_, _, _, _, _, _, e, _⟩ => SqT.of (e.tup ha)) ?_ ?_⟩
    · rintro i x σ H' hi ⟨r, vs, o2, o3, o4, rfl, e, hr0, hvs, hpv⟩
      obtain ⟨t, ht, rfl⟩ := iv_get hi
      have hb := hT t (List.mem_of_getElem? ht)
      have lvs : vs.length ≤ 4096 := by rw [paired_len hpv]; exact rl i
      refine ⟨_, rfl, r, rfl, ⟨_, SqL.of hvs⟩, fun D hD => ?_⟩
      have hDr : D ≠ r := fun z => by rw [z, hvs] at hD; cases hD
      have D0 : H D = none := e.free hD
      refine lc2_out (walk_list (K := K) (a := r) (xs := vs)) (fun j H2 => ∃ acc, H2 D = some (.lst acc) ∧ Ext H' H2 ∧ acc.length = j * (t + 1).toNat ∧ Paired (TI H2) acc ((((tops.take i).foldl rowsStep [[]]).take j).flatMap fun r => (moods t).map fun m => r ++ [m])) ⟨[], upd_same, Ext.new hD _, by simp, .nil⟩ (fun j H2 _ ⟨_, _, e2, _⟩ => SqL.of (e2.lst hvs)) (fun j x H2 H3 hj ⟨acc, hacc, e2, hl, hp2⟩ y => ?_) fun H2 ⟨acc, hacc, e2, hl, hp2⟩ => ?_
      · obtain ⟨e3, hx⟩ := y
        subst e3
        obtain ⟨row, hrow, hx2⟩ := paired_get' (pTI.ext e2 hpv) hx
        obtain ⟨z, rfl, hz⟩ := hx2
        refine ⟨rfl, yes ?_⟩
        refine ⟨_, rfl, _, _, rfl, rfl, t + 1, rfl, by omega, by omega, ?_⟩
        refine lc2_in (walk_range (lo := 0) (n := (t + 1).toNat)) (fun m H4 => ∃ acc2, H4 D = some (.lst acc2) ∧ Ext H' H4 ∧ acc2.length = j * (t + 1).toNat + m ∧ Paired (TI H4) acc2 (((((tops.take i).foldl rowsStep [[]]).take j).flatMap fun r => (moods t).map fun m => r ++ [m]) ++ ((moods t).take m).map fun m => row ++ [m])) ⟨acc, hacc, e2, by omega, by simpa using hp2⟩ (fun _ _ _ _ => trivial) (fun m x H4 H5 hm ⟨acc2, hacc2, e4, hl2, hp4⟩ y => ?_) fun H4 ⟨acc2, hacc2, e4, hl2, hp4⟩ => ?_
        · obtain ⟨e5, ex⟩ := y
          subst e5
          have ex' : x = V.int (m : Int) := ex.trans (by show V.int (0 + ((m : Nat) : Int)) = _; rw [Int.zero_add])
          subst ex'
          have hz4 : H5 z = some (.tup (iv row)) := by
            obtain ⟨row', hrow', z', ez, hz'⟩ := paired_get' (pTI.ext e4 hpv) hx
            cases ez
            rw [hrow] at hrow'
            cases hrow'
            exact hz'
          have rowlen : row.length ≤ 6 := by
            have h1 := rows_row (tops := tops.take i) (rows := [[]]) (n := 0) (fun r hr => by rw [List.mem_singleton.mp hr]; rfl) row (List.mem_of_getElem? hrow)
            rw [h1, List.length_take]
            omega
          have hm' : m < (t + 1).toNat := hm
          have hjv : j < vs.length := hj
          have lb : acc2.length < 20000 := by
            rw [hl2]
            have h3 : (t + 1).toNat ≤ 4 := by omega
            have h4 : j * (t + 1).toNat ≤ j * 4 := Nat.mul_le_mul_left _ h3
            omega
          have fin : ∀ (H7 : Hp) (y : V), Ext H5 H7 → H7 D = some (.lst acc2) → TI H7 y (row ++ [(m : Int)]) → ∃ acc, H7 D = some (.lst acc) ∧ acc.length < sizeLine ∧ ∃ acc3, (upd H7 D (.lst (acc ++ [y]))) D = some (.lst acc3) ∧ Ext H' (upd H7 D (.lst (acc ++ [y]))) ∧ acc3.length = j * (t + 1).toNat + (m + 1) ∧
              Paired (TI (upd H7 D (.lst (acc ++ [y])))) acc3 (((((tops.take i).foldl rowsStep [[]]).take j).flatMap fun r => (moods t).map fun m => r ++ [m]) ++ ((moods t).take (m + 1)).map fun m => row ++ [m]) := by
            intro H7 y e7 h7 hy
            refine ⟨acc2, h7, Nat.lt_of_lt_of_le lb (by decide), acc2 ++ [y], upd_same, (e4.trans e7).put hD _, by rw [List.length_append, hl2]; simp; omega, ?_⟩
            have em : (moods t)[m]? = some (m : Int) := by
              unfold moods
              rw [List.getElem?_map, List.getElem?_range hm']
              rfl
            rw [List.take_add_one, em, List.map_append, ← List.append_assoc]
            refine pTI.put (H := H7) h7 (fun _ _ h => h) (paired_snoc hy (pTI.ext e7 hp4))
          refine ⟨rfl, yes ?_⟩
          refine ⟨_, rfl, _, rfl, (by show 1 ≤ sizeLine; decide), fun u hu => ?_⟩
          have hzu : z ≠ u := ne_of_none hz4 hu
          have hDu : D ≠ u := ne_of_none hacc2 hu
          refine ⟨z, u, iv row, _, rfl, rfl, by rw [upd_ne hzu]; exact hz4, upd_same, by rw [iv_len]; show row.length + 1 ≤ sizeLine; exact Nat.le_of_lt (small1000 (by omega)), fun e0 => ?_, (fun _ e0 => by cases e0), fun e0 _ v hv => ?_⟩
          · refine fin _ _ (Ext.new hu _) (by rw [upd_ne hDu]; exact hacc2) ⟨u, rfl, ?_⟩
            have r0 : row = [] := by
              cases row with
              | nil => rfl
              | cons a b => cases e0
            rw [upd_same, r0]
            rfl
          · have hDv : D ≠ v := fun z => by rw [z] at hDu hacc2; rw [upd_ne hDu, hacc2] at hv; cases hv
            refine fin _ _ ((Ext.new hu _).trans (Ext.new hv _)) (by rw [upd_ne hDv, upd_ne hDu]; exact hacc2) ⟨v, rfl, ?_⟩
            rw [upd_same]
            show some (HO.tup (iv row ++ [V.int (m : Int)])) = _
            unfold iv
            rw [List.map_append]
            rfl
        · refine ⟨acc2, hacc2, e4, by rw [hl2, Nat.add_mul, Nat.one_mul], ?_⟩
          have hm2 : (moods t).take (t + 1).toNat = moods t := List.take_of_length_le (by rw [moods_len]; exact Nat.le_refl _)
          rw [hm2] at hp4
          rw [flatMap_take hrow]
          exact hp4
      · refine ⟨D, acc, _, _, _, rfl, e.trans e2, D0, hacc, ?_⟩
        have hj2 : ((tops.take i).foldl rowsStep [[]]).take vs.length = (tops.take i).foldl rowsStep [[]] := List.take_of_length_le (by rw [paired_len hpv]; exact Nat.le_refl _)
        rw [hj2] at hp2
        rw [foldl_take ht]
        exact hp2
    · rintro σ H' ⟨r, vs, o2, o3, o4, rfl, e, hr0, hvs, hpv⟩
      rw [iv_len, List.take_length] at hpv
      exact ⟨_, rfl, k H' r vs e hr0 hvs hpv⟩
end
end Lk


/-! ## Seq2 -/
set_option Elab.async false
set_option linter.all false
set_option maxRecDepth 100000
set_option maxHeartbeats 2000000
/-! Walks over a list or a tuple. -/
namespace Lk
open PySem PySem.Spec PyProof.Rows L2 Gx
variable [Own]
/-- a list (true) or a tuple of these -/
def SqB (k : Bool) (H : Hp) (a : Addr) (xs : List V) : Prop := if k = true then H a = some (.lst xs) else H a = some (.tup xs)
theorem SqB.ext {k : Bool} {H H' : Hp} {a : Addr} {xs : List V} (e : Ext H H') (h : SqB k H a xs) : SqB k H' a xs := by
  cases k with
  | true => exact e.lst h
  | false => exact e.tup h
def itB (K : PySem.W.Frag) (k : Bool) (a : Addr) : It := if k = true then Itl K a else Itt K a
def iSeqV (K : PySem.W.Frag) (i : Nat) : L2.TI := fun σ H R => ∃ a, σ[i]? = some (some (.ref a)) ∧ ∃ (k : Bool) (xs : List V), SqB k H a xs ∧ R (itB K k a) H
section
variable {X : Cx} {tg l : Expr}
theorem pi_seqV {i : Nat} (hv : PE X l (tVar i)) : PI X tg l (iSeqV X.K i) := by
  refine ⟨fun pins s σ H R I h => ?_⟩
  obtain ⟨a, e, k, xs, h, r⟩ := h
  cases k with
  | true => exact (pi_list hv).run pins s σ H R I ⟨_, e, a, rfl, ⟨xs, SqL.of h⟩, r⟩
  | false => exact (pi_tup hv).run pins s σ H R I ⟨_, e, a, rfl, ⟨xs, SqT.of h⟩, r⟩
end
theorem for_seq {K : PySem.W.Frag} {k : Bool} {a : Addr} {xs : List V} {g : TG} {tb : TS} {D : Ends} {σ : L2.St} {H : Hp} (Pv : Nat → L2.St → Hp → Prop) (h0 : Pv 0 σ H) (hl : ∀ i σ H, i ≤ xs.length → Pv i σ H → SqB k H a xs)
    (hs : ∀ i x σ H, xs[i]? = some x → Pv i σ H → g x σ H fun σ2 H2 => tb { nx := Pv (i + 1), rt := D.rt, bk := D.nx, ct := Pv (i + 1) } σ2 H2) (hd : ∀ σ H, Pv xs.length σ H → D.nx σ H) :
    ∃ W : Nat → Nat → L2.St → Hp → Prop, (∃ m, W 0 m σ H) ∧ ∀ i m σ H, W i m σ H → (itB K k a).stop i H ∧ D.nx σ H ∨ (itB K k a).go i H ∧
      ∃ N : L2.St → Hp → Prop, (∀ σ' H', N σ' H' → ∃ m', m' < m ∧ W (i + 1) m' σ' H') ∧ ∀ x H', (itB K k a).yld i H x H' → g x σ H' fun σ2 H2 => tb { nx := N, rt := D.rt, bk := D.nx, ct := N } σ2 H2 := by
  cases k with
  | true => exact for_list (K := K) (a := a) (xs := xs) Pv h0 (fun i σ H hi p => SqL.of (hl i σ H hi p)) hs hd
  | false => exact for_tup (K := K) (a := a) (xs := xs) Pv h0 (fun i σ H hi p => SqT.of (hl i σ H hi p)) hs hd
theorem paired_app {α β : Type} {R : α → β → Prop} : ∀ {l l' : List α} {m m' : List β}, Paired R l m → Paired R l' m' → Paired R (l ++ l') (m ++ m')
  | _, _, _, _, .nil, q => q
  | _, _, _, _, .cons r t, q => .cons r (paired_app t q)
end Lk

/-! ## Zip3 -/
set_option Elab.async false
set_option linter.all false
set_option maxRecDepth 100000
set_option maxHeartbeats 2000000
/-! zip of a list and two tuples of one length. -/
namespace Lk
open PySem PySem.Spec PyProof.Rows L2 Gx
variable [Own]
/-- what stands at the three -/
def At3 (a b c : Addr) (H : Hp) (xs ys zs : List V) : Prop := (H a = some (.lst xs) ∧ H b = some (.tup ys) ∧ H c = some (.tup zs)) ∧ ys.length = xs.length ∧ zs.length = xs.length
def Itz3 (a b c : Addr) : It where
  go i H := ∃ xs ys zs, At3 a b c H xs ys zs ∧ i < xs.length
  yld i H v H' := ∃ T x y u, v = .ref T ∧ H T = none ∧ H' = upd H T (.tup [x, y, u]) ∧ ∀ xs ys zs, At3 a b c H xs ys zs → xs[i]? = some x ∧ ys[i]? = some y ∧ zs[i]? = some u
  stop i H := ∃ xs ys zs, At3 a b c H xs ys zs ∧ i = xs.length
theorem vals_arr {xs : List V} {its : List Value} (v : Vals xs its) {i : Nat} {u : Value} (h : its.toArray[i]? = some u) : ∃ x, xs[i]? = some x ∧ L2.RelV x u := by
  have h2 : its[i]? = some u := by simpa using h
  exact paired_get v h2
theorem istup_is {h : Heap} {a : Addr} {arr : Array Value} (q : IsTup h a arr) : h.IsTuple a arr := by
  first
  | exact q
  | (obtain ⟨n, q⟩ := q; exact ⟨_, q, rfl, n, rfl⟩)
  | exact ⟨_, q, rfl, _, rfl⟩
theorem is_istup {h : Heap} {a : Addr} {arr : Array Value} (q : h.IsTuple a arr) (h0 : ∀ o, h.get? a = some o → o.cls = .type "tuple" → True) : IsTup h a arr := by
  first
  | exact q
  | exact ⟨_, q⟩
theorem get_lt {h : Heap} {a : Addr} {o : Obj} (e : h.get? a = some o) : a < h.objs.size := by
  rcases Nat.lt_or_ge a h.objs.size with q | q
  · exact q
  · exfalso
    unfold Heap.get? at e
    rw [Array.getElem?_eq_none q] at e
    cases e
abbrev tn3 (z TI TO i1 i2 i3 a b c : Addr) : Nat → Heap → Prop := fun i h => IsZip h z TI TO .none ∧ IsTupOf3 h TI (.ref i1) (.ref i2) (.ref i3) ∧ (∃ a1 a2 a3, IsTupOf3 h TO a1 a2 a3) ∧ h.IsListIter i1 a i ∧ h.IsTupleIter i2 b i ∧ h.IsTupleIter i3 c i
section
variable {P : Program} {w : World} {K : PySem.W.Frag}
theorem turn_zip3 {elts : List Expr} {kk : Nat} {tpos : Pos} {a b c z TI TO i1 i2 i3 : Addr} (sep : ZipSep3 z TI TO i1 i2 i3 [i1, a] [i2, b] [i3, c]) (n1 : a ≠ i1) (n2 : b ≠ i2) (n3 : c ≠ i3) :
    Turn P w K (.Tuple elts kk tpos) (Itz3 a b c) [z, TI, TO, i1, i2, i3] z (tn3 z TI TO i1 i2 i3 a b c) := by
  refine ⟨List.mem_cons_self .., ?_, ?_, ?_, ?_, ?_⟩
  · rintro i h ⟨hz, hti, ⟨a1, a2, a3, hto⟩, ⟨o1, h1, c1, d1⟩, ⟨o2, h2, c2, d2⟩, ⟨o3, h3, c3, d3⟩⟩ q hq
    simp only [List.mem_cons, List.mem_nil_iff, or_false] at hq
    rcases hq with rfl | rfl | rfl | rfl | rfl | rfl
    · exact ⟨_, hz, fun v e => by cases e⟩
    · exact ⟨_, hti, fun v e => by cases e⟩
    · exact ⟨_, hto, fun v e => by cases e⟩
    · exact ⟨_, h1, fun v e => by rw [d1] at e; cases e⟩
    · exact ⟨_, h2, fun v e => by rw [d2] at e; cases e⟩
    · exact ⟨_, h3, fun v e => by rw [d3] at e; cases e⟩
  · rintro i h h' ⟨hz, hti, ⟨a1, a2, a3, hto⟩, ⟨o1, h1, c1, d1⟩, ⟨o2, h2, c2, d2⟩, ⟨o3, h3, c3, d3⟩⟩ kp
    exact ⟨kp z (by simp) _ hz, kp TI (by simp) _ hti, ⟨a1, a2, a3, kp TO (by simp) _ hto⟩, ⟨o1, kp i1 (by simp) _ h1, c1, d1⟩, ⟨o2, kp i2 (by simp) _ h2, c2, d2⟩, ⟨o3, kp i3 (by simp) _ h3, c3, d3⟩⟩
  · rintro X rfl rfl rfl calm i pins s σ H E I hfp ⟨hz, hti, hto, h1, h2, h3⟩ ⟨xs, ys, zs, ⟨⟨ea, eb, ec⟩, ly, lz⟩, hi⟩
    obtain ⟨its1, m1, v1, g1, s1⟩ := I.lst ea
    obtain ⟨its2, v2, g2, s2⟩ := I.tuple (SqT.of eb)
    obtain ⟨its3, v3, g3, s3⟩ := I.tuple (SqT.of ec)
    have hA : X.A.in1.handled = none := I.ok.hd calm
    have G := GoesN.zip3 (prog := X.prog) (w := X.w) (A := X.A) (elts := elts) (x1 := kk) (pos := tpos) sep (Draws.list hA i1 a n1 its1.toArray) (Draws.tuple hA i2 b n2 its2.toArray) (Draws.tuple hA i3 c n3 its3.toArray)
    have l1 := paired_len v1
    have l2 := paired_len v2
    have l3 := paired_len v3
    refine G.goes i s _ E (by simp only [List.size_toArray]; omega) ⟨hz, hti, hto, ⟨h1, ⟨_, g1, rfl, _, rfl⟩⟩, ⟨h2, istup_is g2⟩, ⟨h3, istup_is g3⟩⟩ ?_
    rintro v h' tk ⟨T, x, y, u, rfl, hT, p1, p2, p3, hI⟩ ⟨qz, qti, qto, ⟨q1, _⟩, ⟨q2, _⟩, ⟨q3, _⟩⟩ kp ht
    obtain ⟨x', e1, r1⟩ := vals_arr v1 p1
    obtain ⟨y', e2, r2⟩ := vals_arr v2 p2
    obtain ⟨u', e3, r3⟩ := vals_arr v3 p3
    have hT0 : H T = none := I.hok.fresh hT
    have I2 := I.turnedNew (h' := h') (t' := tk) (ch := [z, TO, i1, i2, i3]) (T := T) (ob := .tup [x', y', u']) kp (fun q hq => hfp q (by
      simp only [List.mem_cons, List.mem_nil_iff, or_false] at hq ⊢
      rcases hq with h | h | h | h | h <;> simp [h])) hT (by
        unfold ObjOk
        exact ⟨by show 3 ≤ sizeLine; decide, [x, y, u], .cons r1 (.cons r2 (.cons r3 .nil)), hI⟩)
    refine ⟨.ref T, _, I2, rfl, ⟨T, x', y', u', rfl, hT0, rfl, ?_⟩, ⟨qz, qti, qto, q1, q2, q3⟩, fun q hq => ?_⟩
    · rintro xs' ys' zs' ⟨⟨fa, fb, fc⟩, _, _⟩
      rw [ea] at fa
      rw [eb] at fb
      rw [ec] at fc
      cases fa
      cases fb
      cases fc
      exact ⟨e1, e2, e3⟩
    · obtain ⟨hn, _⟩ := hfp q hq
      obtain ⟨o, ho, _⟩ : ∃ o, s.heap.get? q = some o ∧ True := by
        obtain ⟨a1, a2, a3, hto⟩ := hto
        obtain ⟨o1, h1, _⟩ := h1
        obtain ⟨o2, h2, _⟩ := h2
        obtain ⟨o3, h3, _⟩ := h3
        simp only [List.mem_cons, List.mem_nil_iff, or_false] at hq
        rcases hq with rfl | rfl | rfl | rfl | rfl | rfl
        · exact ⟨_, hz, trivial⟩
        · exact ⟨_, hti, trivial⟩
        · exact ⟨_, hto, trivial⟩
        · exact ⟨_, h1, trivial⟩
        · exact ⟨_, h2, trivial⟩
        · exact ⟨_, h3, trivial⟩
      have : q ≠ T := fun e => by
        rw [e] at ho
        exact absurd (get_lt ho) (Nat.not_lt.mpr hT)
      rw [upd_ne this]
      exact hn
  · rintro X rfl rfl rfl calm i pins s σ H E I hfp ⟨hz, hti, hto, h1, h2, h3⟩ ⟨xs, ys, zs, ⟨⟨ea, eb, ec⟩, ly, lz⟩, hi⟩
    obtain ⟨its1, m1, v1, g1, s1⟩ := I.lst ea
    obtain ⟨its2, v2, g2, s2⟩ := I.tuple (SqT.of eb)
    obtain ⟨its3, v3, g3, s3⟩ := I.tuple (SqT.of ec)
    have hA : X.A.in1.handled = none := I.ok.hd calm
    have G := GoesN.zip3 (prog := X.prog) (w := X.w) (A := X.A) (elts := elts) (x1 := kk) (pos := tpos) sep (Draws.list hA i1 a n1 its1.toArray) (Draws.tuple hA i2 b n2 its2.toArray) (Draws.tuple hA i3 c n3 its3.toArray)
    have l1 := paired_len v1
    have l2 := paired_len v2
    have l3 := paired_len v3
    have en : min (min its1.toArray.size its2.toArray.size) its3.toArray.size = i := by simp only [List.size_toArray]; omega
    refine G.stops s _ E (by rw [en]; exact ⟨hz, hti, hto, ⟨h1, ⟨_, g1, rfl, _, rfl⟩⟩, ⟨h2, istup_is g2⟩, ⟨h3, istup_is g3⟩⟩) ?_
    intro h' tk kp ht
    exact I.turnedL (h' := h') (t' := tk) (ch := [z, TO, i1, i2, i3]) kp (fun q hq => hfp q (by
      simp only [List.mem_cons, List.mem_nil_iff, or_false] at hq ⊢
      rcases hq with h | h | h | h | h <;> simp [h]))
  · rintro A i s Q E ⟨hz, _⟩ q
    exact wpAny_pyIter_zip hz q
def iZip3 (ta : TA) : L2.TI := fun σ H R => ta σ H fun vs H1 => ∃ (a b c : Addr) (xs ys zs : List V), vs = [.ref a, .ref b, .ref c] ∧ At3 a b c H1 xs ys zs ∧ R (Itz3 a b c) H1
theorem pi_zip3 {X : Cx} {e e2 e3 : Expr} {ta : TA} {p pos tpos : Pos} {elts : List Expr} {kk : Nat} (hg : Gl X "zip") (hm : X.mg "zip" = none) (ha : PA X [e, e2, e3] ta)
    (hs : starEach [e, e2, e3] X.env = (false, eval e X.env) :: starEach [e2, e3] X.env := by rfl) (hpl : (backTo pos (starEach [e2, e3] X.env)).any (·.1) = false := by rfl) :
    PI X (.Tuple elts kk tpos) (.Call (.Name "zip" p) [e, e2, e3] [] pos) (iZip3 ta) := by
  refine ⟨fun pins s σ H R I h => ?_⟩
  refine Call_ (ld_blt I hg hm boot_zip (PyProof.Rows.callWith_type1 (thn (ha.run pos pins s σ H _ I h) fun us s2 q => ?_) hs hpl))
  obtain ⟨vs, H2, I2, rv, a, b, c, xs, ys, zs, rfl, hat, r⟩ := q
  obtain ⟨⟨ea, eb, ec⟩, ly, lz⟩ := id hat
  cases rv with
  | cons r1 rv =>
  cases rv with
  | cons r2 rv =>
  cases rv with
  | cons r3 rv =>
  cases rv
  cases r1
  cases r2
  cases r3
  obtain ⟨its1, m1, v1, g1, s1⟩ := I2.lst ea
  obtain ⟨its2, v2, g2, s2'⟩ := I2.tuple (SqT.of eb)
  obtain ⟨its3, v3, g3, s3⟩ := I2.tuple (SqT.of ec)
  have la := get_lt g1
  have lb : b < s2.heap.objs.size := by obtain ⟨o, g, _⟩ := g2; exact get_lt g
  have lc : c < s2.heap.objs.size := by obtain ⟨o, g, _⟩ := g3; exact get_lt g
  refine zip_begins3 (begins_list a its1.toArray) (begins_tuple b its2.toArray) (begins_tuple c its3.toArray) ⟨_, g1, rfl, _, rfl⟩ (istup_is g2) (istup_is g3) ?_
  intro h' hz hti hto e1 e2 e3 hsz kp
  refine wpAny_pyIter_zip hz ?_
  have sep := zip_sep3 (N := s2.heap.objs.size) (fp1 := [a]) (fp2 := [b]) (fp3 := [c]) (by simpa using la) (by simpa using lb) (by simpa using lc)
  have I3 : L2.Inv X pins σ H2 { heap := h', gens := s2.gens, drawn := s2.drawn, toks := s2.toks, os := s2.os } := I2.kept kp
  refine ⟨_, _, _, _, H2, rfl, I3, turn_zip3 sep (Nat.ne_of_lt la) (Nat.ne_of_lt (Nat.lt_succ_of_lt lb)) (Nat.ne_of_lt (Nat.lt_succ_of_lt (Nat.lt_succ_of_lt lc))), ⟨hz, hti, ⟨_, _, _, hto⟩, ⟨_, e1, rfl, rfl⟩, ⟨_, e2, rfl, rfl⟩, ⟨_, e3, rfl, rfl⟩⟩, fun q hq => ?_, r⟩
  have hq2 : s2.heap.objs.size ≤ q := by
    simp only [List.mem_cons, List.mem_nil_iff, or_false] at hq
    rcases hq with h | h | h | h | h | h <;> (rw [h]; simp)
  exact I2.fpOk hq2 (I2.hok.fresh hq2)
theorem walk_zip3 {a b c : Addr} {xs ys zs : List V} : Walk (Itz3 a b c) xs.length (fun H => At3 a b c H xs ys zs) (fun i H v H' => ∃ T x y u, v = .ref T ∧ H T = none ∧ H' = upd H T (.tup [x, y, u]) ∧ xs[i]? = some x ∧ ys[i]? = some y ∧ zs[i]? = some u) := by
  refine ⟨fun i H hi h => ⟨xs, ys, zs, h, hi⟩, fun H h => ⟨xs, ys, zs, h, rfl⟩, fun i H x H' hi h y => ?_⟩
  obtain ⟨T, x', y', u, e, h0, e2, q⟩ := y
  exact ⟨T, x', y', u, e, h0, e2, q xs ys zs h⟩
end
end Lk

/-! ## D24 -/
set_option Elab.async false
set_option linter.all false
set_option maxRecDepth 100000
set_option maxHeartbeats 2000000
namespace Lk
open PySem PySem.Spec PyProof.Rows L2 Gx
open GxR (TabG Tabbed TabB)
variable [Own]
/-- a comprehension over any walk -/
theorem lc_walk {J : It} {n : Nat} {G : Hp → Prop} {Y : Nat → Hp → V → Hp → Prop} (w : Walk J n G Y) {g : TG} {tt : TT} {te : TE} {vs : List Nat} {σ : L2.St} {H1 : Hp} {D : Addr} {Qd : Hp → Prop} (Pv : Nat → Hp → Prop) (h0 : Pv 0 (upd H1 D (.lst []))) (hG : ∀ i H, i ≤ n → Pv i H → G H)
    (hs : ∀ i x H H', i < n → Pv i H → Y i H x H' → g x (wipe σ vs) H' fun σ2 H2 => wipe σ2 vs = wipe σ vs ∧ tt σ2 H2 fun b H3 =>
      if b = true then te σ2 H3 fun y H4 => ∃ acc, H4 D = some (.lst acc) ∧ acc.length < sizeLine ∧ Pv (i + 1) (upd H4 D (.lst (acc ++ [y]))) else Pv (i + 1) H3) (hd : ∀ H, Pv n H → Qd H) :
    ∃ W : Nat → Nat → Hp → Prop, (∃ m, W 0 m (upd H1 D (.lst []))) ∧ ∀ i m H, W i m H →
      (J.stop i H ∧ Qd H) ∨ (J.go i H ∧ ∃ Nx : Hp → Prop, (∀ H', Nx H' → ∃ m', m' < m ∧ W (i + 1) m' H') ∧ ∀ x H', J.yld i H x H' → g x (wipe σ vs) H' fun σ2 H2 => wipe σ2 vs = wipe σ vs ∧ tt σ2 H2 fun b H3 =>
        if b = true then te σ2 H3 fun y H4 => ∃ acc, H4 D = some (.lst acc) ∧ acc.length < sizeLine ∧ Nx (upd H4 D (.lst (acc ++ [y]))) else Nx H3) := by
  refine ⟨fun i m H => m = n - i ∧ i ≤ n ∧ Pv i H, ⟨n, by simp, Nat.zero_le _, h0⟩, ?_⟩
  rintro i m H ⟨rfl, hi, p⟩
  have q := hG i H hi p
  by_cases hlt : i < n
  · exact .inr ⟨w.goes i H hlt q, Pv (i + 1), fun H' p' => ⟨n - (i + 1), by omega, rfl, hlt, p'⟩, fun x H' y => hs i x H H' hlt p (w.yields i H x H' hlt q y)⟩
  · have e : i = n := by omega
    subst e
    exact .inl ⟨w.stops H q, hd H p⟩
/-- an empty list, told of any -/
def rEqLn : R2 := fun x y H Q => ∃ (a b : Addr) (n : Nat), x = .ref a ∧ y = .ref b ∧ H a = some (.lst (List.replicate n (.int 1))) ∧ H b = some (.lst []) ∧ Q (.bl (decide (n = 0))) H
abbrev s__law_goes : Stmt := top 54
theorem sc__law_goes : FnScope ["signs", "one", "other", "sign", "left", "right"] ["signs", "one", "other"] (defScope s__law_goes) := ⟨rfl, rfl, rfl, by decide +kernel, rfl, by decide +kernel, by decide +kernel⟩
/-- nowhere worse, by signs -/
def lawGoes : List Int → List Int → List Int → Bool
  | s :: ss, x :: xs, y :: ys => !decide (s * (y - x) < 0) && lawGoes ss xs ys
  | _, _, _ => true
def spLawGoes : Sp := fun vs H Q _ => ∃ (a : Addr) (x y : V) (ss xs ys : List Int), vs = [.ref a, x, y] ∧ H a = some (.lst (iv ss)) ∧ TI H x xs ∧ TI H y ys ∧ xs.length = ss.length ∧ ys.length = ss.length ∧ ss.length ≤ 1000 ∧ (∀ s ∈ ss, s = 1 ∨ s = -1) ∧ (∀ x ∈ xs, 0 ≤ x ∧ x ≤ 1000) ∧ (∀ x ∈ ys, 0 ≤ x ∧ x ≤ 1000) ∧
  ∀ H', Ext H H' → Q (.bl (lawGoes ss xs ys)) H'
def worse (ss xs ys : List Int) : Nat → Nat
  | 0 => 0
  | n + 1 => worse ss xs ys n + if ss.getD n 0 * (ys.getD n 0 - xs.getD n 0) < 0 then 1 else 0
theorem worse_le (ss xs ys : List Int) : ∀ n, worse ss xs ys n ≤ n
  | 0 => Nat.le_refl _
  | n + 1 => by
    have := worse_le ss xs ys n
    unfold worse
    split <;> omega
theorem worse_cons (s x y : Int) (ss xs ys : List Int) : ∀ n, worse (s :: ss) (x :: xs) (y :: ys) (n + 1) = (if s * (y - x) < 0 then 1 else 0) + worse ss xs ys n
  | 0 => by simp [worse]
  | n + 1 => by
    have := worse_cons s x y ss xs ys n
    rw [worse, this, worse]
    simp only [List.getD_cons_succ]
    omega
theorem worse_goes : ∀ (ss xs ys : List Int), xs.length = ss.length → ys.length = ss.length → decide (worse ss xs ys ss.length = 0) = lawGoes ss xs ys
  | [], [], [], _, _ => by simp [worse, lawGoes]
  | s :: ss, x :: xs, y :: ys, h1, h2 => by
    rw [List.length_cons, worse_cons, lawGoes, ← worse_goes ss xs ys (by simpa using h1) (by simpa using h2)]
    by_cases h : s * (y - x) < 0
    · rw [if_pos h, decide_eq_true h]
      simp
    · rw [if_neg h, decide_eq_false h]
      simp
section
variable {P : Program} {w : World} {K : PySem.W.Frag} {mg : Str → Option Value} {base : Heap} {Ps : List Addr}
theorem eqv_reps (n : Nat) : PyData.eqv (.list ((List.replicate n 1).map .int)) (.list ([].map .int)) = decide (n = 0) := by
  cases n with
  | zero => simp [PyData.eqv, PyData.eqvAll]
  | succ n => simp [PyData.eqv, PyData.eqvAll, List.replicate_succ]
theorem shaped_li (a : List Int) : SeqAt.shaped (.list (a.map .int)) = true := by
  unfold SeqAt.shaped
  simp only [PyData.canLay0, canLay_ints a, PyData.depth, depth_ints a, Bool.true_and]
  decide
theorem op_eqLn {X : Cx} (hu : X.A.units + 64 < cLine) : OpR X (compareOp .Eq) rEqLn := by
  intro pins s σ H x y v u Q I rx ry h
  obtain ⟨a, b, n, rfl, rfl, h1, h2, q⟩ := h
  refine op_eqD hu pins s σ H _ _ v u Q I rx ry ⟨_, _, .lst (SqL.of h1) (by
    have := dpAll_ints (K := X.K) (H := H) (List.replicate n 1)
    unfold iv at this
    rw [List.map_replicate] at this
    exact this), .lst (SqL.of h2) .nil, shaped_li _, shaped_li [], ?_⟩
  rw [show ([] : List PyData) = ([] : List Int).map .int from rfl, eqv_reps]
  exact q
theorem ok_law_goes {f : Addr} {fd : FuncData} (F : Fun K "_law_goes" "_law_goes" s__law_goes f fd) (B : Blt mg) : FnOk P w K mg base CX0 1 f fd ["signs", "one", "other"] spLawGoes := by
  refine F.ok sc__law_goes (fun vs H Q E h => ?_) (fun cdv A outer s H vs Q E hr h => ?_)
  · obtain ⟨a, x, y, ss, xs, ys, rfl, _⟩ := h
    rfl
  · obtain ⟨a, x, y, ss, xs, ys, rfl, ha, ⟨b, rfl, hb⟩, ⟨c, rfl, hc⟩, lx, ly, hl, hS, hX, hY, k⟩ := h
    refine ⟨_, (pss_one (ps_ret (pe_cmpR (op_eqLn hr.units) (pe_lc (own := [("sign", 3), ("left", 4), ("right", 5)]) rfl sc__law_goes.nd (pi_zip3 (by rfl) B.zip (pa_cons (pv 0) (pa_cons (pv 1) (pa_cons (pv 2) pa_nil)))) (blkOk_by (N := ["signs", "one", "other", "sign", "left", "right"]) (sc := defScope s__law_goes) (by decide +kernel)) (fun _ _ _ _ _ => (pg_tupT (n := 3) rfl (pgs_cons (pg_name (i := 3) sc__law_goes.nd rfl (by first | exact Or.inl rfl | exact Or.inr rfl)) (pgs_cons (pg_name (i := 4) sc__law_goes.nd rfl (by first | exact Or.inl rfl | exact Or.inr rfl)) (pgs_cons (pg_name (i := 5) sc__law_goes.nd rfl (by first | exact Or.inl rfl | exact Or.inr rfl)) pgs_nil))))) (fun _ _ _ _ _ => (pts_one (pt_cmpR op_lt (pe_op op_mul (pv 3) (pe_op op_sub (pv 5) (pv 4))) pe_int (nomark _)))) (fun _ _ _ _ _ => pe_int)) (pe_lst pa_nil) (nomark _)))), ?_⟩
    refine ⟨_, rfl, _, rfl, _, rfl, a, b, c, iv ss, iv xs, iv ys, rfl, ⟨⟨ha, hb, hc⟩, by rw [iv_len, iv_len, lx], by rw [iv_len, iv_len, ly]⟩, fun D hD => ?_⟩
    refine lc_walk (walk_zip3 (a := a) (b := b) (c := c) (xs := iv ss) (ys := iv xs) (zs := iv ys)) (fun i H' => H' D = some (.lst (List.replicate (worse ss xs ys i) (.int 1))) ∧ Ext H H') ⟨upd_same, Ext.new hD _⟩ (fun i H' _ ⟨h, e⟩ => ⟨⟨e.lst ha, e.tup hb, e.tup hc⟩, by rw [iv_len, iv_len, lx], by rw [iv_len, iv_len, ly]⟩) (fun i v H1 H2 hi ⟨h1, e1⟩ y => ?_) fun H1 ⟨h1, e1⟩ => ?_
    · obtain ⟨T, x, y, u, rfl, hT, rfl, g1, g2, g3⟩ := y
      obtain ⟨s1, e1', rfl⟩ := iv_get g1
      obtain ⟨x1, e2', rfl⟩ := iv_get g2
      obtain ⟨y1, e3', rfl⟩ := iv_get g3
      have hDT : D ≠ T := ne_of_none h1 hT
      have sb := hS _ (List.mem_of_getElem? e1')
      have xb := hX _ (List.mem_of_getElem? e2')
      have yb := hY _ (List.mem_of_getElem? e3')
      refine ⟨T, _, rfl, upd_same, rfl, _, _, rfl, _, _, rfl, _, _, rfl, rfl, rfl, ?_⟩
      refine ⟨_, rfl, _, rfl, _, rfl, _, _, rfl, rfl, _, _, rfl, rfl, .inl ⟨by omega, by omega⟩, _, _, rfl, rfl, _, rfl, ?_⟩
      have G1 : ss.getD i 0 = s1 := by rw [List.getD_eq_getElem?_getD, e1']; rfl
      have G2 : xs.getD i 0 = x1 := by rw [List.getD_eq_getElem?_getD, e2']; rfl
      have G3 : ys.getD i 0 = y1 := by rw [List.getD_eq_getElem?_getD, e3']; rfl
      by_cases hw : s1 * (y1 - x1) < 0
      · rw [decide_eq_true hw]
        refine iteT ⟨_, by rw [upd_ne hDT]; exact h1, ?_, ?_, (e1.trans (Ext.new hT _)).put hD _⟩
        · rw [List.length_replicate]
          have := worse_le ss xs ys i
          have : i < ss.length := by rw [← iv_len]; exact hi
          exact small1000 (by omega)
        · rw [upd_same, worse, G1, G2, G3, if_pos hw, ← List.replicate_succ']
      · rw [decide_eq_false hw]
        refine iteF ⟨?_, e1.trans (Ext.new hT _)⟩
        rw [upd_ne hDT, h1, worse, G1, G2, G3, if_neg hw]
        rfl
    · refine ⟨(by show 0 ≤ sizeLine; decide), fun u hu => ?_⟩
      refine ⟨D, u, _, rfl, rfl, by rw [upd_ne (ne_of_none h1 hu)]; exact h1, upd_same, ?_⟩
      rw [iv_len, worse_goes ss xs ys lx ly]
      exact k _ (e1.trans (Ext.new hu _))
end
end Lk


/-! ## Own0 -/
set_option Elab.async false
set_option linter.all false
set_option maxRecDepth 100000
set_option maxHeartbeats 2000000
/-! raise X(), X an own error class without an __init__ of its own. -/
namespace Lk
open PySem PySem.Spec PyProof.Rows L2
variable [Own]
/-- what the written part says of an own error class x, at C -/
structure Own0 (K : PySem.W.Frag) (mg : Str → Option Value) (x : Str) (C : Addr) : Prop where
  gC : mg x = some (.ref C)
  ex : PySem.W.excIn K C [.type "ValueError", .type "Exception", .type "BaseException", .type "object"] "ValueError.__new__" = true
  kC : PySem.W.keepIn K (.ref C) = true
  exC : PySem.W.subIn K (.ref C) (.type "BaseException") = some true
  tyC : PySem.W.typeIn K (.ref C) = some (.type "type")
section
variable {X : Cx} {C : Addr} {x : Str} {p pos pos2 : Pos}
theorem pmk0 (T : Own0 X.K X.mg x C) (hg : Gl X x) (hdb : (x == ("__debug__" : Str)) = false := by decide) : PMk X (.Call (.Name x p) [] [] pos) (fun _ H Q => Q (.ref C) none H) := by
  intro pins s σ H Q I h
  refine wpAny_Call_Name_kw (ld_glob I hg T.gC ?_ hdb)
  refine PySem.W.callWith_K0 I.kIn T.kC ?_
  show wpAny _ _ (call (.ref C) []) _ _ _
  obtain ⟨bm, N, nm, qn, bs, hdct, sn, sub, ab, col, dd, k0, k1, k2, k3, k5, mN, hC, hN, hni, T2⟩ := exc_obj I.kIn T.ex
  refine wpAny_call_exc_subT PySem.F.excBase_ValueError T2 hC hN hni (fun h' e hm => ?_) (Nat.zero_le _)
  exact mk_of I hm (raises_own T.exC T.tyC) h (I.hok.gone hm.new)
def tRaise0 (C : Addr) (W : WX) : TS := fun _ σ H => W (.ref C) none σ H
theorem ps_raise0 {W : WX} (hc : X.calm = true) (T : Own0 X.K X.mg x C) (tk : Takes X W) (hg : Gl X x) (hdb : (x == ("__debug__" : Str)) = false := by decide) :
    PS X (.Raise (some (.Call (.Name x p) [] [] pos)) none pos2) (tRaise0 C W) := ps_raise hc tk (pmk0 T hg hdb)
end
end Lk

/-! ## CntB -/
set_option Elab.async false
set_option linter.all false
set_option maxRecDepth 100000
set_option maxHeartbeats 2000000
/-! How often a flat thing stands in a list of flat things. -/
namespace Lk
open PySem PySem.Spec PyProof.Rows L2
variable [Own]
theorem cnt_vals {y : V} : ∀ {ys : List V} {us : List Value}, Vals ys us → ys.all flatV = true → us.countP (eqU y) = ys.countP fun z => eqV z y
  | _, _, .nil, _ => rfl
  | z :: ys, u :: us, .cons r t, h => by
    rw [List.all_cons, Bool.and_eq_true] at h
    rw [List.countP_cons, List.countP_cons, cnt_vals t h.2, eqU_of r h.1]
def rCntF (K : PySem.W.Frag) : V → List V → Hp → VK → Prop := fun x xs H Q => ∃ (a : Addr) (ys : List V) (y : V), x = .ref a ∧ xs = [y] ∧ SqL K H a ys ∧ flatV y = true ∧ ys.all flatV = true ∧ Q (.int (ys.countP fun z => eqV z y : Nat)) H
theorem mt_cntF {X : Cx} : MtR X "list.count" (rCntF X.K) := by
  intro pins s σ H x xs v us Q I rx rxs h
  obtain ⟨a, ys, y, rfl, rfl, hs, fy, fys, q⟩ := h
  cases rx
  cases rxs with
  | cons ry rt =>
    rename_i uy ut
    cases rt
    obtain ⟨its, rv, ⟨⟨cls, dd, data, sl⟩, n, ho, hc, hdn, hd⟩, hlen⟩ := I.list hs
    simp only at hc hd
    subst hc hd
    refine call_meets PySem.F.slot_list_count ⟨_, ho, rfl⟩ PySem.F.entry_list_count (PySem.F.args_list_count_2 _ _)
      (SeqAt.list_countAt a its.toArray n dd sl uy (eqU y)) ⟨ho, fun u' hu' => mem_eqAt ry fy rv fys u' (by simpa using hu'), ?_⟩
    refine ⟨.int (ys.countP fun z => eqV z y : Nat), H, I.tok _, ⟨s.toks, ?_⟩, q⟩
    show Value.int ((its.toArray.toList.countP (eqU y) : Nat) : Int) s.toks = _
    rw [show its.toArray.toList = its from rfl, cnt_vals rv fys]
end Lk

/-! ## D62g -/
set_option Elab.async false
set_option linter.all false
set_option maxRecDepth 100000
set_option maxHeartbeats 4000000
namespace Lk
open PySem PySem.Spec PyProof.Rows L2 Gx LamX
open GxR (TabG Tabbed TabB)
variable [Own]
abbrev s__law_refusal : Stmt := top 62
theorem sc__law_refusal : FnScope ["work", "e", "some", "words"] ["work"] (defScope s__law_refusal) := ⟨rfl, rfl, rfl, by decide +kernel, rfl, by decide +kernel, by decide +kernel⟩
/-- the errors that the law tells apart by a word -/
def errN (k : Nat) : Str := (["BadState", "BadFolk", "BadLot", "BadRing", "BadNumber", "BadWord", "HasOdd", "HasRing", "NoEven", "NoOdd", "BadStep"] : List Str).getD k ""
def wordN (k : Nat) : Str := (["state", "folk", "lot", "ring", "number", "word", "odd", "tree", "noeven", "noodd", "step"] : List Str).getD k ""
/-- what the written part says of the error at C, the i-th of these -/
structure RefG (K : PySem.W.Frag) (mg : Str → Option Value) (CF C : Addr) (Ad : Str → Addr) (i : Nat) : Prop where
  gF : mg "FolkError" = some (.ref CF)
  te : PySem.W.exmOne K (.ref C) (.ref CF) = some true
  ec : ExcC K C
  kW : ∀ x ∈ (["BadWeb", "BadRules", "TooMany"] : List Str), mg x = some (.ref (Ad x)) ∧ PySem.W.kitOne K (.ref C) (.ref (Ad x)) = some false
  kN : ∀ k, k < 11 → mg (errN k) = some (.ref (Ad (errN k))) ∧ PySem.W.kitOne K (.ref C) (.ref (Ad (errN k))) = some (k == i)
  i11 : i < 11
/-- the suite of the except clause -/
def suiteOf : List Stmt → List Stmt
  | .Try _ [.ExceptHandler _ _ b _] _ _ _ :: _ => b
  | _ => []
abbrev refSuite : List Stmt := suiteOf (defBody s__law_refusal)
section
variable {P : Program} {w : World} {K : PySem.W.Frag} {mg : Str → Option Value} {base : Heap} {Ps : List Addr} {CF C : Addr} {Ad : Str → Addr} {i : Nat}
theorem suite_ok {f a : Addr} {cdv cls : Value} {d : Option Addr} {A : Around} {outer : List Env} {s : Shared} {H : Hp} {oe : Obj} {pn : List (Addr × Obj)} (T : RefG K mg CF C Ad i) (B : Blt mg) (hz : Zc cls d oe) (hf : ∃ vs, oe.data = .fields vs) :
    PSs ((cxOf CX0 P w K mg base ["work", "e", "some", "words"] "_law_refusal" (defScope s__law_refusal) f cdv A outer s H E0).nox.suite a ((a, oe) :: pn)) refSuite
      (fun D σ H' => cls = .ref C ∧ d = none ∧ (∃ τ : L2.St, σ = τ.set 1 (some (.ref a))) ∧ ∀ H'', Ext H' H'' → D.rt (.str (wordN i)) H'') := by
  refine ⟨fun pins s' σ H' D I h => ?_⟩
  obtain ⟨rfl, rfl, ⟨τ, rfl⟩, k⟩ := h
  have h2 : (τ.set 1 (some (.ref a))).length = 4 := I.len
  have h1 : (τ.set 1 (some (.ref a)))[1]? = some (some (.ref a)) := List.getElem?_set_self (by rw [List.length_set] at h2; omega)
  generalize τ.set 1 (some (.ref a)) = σ at I h1 h2
  have hw := fun x hx => (T.kW x hx).2
  obtain ⟨o0, o1, o2, o3, rfl⟩ : ∃ o0 o1 o2 o3, σ = [o0, o1, o2, o3] := by
    match σ, h2 with
    | [o0, o1, o2, o3], _ => exact ⟨o0, o1, o2, o3, rfl⟩
  obtain rfl : o1 = some (.ref a) := Option.some.inj h1
  have key : ∃ t, PSs ((cxOf CX0 P w K mg base ["work", "e", "some", "words"] "_law_refusal" (defScope s__law_refusal) f cdv A outer s H E0).nox.suite a ((a, oe) :: pn)) refSuite t ∧ t D [o0, some (.ref a), o2, o3] H' := by
    refine ⟨_, (pss_cons (ps_if (pt_val (pe_callB (call_isE T.ec hz hf) (by rfl) B.isi boot_isinstance (pa_cons (pv 1) (pa_cons (pe_glob (v := .ref (Ad "BadWeb")) (by rfl) (T.kW "BadWeb" (by decide)).1 rfl) pa_nil))))
        (pss_one ps_never) pss_nil)
      (pss_cons (ps_if (pt_val (pe_callB (call_isE T.ec hz hf) (by rfl) B.isi boot_isinstance (pa_cons (pv 1) (pa_cons (pe_glob (v := .ref (Ad "BadRules")) (by rfl) (T.kW "BadRules" (by decide)).1 rfl) pa_nil))))
        (pss_one ps_never) pss_nil)
      (pss_cons (ps_if (pt_val (pe_callB (call_isE T.ec hz hf) (by rfl) B.isi boot_isinstance (pa_cons (pv 1) (pa_cons (pe_glob (v := .ref (Ad "TooMany")) (by rfl) (T.kW "TooMany" (by decide)).1 rfl) pa_nil))))
        (pss_one ps_never) pss_nil)
      (pss_cons (ps_set (i := 2) sc__law_refusal.nd rfl (by first | exact Or.inl rfl | exact Or.inr rfl) (pe_lst (pa_cons (pe_callB (call_isE T.ec hz hf) (by rfl) B.isi boot_isinstance (pa_cons (pv 1) (pa_cons (pe_glob (v := .ref (Ad "BadState")) (by rfl) (T.kN 0 (by decide)).1 rfl) pa_nil))) (pa_cons (pe_callB (call_isE T.ec hz hf) (by rfl) B.isi boot_isinstance (pa_cons (pv 1) (pa_cons (pe_glob (v := .ref (Ad "BadFolk")) (by rfl) (T.kN 1 (by decide)).1 rfl) pa_nil))) (pa_cons (pe_callB (call_isE T.ec hz hf) (by rfl) B.isi boot_isinstance (pa_cons (pv 1) (pa_cons (pe_glob (v := .ref (Ad "BadLot")) (by rfl) (T.kN 2 (by decide)).1 rfl) pa_nil))) (pa_cons (pe_callB (call_isE T.ec hz hf) (by rfl) B.isi boot_isinstance (pa_cons (pv 1) (pa_cons (pe_glob (v := .ref (Ad "BadRing")) (by rfl) (T.kN 3 (by decide)).1 rfl) pa_nil))) pa_nil))))))
      (pss_cons (ps_set (i := 2) sc__law_refusal.nd rfl (by first | exact Or.inl rfl | exact Or.inr rfl) (pe_op op_cat (pv 2) (pe_lst (pa_cons (pe_callB (call_isE T.ec hz hf) (by rfl) B.isi boot_isinstance (pa_cons (pv 1) (pa_cons (pe_glob (v := .ref (Ad "BadNumber")) (by rfl) (T.kN 4 (by decide)).1 rfl) pa_nil))) (pa_cons (pe_callB (call_isE T.ec hz hf) (by rfl) B.isi boot_isinstance (pa_cons (pv 1) (pa_cons (pe_glob (v := .ref (Ad "BadWord")) (by rfl) (T.kN 5 (by decide)).1 rfl) pa_nil))) (pa_cons (pe_callB (call_isE T.ec hz hf) (by rfl) B.isi boot_isinstance (pa_cons (pv 1) (pa_cons (pe_glob (v := .ref (Ad "HasOdd")) (by rfl) (T.kN 6 (by decide)).1 rfl) pa_nil))) (pa_cons (pe_callB (call_isE T.ec hz hf) (by rfl) B.isi boot_isinstance (pa_cons (pv 1) (pa_cons (pe_glob (v := .ref (Ad "HasRing")) (by rfl) (T.kN 7 (by decide)).1 rfl) pa_nil))) pa_nil)))))))
      (pss_cons (ps_set (i := 2) sc__law_refusal.nd rfl (by first | exact Or.inl rfl | exact Or.inr rfl) (pe_op op_cat (pv 2) (pe_lst (pa_cons (pe_callB (call_isE T.ec hz hf) (by rfl) B.isi boot_isinstance (pa_cons (pv 1) (pa_cons (pe_glob (v := .ref (Ad "NoEven")) (by rfl) (T.kN 8 (by decide)).1 rfl) pa_nil))) (pa_cons (pe_callB (call_isE T.ec hz hf) (by rfl) B.isi boot_isinstance (pa_cons (pv 1) (pa_cons (pe_glob (v := .ref (Ad "NoOdd")) (by rfl) (T.kN 9 (by decide)).1 rfl) pa_nil))) (pa_cons (pe_callB (call_isE T.ec hz hf) (by rfl) B.isi boot_isinstance (pa_cons (pv 1) (pa_cons (pe_glob (v := .ref (Ad "BadStep")) (by rfl) (T.kN 10 (by decide)).1 rfl) pa_nil))) pa_nil))))))
      (pss_cons (ps_set (i := 3) sc__law_refusal.nd rfl (by first | exact Or.inl rfl | exact Or.inr rfl) (pe_lst (pa_cons pe_str (pa_cons pe_str (pa_cons pe_str (pa_cons pe_str (pa_cons pe_str (pa_cons pe_str (pa_cons pe_str (pa_cons pe_str (pa_cons pe_str (pa_cons pe_str (pa_cons pe_str pa_nil)))))))))))))
      (pss_one (ps_ret (pe_ifExp (pt_cmpR op_eq (pe_bmL PySem.F.plainAttrs_list PySem.F.slot_list_count PySem.F.type_list_count mt_cntF (pv 2) (pa_cons pe_bl pa_nil)) pe_int (nomark _)) (pe_ix ix_lT (pv 3) (pe_bmL PySem.F.plainAttrs_list PySem.F.slot_list_index PySem.F.type_list_index mt_index (pv 2) (pa_cons pe_bl pa_nil)) (fun _ _ => rfl)) pe_str)))))))))), ?_⟩
    refine ⟨_, rfl, _, _, false, rfl, fun _ h => h, hw "BadWeb" (by decide), _, rfl, iteF ?_⟩
    refine ⟨_, rfl, _, _, false, rfl, fun _ h => h, hw "BadRules" (by decide), _, rfl, iteF ?_⟩
    refine ⟨_, rfl, _, _, false, rfl, fun _ h => h, hw "TooMany" (by decide), _, rfl, iteF ?_⟩
    refine ⟨_, rfl, _, _, _, rfl, fun _ h => h, (T.kN 0 (by decide)).2, _, rfl, _, _, _, rfl, fun _ h => h, (T.kN 1 (by decide)).2, _, rfl, _, _, _, rfl, fun _ h => h, (T.kN 2 (by decide)).2, _, rfl, _, _, _, rfl, fun _ h => h, (T.kN 3 (by decide)).2, (by show 4 ≤ sizeLine; decide), fun L1 hL1 => ?_⟩
    have X1 := Ext.new hL1 (.lst [V.bl (0 == i), .bl (1 == i), .bl (2 == i), .bl (3 == i)])
    refine ⟨_, rfl, _, rfl, _, _, _, rfl, fun _ h => h, (T.kN 4 (by decide)).2, _, rfl, _, _, _, rfl, fun _ h => h, (T.kN 5 (by decide)).2, _, rfl, _, _, _, rfl, fun _ h => h, (T.kN 6 (by decide)).2, _, rfl, _, _, _, rfl, fun _ h => h, (T.kN 7 (by decide)).2, (by show 4 ≤ sizeLine; decide), fun L2 hL2 => ?_⟩
    have X2 := Ext.new hL2 (.lst [V.bl (4 == i), .bl (5 == i), .bl (6 == i), .bl (7 == i)])
    refine ⟨L1, L2, _, _, rfl, rfl, X2.lst upd_same, upd_same, (by show 8 ≤ sizeLine; decide), fun L3 hL3 => ?_⟩
    have X3 := Ext.new hL3 (.lst ([V.bl (0 == i), .bl (1 == i), .bl (2 == i), .bl (3 == i)] ++ [V.bl (4 == i), .bl (5 == i), .bl (6 == i), .bl (7 == i)]))
    refine ⟨_, rfl, _, rfl, _, _, _, rfl, fun _ h => h, (T.kN 8 (by decide)).2, _, rfl, _, _, _, rfl, fun _ h => h, (T.kN 9 (by decide)).2, _, rfl, _, _, _, rfl, fun _ h => h, (T.kN 10 (by decide)).2, (by show 3 ≤ sizeLine; decide), fun L4 hL4 => ?_⟩
    have X4 := Ext.new hL4 (.lst [V.bl (8 == i), .bl (9 == i), .bl (10 == i)])
    refine ⟨L3, L4, _, _, rfl, rfl, X4.lst upd_same, upd_same, (by show 11 ≤ sizeLine; decide), fun L5 hL5 => ?_⟩
    have X5 := Ext.new hL5 (.lst (([V.bl (0 == i), .bl (1 == i), .bl (2 == i), .bl (3 == i)] ++ [V.bl (4 == i), .bl (5 == i), .bl (6 == i), .bl (7 == i)]) ++ [V.bl (8 == i), .bl (9 == i), .bl (10 == i)]))
    refine ⟨(by show 11 ≤ sizeLine; decide), fun L6 hL6 => ?_⟩
    have X6 := Ext.new hL6 (.lst [V.str "state", .str "folk", .str "lot", .str "ring", .str "number", .str "word", .str "odd", .str "tree", .str "noeven", .str "noodd", .str "step"])
    have E6 := ((((X1.trans X2).trans X3).trans X4).trans X5).trans X6
    have hS := X6.lst (upd_same (a := L5))
    have i11 := T.i11
    have eS : (([V.bl (0 == i), .bl (1 == i), .bl (2 == i), .bl (3 == i)] ++ [V.bl (4 == i), .bl (5 == i), .bl (6 == i), .bl (7 == i)]) ++ [V.bl (8 == i), .bl (9 == i), .bl (10 == i)]) = (List.range 11).map fun k => V.bl (k == i) := rfl
    have i12 : i = 0 ∨ i = 1 ∨ i = 2 ∨ i = 3 ∨ i = 4 ∨ i = 5 ∨ i = 6 ∨ i = 7 ∨ i = 8 ∨ i = 9 ∨ i = 10 := by omega
    refine ⟨_, rfl, ⟨L5, _, rfl, hS⟩, L5, _, .bl true, rfl, rfl, SqL.of hS, rfl, rfl, rfl, _, rfl, ?_⟩
    refine ite2 (fun _ => ?_) (fun hc => absurd ?_ hc)
    · refine ⟨_, rfl, _, rfl, ⟨L5, _, rfl, hS⟩, L5, _, .bl true, i, .bl true, rfl, rfl, SqL.of hS, rfl, rfl, ?_, rfl, fun m z' hm hz => ?_, L6, _, _, .str (wordN i), rfl, rfl, upd_same, at_of (j := i) rfl ?_, k _ E6⟩
      · rw [eS, List.getElem?_map, List.getElem?_range i11]
        show some (V.bl (i == i)) = _
        rw [beq_self_eq_true]
      · rw [eS, List.getElem?_map, List.getElem?_range (by omega)] at hz
        cases hz
        have e : (m == i) = false := by
          rw [beq_eq_false_iff_ne]
          omega
        show _ = false
        simp only [e]
        rfl
      · rcases i12 with e | e | e | e | e | e | e | e | e | e | e <;> (subst e; rfl)
    · rcases i12 with e | e | e | e | e | e | e | e | e | e | e <;> (subst e; decide +kernel)
  obtain ⟨t, ht, hq⟩ := key
  exact ht.run pins s' _ H' D I hq
end
end Lk


/-! ## D63 -/
set_option Elab.async false
set_option linter.all false
set_option maxRecDepth 100000
set_option maxHeartbeats 4000000
/-! A lambda that lets errors out, handed to the def that tells which; all but the table of its code stays. -/
namespace Lk
open PySem PySem.Spec PyProof.Rows L2 Gx LamX NdefX
variable [Own]
section
variable {X : Cx} {pins : List (Addr × Obj)} {σ : L2.St} {H : Hp} {s : Shared}
/-- all but what stands at P stays, nothing goes -/
def Grown (P : Addr) (H H1 : Hp) : Prop := (∀ b o, b ≠ P → H b = some o → H1 b = some o) ∧ ∀ b, H1 b = none → H b = none
theorem lam_bare {c P : Addr} {q : Str} {params : Arguments} {body : Expr} {scope : Scope} {pos : Pos} {E : Value → Shared → Prop} {Q : Value → Shared → Prop} (I : Inv X pins σ H s) (TB : LamX.TabB X.base X.mg c P) (hcode : X.env.code = .ref c) (hT : TabS H P q) (hq : X.env.qual ++ "<lambda>" = q)
    (hdef : defaultsOf params X.env = ([], [])) (hfree : ∀ y ∈ scope.names, y.2 = .free → ∃ c, X.env.cells.lookup y.1 = some c)
    (k : ∀ (f c' : Addr) (pm ctv : Value) (H2 : Hp) (s2 : Shared), Inv X pins σ H2 s2 → Grown P H H2 → TabS H2 P q → s2.heap.get? f = some (PySem.W.kla_obj "<lambda>" q params body scope (cloFrom X.env.cells scope.names []) pm c' ctv) → H2 f = none → f ∉ frs X.stack → H2 c' = some (CodeO c' q) → Q (.ref f) s2) :
    wpAny (model X.prog X.w) X.A (eval (.Lambda params body scope pos) X.env) Q E s := by
  subst hq
  obtain ⟨tb, tP, tOk, tAll⟩ := hT
  refine PySem.W.kla_eval hdef ?_
  have old : s.heap.get? P = some { cls := .none, data := .fields tb } := I.hok P _ tP
  have blt : s.heap.BuiltinsAt X.mg P := TB.bm.keeps I.bk
  have out : ∀ {HH : Hp} {S : Shared}, Inv X pins σ HH S → S.heap.objs.size ∉ frs X.stack := fun {HH S} J hm =>
    (List.mem_cons.mp (J.stkSub _ hm)).elim (fun e => Nat.lt_irrefl _ (e ▸ J.lt)) fun e => J.nofs (Nat.le_refl _) e
  cases found : codeAmong pos tb.toList with
  | some cv =>
    obtain ⟨c0, rfl, c0O⟩ := tAll pos cv found
    refine PySem.W.kla_makeFunctionHit (mg := X.mg) (c := c) (P := P) (ps := tb) (closure_ok hfree) I.ok.glob (I.mod.glob.keeps I.bk) hcode (TB.code.keeps I.bk) old tOk found blt fun ctv hh tk grown hsz => ?_
    have J : Inv X pins σ H { s with heap := hh, toks := tk } := I.kept grown
    have J2 : Inv X pins σ H { s with heap := hh.push (PySem.W.kla_obj "<lambda>" (X.env.qual ++ "<lambda>") params body scope (cloFrom X.env.cells scope.names []) ((X.mg "__name__").getD .none) c0 ctv), toks := tk } := J.kept (t' := tk) fun _ _ e => Heap.get?_push_of_some _ e
    exact k hh.objs.size c0 _ ctv H _ J2 ⟨fun _ _ _ e => e, fun _ e => e⟩ ⟨tb, tP, tOk, tAll⟩ (Heap.get?_push_size _ rfl) (J.hok.fresh (Nat.le_refl _)) (out J) c0O
  | none =>
    refine PySem.W.kla_makeFunction (mg := X.mg) (c := c) (P := P) (ps := tb) (closure_ok hfree) I.ok.glob (I.mod.glob.keeps I.bk) hcode (TB.code.keeps I.bk) old tOk found TB.gP blt fun c1 ctv hh tk grown hge hlt hrec htb => ?_
    obtain ⟨c2, oc, vs, t, e2, hoc, hd, hv⟩ := hrec
    cases e2
    have nC : H c1 = none := I.hok.fresh hge
    have nCP : P ≠ c1 := ne_of_none tP nC
    have J := inv_table (q := X.env.qual ++ "<lambda>") (t' := tk) (more := #[rawInt pos.line, rawInt pos.col, .ref c1]) (h' := hh) I tP (fun b o hb e => grown b o hb e) htb hge ⟨oc, vs, t, hoc, hd, hv⟩
    have J2 := J.kept (t' := tk) (h' := hh.push (PySem.W.kla_obj "<lambda>" (X.env.qual ++ "<lambda>") params body scope (cloFrom X.env.cells scope.names []) ((X.mg "__name__").getD .none) c1 ctv)) fun _ _ e => Heap.get?_push_of_some _ e
    have ext : ∀ b o, b ≠ P → H b = some o → upd (upd H P (.tbl (tb ++ #[rawInt pos.line, rawInt pos.col, .ref c1]))) c1 (CodeO c1 (X.env.qual ++ "<lambda>")) b = some o := fun b o hb e => by
      rw [upd_ne (ne_of_none e nC), upd_ne hb]
      exact e
    have e1 : upd (upd H P (.tbl (tb ++ #[rawInt pos.line, rawInt pos.col, .ref c1]))) c1 (CodeO c1 (X.env.qual ++ "<lambda>")) P = some (.tbl (tb ++ #[rawInt pos.line, rawInt pos.col, .ref c1])) := by
      rw [upd_ne nCP]
      exact upd_same
    have el : (tb ++ #[rawInt pos.line, rawInt pos.col, .ref c1]).toList = tb.toList ++ [rawInt pos.line, rawInt pos.col, .ref c1] := by simp
    have tS : TabS (upd (upd H P (.tbl (tb ++ #[rawInt pos.line, rawInt pos.col, .ref c1]))) c1 (CodeO c1 (X.env.qual ++ "<lambda>"))) P (X.env.qual ++ "<lambda>") := by
      refine ⟨_, e1, by rw [el]; exact PySem.TriplesOk_snoc _ _ _ _ tOk, fun p' cv hcv => ?_⟩
      rw [el] at hcv
      rcases among_app _ tOk hcv with z | z
      · obtain ⟨c0, a1, a2⟩ := tAll p' cv z
        exact ⟨c0, a1, ext _ _ (fun z => by rw [z, tP] at a2; cases a2) a2⟩
      · exact ⟨c1, z, upd_same⟩
    exact k hh.objs.size c1 _ ctv _ _ J2 ⟨ext, fun b e => upd_none (upd_none e)⟩ tS (Heap.get?_push_size _ rfl) (J.hok.fresh (Nat.le_refl _)) (out J) upd_same
end
/-- the reading of x(lambda: ..): TT is what x makes of the lambda's -/
def tGive (P : Addr) (q : Str) (TT : (XK → Hp → VK → Prop) → Hp → VK → Prop) (t : XK → TE) : TE := fun σ H Q => TabS H P q ∧ ∀ H1, Grown P H H1 → TabS H1 P q → TT (fun E H' Q' => t E σ H' Q') H1 Q
/-- what the def handed the lambda is, in the written part -/
structure GDef (K : PySem.W.Frag) (mg : Str → Option Value) (x : Str) (st : Stmt) (g : Addr) (cdv : Value) : Prop where
  gm : mg x = some (.ref g)
  gk : PySem.W.keepIn K (.ref g) = true
  fn : ∃ (oc : Value) (od : Option Addr) (kV doc pm : Value) (an : Option Addr) (ct : Value) (osl : Array (Option Value)), K.lookup g = some ⟨oc, od, .func (PySem.W.fnOf x x (defArgs st) (defBody st) (defScope st) .none kV doc pm an cdv ct), osl⟩ ∧ Binds K (PySem.W.fnOf x x (defArgs st) (defBody st) (defScope st) .none kV doc pm an cdv ct) ["work"] []
  cd : PySem.W.codeIn K cdv x = true
section
variable {X : Cx}
theorem pe_give {TT : (XK → Hp → VK → Prop) → Hp → VK → Prop} {x q : Str} {st : Stmt} {g c P : Addr} {k : Nat} {cdv : Value} {Ng : List Str} {params : Arguments} {body : Expr} {scope : Scope} {t : XK → TE} {p lpos pos : Pos} (hg : Gl X x) (G : GDef X.K X.mg x st g cdv)
    (Sg : FnScope Ng ["work"] (defScope st)) (h0 : Ng[0]? = some ("work" : Str)) (hv : Vis (defScope st) "work") (hq : X.env.qual ++ "<lambda>" = q) (hG : GivesTo X Ng x (defScope st) g cdv (defBody st) "work" q TT)
    (TB : LamX.TabB X.base X.mg c P) (hcode : X.env.code = .ref c) (hr : Room (k + 2) X.A) (L : LamS X.env.scope scope) (hdef : defaultsOf params X.env = ([], []))
    (hbind : ∀ (q : Str) (cl : List (Str × Addr)) (pm cv ctv : Value), bindArgs (PySem.W.kla_fn "<lambda>" q params body scope cl pm cv ctv) ⟨[], []⟩ = pure [])
    (hbody : ∀ (A : Around) (outer : List Env) (s : Shared) (H : Hp) (E : XK) (f c' : Addr), Room k (A.deeper (lamEnv X scope s.heap.objs.size f c')) → PE (lamCx X A outer s H E scope f c') body (t E))
    (hdb : (x == ("__debug__" : Str)) = false := by decide) :
    PE X (.Call (.Name x p) [.Lambda params body scope lpos] [] pos) (tGive P q TT t) := by
  subst hq
  obtain ⟨oc, od, kV, doc, pm, an, ct, osl, lk, hb⟩ := G.fn
  refine ⟨fun pins s σ H Q I ⟨hT, h⟩ => wpAny_Call_Name_kw (ld_glob I hg G.gm (PySem.W.callWith_K (h₀ := X.base) I.ok.mod.kin G.gk ?_ (by rfl) (by rfl)) hdb)⟩
  refine Calls.spliced_cons (lam_bare I TB hcode hT rfl hdef (L.has I.ok) fun f c' pm' ctv H1 s' I1 eN T1 hf hfn hfr hco => Calls.spliced_nil ⟨I1.kIn, ?_⟩)
  refine wpAny_call (codeAny_mono (run_ofS (CX := C8.CX0) (E := C8.E0) (Q := Q) (N := Ng) (ps := ["work"]) (us := [.ref f]) (vs := [.ref f]) lk G.cd Sg hr I1.env0 (hb s' [.ref f] I1.kIn rfl) (.cons rfl .nil) rfl fun hr' => ?_) fun r s2 hq => ?_)
  · obtain ⟨t', a, b⟩ := hG f c' s' H1 Q (fun E H' Q' => t E σ H' Q') (fun W pn xe E p1 p2 tk hW => pe_act (i := 0) I1 L hf hfn hfr (hbind _ _ _ _ _) tk hW hr' (fun A outer s H hr2 => hbody A outer s H E f c' hr2) h0 hv) hco (h H1 eN T1)
    exact ⟨t', a.nox, b⟩
  · match r, hq with
    | .ok (.ret u), hq => exact I1.after hq
    | .ok .next, hq => exact hq.elim
    | .ok .brk, hq => exact hq.elim
    | .ok .cont, hq => exact hq.elim
    | .error e, hq => exact (show False from hq).elim
end
end Lk


/-! ## D64 -/
set_option Elab.async false
set_option linter.all false
set_option maxRecDepth 100000
set_option maxHeartbeats 4000000
namespace Lk
open PySem PySem.Spec PyProof.Rows L2 Gx LamX NdefX
open GxR (Tabbed TabG)
variable [Own]
/-- a try, by a name -/
def tTryN (tb : WX → TS) (K : PySem.W.Frag) (c : Value) (i : Nat) (ts : Addr → Value → Option Addr → TS) (Wout : WX) : TS := fun D σ H => tb (wAs K c i ts Wout D) D σ H
theorem ps_tryN {X : Cx} {x n : Str} {c : Value} {i : Nat} {body suite : List Stmt} {b₀ : Stmt} {np pos pos' : Pos} {tb : WX → TS} {ts : Addr → Value → Option Addr → TS} {Wout : WX} (hs : X.stack = X.env :: X.outer) (hf : X.env.frame = some X.env.locals) (hN : X.N.Nodup) (hi : X.N[i]? = some n) (hln : X.env.kindOf n = some .local) (hc : Names X x c) (tk : Takes X Wout)
    (hb : ∀ (W : WX) (pn : List (Addr × Obj)) (xe : Value → Shared → Prop), Takes (X.tr pn xe) W → PassesOwn (model X.prog X.w) X.A X.env xe → PSs (X.tr pn xe) body (tb W))
    (hsu : ∀ (a : Addr) (oe : Obj) (cls : Value) (d : Option Addr) (pn : List (Addr × Obj)), Zc cls d oe → (∃ vs, oe.data = .fields vs) → PSs (X.suite a ((a, oe) :: pn)) (b₀ :: suite) (ts a cls d)) :
    PS X (.Try body [.ExceptHandler (some (.Name x np)) (some n) (b₀ :: suite) pos'] [] [] pos) (tTryN tb X.K c i ts Wout) := ps_try_as hs hf hN hi hln hc tk hb hsu
/-- what the def that tells errors makes of a lambda that raises the one at C -/
def TTref (C : Addr) (wd : Str) : (XK → Hp → VK → Prop) → Hp → VK → Prop := fun tl H Q => ∀ Qx, tl (fun cls d H' => cls = .ref C ∧ d = none ∧ ∀ H'', Ext H' H'' → Q (.str wd) H'') H Qx
theorem refusal_gives {X : Cx} {CF C g : Addr} {Ad : Str → Addr} {i : Nat} {cdv : Value} {q : Str} (T : RefG X.K X.mg CF C Ad i) (B : Blt X.mg) :
    GivesTo X ["work", "e", "some", "words"] "_law_refusal" (defScope s__law_refusal) g cdv (defBody s__law_refusal) "work" q (TTref C (wordN i)) := by
  intro f c' s H Q tl act hc h
  refine ⟨_, pss_cons (ps_tryN (X := (cxOf C8.CX0 X.prog X.w X.K X.mg X.base ["work", "e", "some", "words"] "_law_refusal" (defScope s__law_refusal) g cdv X.A X.stack s H C8.E0).nox) (c := .ref CF) (i := 1)
    (tb := fun W D σ H => ∃ Ech : XK, (∀ cls d σ' H', Ech cls d H' → W cls d σ' H') ∧ σ[0]? = some (some (.ref f)) ∧ H c' = some (CodeO c' q) ∧ tl Ech H (fun _ H1 => D.nx σ H1)) (Wout := fun _ _ _ _ => False)
    rfl rfl sc__law_refusal.nd rfl rfl ⟨rfl, by decide, .inl T.gF⟩ L2.takes0 (fun W pn xe tk _ => ?_) (fun a oe cls d pn hz hf => suite_ok T B hz hf)) (pss_one (ps_ret pe_non)), ?_⟩
  · refine ⟨fun pins s' σ H' D I h' => ?_⟩
    obtain ⟨Ech, hW, h1, h2, h3⟩ := h'
    have hp := fun p1 p2 => act W pn xe Ech p1 p2 tk hW
    exact (pss_one (ps_expr (hp _ _))).run pins s' σ H' D I ⟨h1, h2, h3⟩
  · exact ⟨fun cls d H' => cls = .ref C ∧ d = none ∧ ∀ H'', Ext H' H'' → Q (.str (wordN i)) H'', fun cls d σ' H' ⟨e1, e2, e3⟩ => ⟨true, by rw [e1]; exact T.te, fun _ a _ => ⟨e1, e2, ⟨σ', rfl⟩, e3⟩, fun z => by cases z⟩, rfl, hc, h _⟩
/-- a def with lambdas of its own: its code object's address, its table's -/
structure FunL (K : PySem.W.Frag) (mg : Str → Option Value) (base : Heap) (x : Str) (st : Stmt) (f : Addr) (fd : FuncData) (T : Addr) : Prop where
  ex : ∃ (oc : Value) (od : Option Addr) (kV doc pm : Value) (an : Option Addr) (c : Addr) (ct : Value) (osl : Array (Option Value)),
    fd = PySem.W.fnOf x x (defArgs st) (defBody st) (defScope st) .none kV doc pm an (.ref c) ct ∧ K.lookup f = some ⟨oc, od, .func fd, osl⟩ ∧ PySem.W.codeIn K (.ref c) x = true ∧ LamX.TabB base mg c T
theorem FunL.ok {P : Program} {w : World} {K : PySem.W.Frag} {mg : Str → Option Value} {base : Heap} {x : Str} {st : Stmt} {f : Addr} {fd : FuncData} {T : Addr} {N ps : List Str} {k : Nat} {sp : Sp} (F : FunL K mg base x st f fd T) (S : FnScope N ps (defScope st)) (len : ∀ vs H Q E, sp vs H Q E → vs.length = ps.length)
    (hbody : ∀ (c : Addr) (A : Around) (outer : List Env) (s : Shared) (H : Hp) (vs : List V) (Q : VK) (E : XK), LamX.TabB base mg c T → Room k (A.deeper (envOfC x (defScope st) s.heap.objs.size f (.ref c))) → sp vs H Q E →
      ∃ t, PSs (cxOf CX0 P w K mg base N x (defScope st) f (.ref c) A outer s H E).nox (defBody st) t ∧ t { nx := fun _ H' => Q .non H', rt := Q } (start N vs) H) : FnOk P w K mg base CX0 (k + 1) f fd ps sp := by
  obtain ⟨oc, od, kV, doc, pm, an, c, ct, osl, rfl, lk, hcd, tb⟩ := F.ex
  refine fn_of lk hcd S len fun A outer s H vs Q E hr hsp => ?_
  obtain ⟨t, h, q⟩ := hbody c A outer s H vs Q E tb hr hsp
  exact ⟨t, h.nox, q⟩
/-- behind a lambda that was made: as seen without tables of one's own -/
theorem grownExt {T : Addr} {q : Str} {H1 H2 : Hp} (t1 : LamX.TabS H1 T q) (kp : Grown T H1 H2) (t2 : LamX.TabS H2 T q) : @Ext ⟨fun _ => False⟩ H1 H2 := by
  obtain ⟨p1, a1, b1, _⟩ := t1
  obtain ⟨p2, a2, b2, _⟩ := t2
  refine @Ext.mk ⟨fun _ => False⟩ _ _ (fun a o h q => kp.1 a o (fun z => ?_) h) (fun P h => ?_) (fun a o h => ?_) (fun _ _ z _ => z.elim)
  · rw [z, a1] at h
    cases h
    cases q
  · by_cases z : P = T
    · rw [z]
      exact ⟨p2, a2, b2⟩
    · obtain ⟨ps, e, t⟩ := h
      exact ⟨ps, kp.1 P _ z e, t⟩
  · by_cases z : a = T
    · rw [z]
      exact ⟨_, a2⟩
    · exact ⟨o, kp.1 a o z h⟩
theorem tabS_own {T : Addr} {q : Str} {H H' : Hp} (ho : Own.own T) (e : Ext H H') (t : LamX.TabS H T q) : LamX.TabS H' T q := by
  obtain ⟨ps, a1, a2, a3⟩ := t
  refine ⟨ps, e.own T ps ho a1, a2, fun pos cv hc => ?_⟩
  obtain ⟨c, e1, e2⟩ := a3 pos cv hc
  exact ⟨c, e1, e.keep _ _ e2 rfl⟩
end Lk


/-! ## EndG -/
set_option Elab.async false
set_option linter.all false
set_option maxRecDepth 100000
set_option maxHeartbeats 4000000
/-! The end of any law: defs as they stand in the heap behind the program's lines, their tables of code objects. -/
namespace Lk
open PySem PySem.Spec PyProof.Rows L2 Gx
/-- the tables of code objects are empty when the law is called -/
def TabAll (q : Program) (mg : Str → Option Value) (h : Heap) : Prop := ∀ d ∈ recsOf q, ∃ a o fd c P, mg d.name = some (.ref a) ∧ h.get? a = some o ∧ o.data = .func fd ∧ fd.code = .ref c ∧ h.IsCode c P #[] ∧ h.TableAt c P #[]
theorem walk_tabs {l : PySem.W.OpenLaw} {q : Program} {loose : List Str} {XP : (Str → Option Value) → Heap → Prop} {YP : World → Heap → Prop} {d : DefRec} {K : Params → PySem.W.Frag} {k : Nat} {x : Str} (hn : l.most = some 63) (hdf : d.params.defaults = []) (hr : Room k callerA) (hY : ∀ w h, YP w h → (K w.params).In h)
    (F : ∀ w mg fa h, (K w.params).In h → h.Ns mainGlobals mg → mg d.name = some (.ref fa) → TabAll q mg h → LamX.LawAtS l w (K w.params) CX0 k 63 x mg fa h) : PySem.W.WalkO q loose XP YP l.row.toRowW d [] (fun f vs => PySem.call f vs) := by
  refine Att.attach_callB hn hdf fun w _ s1 mg _ fa _ _ _ _ a vs ns G Y _ _ _ hm ho hi hl hb hg => ?_
  obtain ⟨fd, cs, sp, t1, t2, t3, t4, t5, t6⟩ := F w mg fa s1.heap (hY w _ Y) G.T.g hm G.T.tab
  exact LamX.law_callTs (hY w _ Y) G.T.g G.T.b G.T.builtins G.T.nolimit hg t1 t2 t3 G.T.bmain ho hi (Nat.le_trans hl (by decide)) hr t6 t4 (fun H hH hS => t5 H a ns hl hb hH hS) fun _ _ _ z => z
/-- a def of the module, named as it is bound -/
structure FnAt (K : PySem.W.Frag) (x : Str) (st : Stmt) : Prop where
  ex : ∃ f fd, PySem.W.nsIn K mainGlobals x = some (some (.ref f)) ∧ L2.Fun K x x st f fd
/-- .. that has a table of code objects, at T -/
structure FnTb (K : PySem.W.Frag) (x : Str) (st : Stmt) (T : Addr) : Prop where
  ex : ∃ f oc od kV doc pm an cda ct osl ccl cdd vs ccs, PySem.W.nsIn K mainGlobals x = some (some (.ref f)) ∧ K.lookup f = some ⟨oc, od, .func (PySem.W.fnOf x x (defArgs st) (defBody st) (defScope st) .none kV doc pm an (.ref cda) ct), osl⟩ ∧ PySem.W.codeIn K (.ref cda) x = true ∧ PySem.W.keepIn K (.ref f) = true ∧
    K.lookup cda = some ⟨ccl, cdd, .fields vs, ccs⟩ ∧ vs[11]? = some (.ref T)
/-- .. in the heap -/
structure TabAt (K : PySem.W.Frag) (mg : Str → Option Value) (h : Heap) (x : Str) (st : Stmt) (c T : Addr) : Prop where
  hd : PySem.W.CodeHd h c T
  none : h.get? T = some { cls := .none, data := .fields #[] }
  fn : ∃ f fd, mg x = some (.ref f) ∧ L2.Fun K x x st f fd ∧ ∃ (oc : Value) (od : Option Addr) (kV doc pm : Value) (an : Option Addr) (ct : Value) (osl : Array (Option Value)),
    fd = PySem.W.fnOf x x (defArgs st) (defBody st) (defScope st) .none kV doc pm an (.ref c) ct ∧ K.lookup f = some ⟨oc, od, .func fd, osl⟩ ∧ PySem.W.codeIn K (.ref c) x = true
section
variable {P : Program} {w : World} {K : PySem.W.Frag} {mg : Str → Option Value} {base h : Heap} {x : Str} {st : Stmt} {q : Program} {CX : CXT} {k : Nat} {ps : List Str} {sp : Sp}
theorem fnAt {f : Addr} {oc : Value} {od an : Option Addr} {osl : Array (Option Value)} {kV doc pm cdv ct : Value} (n : PySem.W.nsIn K mainGlobals x = some (some (.ref f)))
    (l : K.lookup f = some ⟨oc, od, .func (PySem.W.fnOf x x (defArgs st) (defBody st) (defScope st) .none kV doc pm an cdv ct), osl⟩) (c : PySem.W.codeIn K cdv x = true) (k : PySem.W.keepIn K (.ref f) = true) : FnAt K x st := ⟨⟨_, _, n, L2.fun_mk l c k⟩⟩
theorem fnTb {f cda T : Addr} {oc : Value} {od an : Option Addr} {osl : Array (Option Value)} {kV doc pm ct : Value} {ccl : Value} {cdd : Option Addr} {vs : Array Value} {ccs : Array (Option Value)} (n : PySem.W.nsIn K mainGlobals x = some (some (.ref f)))
    (l : K.lookup f = some ⟨oc, od, .func (PySem.W.fnOf x x (defArgs st) (defBody st) (defScope st) .none kV doc pm an (.ref cda) ct), osl⟩) (c : PySem.W.codeIn K (.ref cda) x = true) (k : PySem.W.keepIn K (.ref f) = true)
    (lc : K.lookup cda = some ⟨ccl, cdd, .fields vs, ccs⟩) (l11 : vs[11]? = some (.ref T)) : FnTb K x st T := ⟨⟨_, _, _, _, _, _, _, _, _, _, _, _, _, _, n, l, c, k, lc, l11⟩⟩
theorem FnAt.cal (A : FnAt K x st) (X : K.In h) (G : h.Ns mainGlobals mg)
    (hb : ∀ (kV doc pm : Value) (an : Option Addr) (cdv ct : Value) (us : List Value), us.length = ps.length → bindArgs (PySem.W.fnOf x x (defArgs st) (defBody st) (defScope st) .none kV doc pm an cdv ct) ⟨us, []⟩ = pure (ps.zip us))
    (ok : ∀ f fd, L2.Fun K x x st f fd → FnOk P w K mg base CX k f fd ps sp) : Cal P w K mg base CX k x ps sp := by
  obtain ⟨f, fd, n, F⟩ := A.ex
  exact ⟨f, fd, PySem.W.mg_of X G n, F.kp, F.binds hb, ok f fd F⟩
theorem FnAt.gdef (A : FnAt K x st) (X : K.In h) (G : h.Ns mainGlobals mg)
    (hb : ∀ (kV doc pm : Value) (an : Option Addr) (cdv ct : Value) (us : List Value), us.length = ["work"].length → bindArgs (PySem.W.fnOf x x (defArgs st) (defBody st) (defScope st) .none kV doc pm an cdv ct) ⟨us, []⟩ = pure ((["work"] : List Str).zip us)) : ∃ g cdv, GDef K mg x st g cdv := by
  obtain ⟨f, fd, n, F⟩ := A.ex
  have B := F.binds (ps := ["work"]) hb
  have kp := F.kp
  obtain ⟨oc, od, kV, doc, pm, an, cdv, ct, osl, rfl, lk, hcd⟩ := F.ex
  exact ⟨f, cdv, PySem.W.mg_of X G n, kp, ⟨oc, od, kV, doc, pm, an, ct, osl, lk, B⟩, hcd⟩
theorem FnTb.tab {T : Addr} (A : FnTb K x st T) (X : K.In h) (G : h.Ns mainGlobals mg) (TA : TabAll q mg h) (hr : ((recsOf q).any fun e => e.name == x) = true) : ∃ c, TabAt K mg h x st c T := by
  obtain ⟨d, hd, hx⟩ := List.any_eq_true.mp hr
  have hx : d.name = x := beq_iff_eq.mp hx
  subst hx
  obtain ⟨a, o, fd, c, Q, h1, h2, h3, h4, h5, h6⟩ := TA d hd
  obtain ⟨f, oc, od, kV, doc, pm, an, cda, ct, osl, ccl, cdd, vs, ccs, n, lk, hcd, kp, lc, l11⟩ := A.ex
  have hm := PySem.W.mg_of X G n
  rw [hm] at h1
  cases h1
  have g := X _ _ lk
  rw [h2] at g
  cases g
  have e3 : fd = PySem.W.fnOf d.name d.name (defArgs st) (defBody st) (defScope st) .none kV doc pm an (.ref cda) ct := by
    have h3' : Data.func (PySem.W.fnOf d.name d.name (defArgs st) (defBody st) (defScope st) .none kV doc pm an (.ref cda) ct) = Data.func fd := h3
    exact (Data.func.inj h3').symm
  subst e3
  have e4 : Value.ref cda = .ref c := h4
  cases e4
  have eT : Q = T := by
    obtain ⟨⟨o, us, g1, _, g2, g3⟩, _⟩ := h6
    have g4 := X _ _ lc
    rw [g1] at g4
    cases g4
    have g2' : Data.fields vs = Data.fields us := g2
    cases g2'
    rw [l11] at g3
    cases g3
    rfl
  subst eT
  exact ⟨c, PySem.W.CodeHd.of h5 h6, h6.2, a, _, hm, L2.fun_mk lk hcd kp, oc, od, kV, doc, pm, an, ct, osl, rfl, lk, hcd⟩
theorem TabAt.cal [Own] {c T : Addr} {Ps : List Addr} (A : TabAt K mg h x st c T) (hP : T ∈ Ps) (hn : ¬ Own.own T) (tb : LamX.TabB base mg c T)
    (hb : ∀ (kV doc pm : Value) (an : Option Addr) (cdv ct : Value) (us : List Value), us.length = ps.length → bindArgs (PySem.W.fnOf x x (defArgs st) (defBody st) (defScope st) .none kV doc pm an cdv ct) ⟨us, []⟩ = pure (ps.zip us))
    (ok : ∀ f fd, FunT K mg base Ps x st f fd T → FnOk P w K mg base CX k f fd ps sp) : Cal P w K mg base CX k x ps sp := by
  obtain ⟨f, fd, hm, F, oc, od, kV, doc, pm, an, ct, osl, e, lk, hcd⟩ := A.fn
  exact ⟨f, fd, hm, F.kp, F.binds hb, ok f fd ⟨⟨oc, od, kV, doc, pm, an, c, ct, osl, e, lk, hcd, tb.code, tb.bm, tb.gP⟩, hP, hn⟩⟩
end
/-- no table stands among the heap's written objects -/
def noTbl (K : PySem.W.Frag) : Bool := K.all fun p => match p.2.data with | .fields vs => vs.size != 0 | _ => true
theorem lookup_mem {α β : Type} [BEq α] [LawfulBEq α] {a : α} {b : β} : ∀ {l : List (α × β)}, l.lookup a = some b → (a, b) ∈ l
  | [], e => by simp at e
  | (c, d) :: r, e => by
    rw [List.lookup_cons] at e
    cases hc : a == c with
    | true =>
      rw [hc] at e
      have := beq_iff_eq.mp hc
      subst this
      cases e
      exact .head _
    | false =>
      rw [hc] at e
      exact .tail _ (lookup_mem e)
theorem noTbl_at {K : PySem.W.Frag} {h : Heap} {T : Addr} (n : noTbl K = true) (X : K.In h) (e : h.get? T = some { cls := .none, data := .fields #[] }) : K.lookup T = none := by
  cases q : K.lookup T with
  | none => rfl
  | some o =>
    have g := X _ _ q
    rw [e] at g
    cases g
    have := List.all_eq_true.mp n _ (lookup_mem q)
    exact absurd this (fun z => Bool.noConfusion (show false = true from z))
theorem exm_self {K : PySem.W.Frag} {S : Addr} (h1 : PySem.W.subIn K (.ref S) (.type "BaseException") = some true) (h2 : PySem.W.isClsIn K S = true) (h3 : PySem.W.typeIn K (.ref S) = some (.type "type")) (h4 : PySem.W.subIn K (.ref S) (.ref S) = some true) : PySem.W.exmOne K (.ref S) (.ref S) = some true := by
  have h5 : (PySem.W.clsIn K S).isSome = true := h2
  have t1 : ((some true : Option Bool) == some true) = true := by decide
  have t2 : (some (Value.type "type") == some (Value.type "type")) = true := by rfl
  unfold PySem.W.exmOne
  rw [h1, if_pos t1]
  have t3 : ((PySem.W.clsIn K S).isSome && PySem.W.typeIn K (.ref S) == some (.type "type")) = true := by
    rw [h3, h5, t2] <;> rfl
  show (if ((PySem.W.clsIn K S).isSome && PySem.W.typeIn K (.ref S) == some (.type "type")) = true then PySem.W.subIn K (.ref S) (.ref S) else none) = some true
  rw [if_pos t3]
  exact h4
theorem num_mk {K : PySem.W.Frag} {x : Str} {n : Int} {t : Tok} (e : PySem.W.nsIn K mainGlobals x = some (some (.int n t))) : ∃ t, PySem.W.nsIn K mainGlobals x = some (some (.int n t)) := ⟨t, e⟩
/-- an own error class of the module without an __init__ of its own, as raised and as caught -/
structure OwnAt (K : PySem.W.Frag) (x : Str) (C : Addr) : Prop where
  gC : PySem.W.nsIn K mainGlobals x = some (some (.ref C))
  ex : PySem.W.excIn K C [.type "ValueError", .type "Exception", .type "BaseException", .type "object"] "ValueError.__new__" = true
  kC : PySem.W.keepIn K (.ref C) = true
  exC : PySem.W.subIn K (.ref C) (.type "BaseException") = some true
  tyC : PySem.W.typeIn K (.ref C) = some (.type "type")
  isC : PySem.W.isClsIn K C = true
  sC : PySem.W.subIn K (.ref C) (.ref C) = some true
theorem OwnAt.own0 {K : PySem.W.Frag} {h : Heap} {mg : Str → Option Value} {x : Str} {C : Addr} (o : OwnAt K x C) (X : K.In h) (G : h.Ns mainGlobals mg) : @Own0 K mg x C := ⟨PySem.W.mg_of X G o.gC, o.ex, o.kC, o.exC, o.tyC⟩
theorem OwnAt.te {K : PySem.W.Frag} {x : Str} {C : Addr} (o : OwnAt K x C) : PySem.W.exmOne K (.ref C) (.ref C) = some true := exm_self o.exC o.isC o.tyC o.sC
/-- where a class stands -/
def addrOf (mg : Str → Option Value) (x : Str) : Addr := match mg x with
  | some (.ref a) => a
  | _ => 0
theorem addr_of {mg : Str → Option Value} {x : Str} {A : Addr} (h : mg x = some (.ref A)) : addrOf mg x = A := by
  unfold addrOf
  rw [h]
/-- an error class of the module: whether the one at CE is of it -/
structure ErrG (K : PySem.W.Frag) (x : Str) (CE : Addr) (b : Bool) (A : Addr) : Prop where
  n : PySem.W.nsIn K mainGlobals x = some (some (.ref A))
  e : PySem.W.kitOne K (.ref CE) (.ref A) = some b
/-- the class of them all -/
structure FolkG (K : PySem.W.Frag) (CF CE : Addr) : Prop where
  n : PySem.W.nsIn K mainGlobals "FolkError" = some (some (.ref CF))
  s : PySem.W.subIn K (.ref CF) (.type "BaseException") = some true
  d : PySem.W.hasDictIn K CF = true
  t : PySem.W.typeIn K (.ref CF) = some (.type "type")
  e : PySem.W.subIn K (.ref CE) (.ref CF) = some true
theorem refG {K : PySem.W.Frag} {h : Heap} {mg : Str → Option Value} {CF CE : Addr} {i : Nat} (X : K.In h) (G : h.Ns mainGlobals mg) (F : FolkG K CF CE) (EE : ExcC K CE) (i11 : i < 11)
    (xw : ∀ x ∈ (["BadWeb", "BadRules", "TooMany"] : List Str), ∃ a, ErrG K x CE false a) (xn : ∀ k, k < 11 → ∃ a, ErrG K (errN k) CE (k == i) a) : RefG K mg CF CE (addrOf mg) i := by
  refine ⟨PySem.W.mg_of X G F.n, PySem.W.exm_ref F.s F.d F.t F.e, EE, fun x hx => ?_, fun k hk => ?_, i11⟩
  · obtain ⟨a, z⟩ := xw x hx
    have hm := PySem.W.mg_of X G z.n
    rw [addr_of hm]
    exact ⟨hm, z.e⟩
  · obtain ⟨a, z⟩ := xn k hk
    have hm := PySem.W.mg_of X G z.n
    rw [addr_of hm]
    exact ⟨hm, z.e⟩
/-- two defs of unlike names stand apart -/
theorem fn_apart {K : PySem.W.Frag} {h : Heap} {mg : Str → Option Value} {x y : Str} {st st' : Stmt} {f1 f2 : Addr} (X : K.In h) (G : h.Ns mainGlobals mg) (A : FnAt K x st) (B : FnAt K y st') (ne : x ≠ y) (m1 : mg x = some (.ref f1)) (m2 : mg y = some (.ref f2)) : f1 ≠ f2 := by
  obtain ⟨g1, gd1, n1, F1⟩ := A.ex
  obtain ⟨g2, gd2, n2, F2⟩ := B.ex
  have h1 := PySem.W.mg_of X G n1
  have h2 := PySem.W.mg_of X G n2
  rw [m1] at h1
  rw [m2] at h2
  cases h1
  cases h2
  obtain ⟨oc1, od1, kV1, doc1, pm1, an1, cd1, ct1, osl1, rfl, lk1, _⟩ := F1.ex
  obtain ⟨oc2, od2, kV2, doc2, pm2, an2, cd2, ct2, osl2, rfl, lk2, _⟩ := F2.ex
  intro e
  subst e
  rw [lk1] at lk2
  have e2 := congrArg (fun o : Option Obj => match o with | some ⟨_, _, .func fd, _⟩ => fd.name | _ => "") lk2
  exact ne e2
/-- .. that calls itself -/
theorem FnAt.calR {P : Program} {w : World} {K : PySem.W.Frag} {mg : Str → Option Value} {base h : Heap} {x : Str} {st : Stmt} {CX : CXT} {k : Nat} {ps : List Str} {sp : Sp} (A : FnAt K x st) (X : K.In h) (G : h.Ns mainGlobals mg)
    (hb : ∀ (kV doc pm : Value) (an : Option Addr) (cdv ct : Value) (us : List Value), us.length = ps.length → bindArgs (PySem.W.fnOf x x (defArgs st) (defBody st) (defScope st) .none kV doc pm an cdv ct) ⟨us, []⟩ = pure (ps.zip us))
    (ok : ∀ f fd, L2.Fun K x x st f fd → mg x = some (.ref f) → Binds K fd ps [] → FnOk P w K mg base CX k f fd ps sp) : Cal P w K mg base CX k x ps sp := by
  obtain ⟨f, fd, n, F⟩ := A.ex
  have hm := PySem.W.mg_of X G n
  exact ⟨f, fd, hm, F.kp, F.binds hb, ok f fd F hm (F.binds hb)⟩
end Lk

/-! ## EndGL -/
set_option Elab.async false
set_option linter.all false
set_option maxRecDepth 100000
set_option maxHeartbeats 4000000
/-! The end of a law whose helpers make lambdas: their tables. -/
namespace Lk
open PySem PySem.Spec PyProof.Rows L2 Gx
section
variable {P : Program} {w : World} {K : PySem.W.Frag} {mg : Str → Option Value} {base h : Heap} {x : Str} {st : Stmt} {q : Program} {CX : CXT} {k : Nat} {ps : List Str} {sp : Sp}
theorem TabAt.calL [Own] {c T : Addr} (A : TabAt K mg h x st c T) (tb : LamX.TabB base mg c T)
    (hb : ∀ (kV doc pm : Value) (an : Option Addr) (cdv ct : Value) (us : List Value), us.length = ps.length → bindArgs (PySem.W.fnOf x x (defArgs st) (defBody st) (defScope st) .none kV doc pm an cdv ct) ⟨us, []⟩ = pure (ps.zip us))
    (ok : ∀ f fd, FunL K mg base x st f fd T → FnOk P w K mg base CX k f fd ps sp) : Cal P w K mg base CX k x ps sp := by
  obtain ⟨f, fd, hm, F, oc, od, kV, doc, pm, an, ct, osl, e, lk, hcd⟩ := A.fn
  exact ⟨f, fd, hm, F.kp, F.binds hb, ok f fd ⟨⟨oc, od, kV, doc, pm, an, c, ct, osl, e, lk, hcd, tb⟩⟩⟩
end
end Lk

/-! ## RM -/
set_option Elab.async false
set_option linter.all false
/-! Rings of looks, as data: the paths level by level; what they are. -/
namespace Lk
theorem nodup_le {α : Type} [DecidableEq α] : ∀ (l D : List α), l.Nodup → (∀ x ∈ l, x ∈ D) → l.length ≤ D.length
  | [], D, _, _ => Nat.zero_le _
  | x :: l, D, nd, h => by
    obtain ⟨n1, n2⟩ := List.nodup_cons.mp nd
    have hx : x ∈ D := h x (List.mem_cons_self ..)
    have ih := nodup_le l (D.erase x) n2 fun y hy => by
      have ne : y ≠ x := fun e => n1 (e ▸ hy)
      exact (List.mem_erase_of_ne ne).mpr (h y (List.mem_cons_of_mem _ hy))
    rw [List.length_erase_of_mem hx] at ih
    have : 0 < D.length := List.length_pos_of_mem hx
    rw [List.length_cons]
    omega
/-- the whole numbers from a, below b -/
def nums (a b : Int) : List Int := (List.range (b - a).toNat).map fun i : Nat => a + (i : Int)
theorem nums_len (a b : Int) : (nums a b).length = (b - a).toNat := by unfold nums; rw [List.length_map, List.length_range]
theorem mem_nums {a b x : Int} : x ∈ nums a b ↔ a ≤ x ∧ x < b := by
  unfold nums
  rw [List.mem_map]
  constructor
  · rintro ⟨i, hi, rfl⟩
    have := List.mem_range.mp hi
    omega
  · rintro ⟨h1, h2⟩
    exact ⟨(x - a).toNat, List.mem_range.mpr (by omega), by omega⟩
theorem nums_get {a b : Int} {i : Nat} (h : i < (b - a).toNat) : (nums a b)[i]? = some (a + (i : Int)) := by
  unfold nums
  rw [List.getElem?_map, List.getElem?_range h] <;> rfl
theorem nums_cons {a b : Int} (h : a < b) : nums a b = a :: nums (a + 1) b := by
  unfold nums
  have e : (b - a).toNat = (b - (a + 1)).toNat + 1 := by omega
  rw [e, List.range_succ_eq_map, List.map_cons, List.map_map]
  congr 1
  · simp
  · refine List.map_congr_left fun i _ => ?_
    show a + ((i + 1 : Nat) : Int) = a + 1 + (i : Int)
    omega
theorem nums_nil {a b : Int} (h : b ≤ a) : nums a b = [] := by
  unfold nums
  have e : (b - a).toNat = 0 := by omega
  rw [e] <;> rfl
/-- the greater ones alone -/
theorem nums_over {q : Int → Bool} {h b : Int} : ∀ (n : Nat) {a : Int}, (h + 1 - a).toNat = n → a ≤ h + 1 → (nums a b).filter (fun x => q x && decide (h < x)) = (nums (h + 1) b).filter q
  | 0, a, e, l => by
    have ea : a = h + 1 := by omega
    subst ea
    refine List.filter_congr fun x hx => ?_
    have := (mem_nums.mp hx).1
    rw [decide_eq_true (show h < x by omega), Bool.and_true]
  | n + 1, a, e, l => by
    by_cases hab : a < b
    · rw [nums_cons hab, List.filter_cons]
      have : decide (h < a) = false := decide_eq_false (by omega)
      rw [this, Bool.and_false]
      simp only [Bool.false_eq_true, if_false]
      exact nums_over n (by omega) (by omega)
    · rw [nums_nil (by omega), nums_nil (by omega)] <;> rfl
/-! ### looks by their numbers -/
def lookN (ls : List (Int × Int × Int)) (n : Int) : Int × Int × Int := ls.getD n.toNat (0, 0, 0)
/-- at whom, who, the sign -/
def lkd (ls : List (Int × Int × Int)) (n : Int) : Int := (lookN ls n).1
def lkr (ls : List (Int × Int × Int)) (n : Int) : Int := (lookN ls n).2.1
def lks (ls : List (Int × Int × Int)) (n : Int) : Int := (lookN ls n).2.2
theorem lookN_get {ls : List (Int × Int × Int)} {n : Int} (h0 : 0 ≤ n) (h : n < ls.length) : ls[n.toNat]? = some (lookN ls n) := by
  unfold lookN
  rw [List.getD_eq_getElem?_getD, List.getElem?_eq_getElem (by omega)] <;> rfl
theorem lookN_mem {ls : List (Int × Int × Int)} {n : Int} (h0 : 0 ≤ n) (h : n < ls.length) : lookN ls n ∈ ls := List.mem_of_getElem? (lookN_get h0 h)
def closesP (ls : List (Int × Int × Int)) (p : List Int) : Bool := lkr ls (p.getLastD 0) == lkd ls (p.headD 0)
def goesOnP (ls : List (Int × Int × Int)) (p : List Int) (n : Int) : Bool := lkd ls n == lkr ls (p.getLastD 0) && !((p.map (lkr ls)).contains (lkr ls n))
def longer (ls : List (Int × Int × Int)) (p : List Int) : List (List Int) := if closesP ls p = true then [] else ((nums (p.headD 0 + 1) ls.length).filter (goesOnP ls p)).map fun n => p ++ [n]
def level (ls : List (Int × Int × Int)) : Nat → List (List Int)
  | 0 => (nums 0 ls.length).map fun n => [n]
  | k + 1 => (level ls k).flatMap (longer ls)
def foundN (ls : List (Int × Int × Int)) : Nat → List (List Int)
  | 0 => []
  | k + 1 => foundN ls k ++ (level ls k).filter (closesP ls)
/-- all rings, not yet sorted -/
def ringsRaw (ls : List (Int × Int × Int)) : List (List Int) := foundN ls 7
/-- a path: numbers of looks, the first the least, each one's looker the one at whom the next one looks, through unlike folk -/
structure PathOk (ls : List (Int × Int × Int)) (p : List Int) : Prop where
  ne : p ≠ []
  num : ∀ n ∈ p, 0 ≤ n ∧ n < ls.length
  nd : (p.map (lkr ls)).Nodup
  least : ∀ n ∈ p, p.headD 0 ≤ n
  chain : ∀ (i : Nat) (a b : Int), p[i]? = some a → p[i + 1]? = some b → lkr ls a = lkd ls b
theorem headD_app {p : List Int} {x : List Int} (h : p ≠ []) : (p ++ x).headD 0 = p.headD 0 := by
  cases p with
  | nil => exact absurd rfl h
  | cons a b => rfl
theorem getLastD_app {p : List Int} {n : Int} : (p ++ [n]).getLastD 0 = n := by simp [List.getLastD_eq_getLast?]
theorem getLastD_get {p : List Int} (h : p ≠ []) : p[p.length - 1]? = some (p.getLastD 0) := by
  rw [List.getLastD_eq_getLast?, List.getLast?_eq_getElem?]
  have : 0 < p.length := List.length_pos_iff.mpr h
  rw [List.getElem?_eq_getElem (by omega)] <;> rfl
theorem getLastD_mem {p : List Int} (h : p ≠ []) : p.getLastD 0 ∈ p := List.mem_of_getElem? (getLastD_get h)
theorem headD_mem {p : List Int} (h : p ≠ []) : p.headD 0 ∈ p := by
  cases p with
  | nil => exact absurd rfl h
  | cons a b => exact List.mem_cons_self ..
theorem path_one {ls : List (Int × Int × Int)} {n : Int} (h : 0 ≤ n ∧ n < ls.length) : PathOk ls [n] :=
  ⟨by simp, fun m hm => by rw [List.mem_singleton.mp hm]; exact h, by simp, fun m hm => by rw [List.mem_singleton.mp hm]; exact Int.le_refl _, fun i a b h1 h2 => by simp at h2⟩
theorem path_more {ls : List (Int × Int × Int)} {p : List Int} {n : Int} (ok : PathOk ls p) (hn : p.headD 0 + 1 ≤ n ∧ n < ls.length) (g : goesOnP ls p n = true) : PathOk ls (p ++ [n]) := by
  obtain ⟨g1, g2⟩ := Bool.and_eq_true_iff.mp g
  have g1 : lkd ls n = lkr ls (p.getLastD 0) := beq_iff_eq.mp g1
  have g2 : lkr ls n ∉ p.map (lkr ls) := by
    intro z
    rw [Bool.not_eq_true', ← Bool.not_eq_true] at g2
    exact g2 (List.contains_iff_mem.mpr z)
  have h0 := ok.num _ (headD_mem ok.ne)
  refine ⟨by simp, fun m hm => ?_, ?_, fun m hm => ?_, fun i a b h1 h2 => ?_⟩
  · rcases List.mem_append.mp hm with q | q
    · exact ok.num m q
    · rw [List.mem_singleton.mp q]
      exact ⟨by omega, hn.2⟩
  · rw [List.map_append, List.map_singleton]
    refine List.nodup_append.mpr ⟨ok.nd, by simp, fun a ha b hb => ?_⟩
    rw [List.mem_singleton.mp hb]
    intro e
    exact g2 (e ▸ ha)
  · rw [headD_app ok.ne]
    rcases List.mem_append.mp hm with q | q
    · exact ok.least m q
    · rw [List.mem_singleton.mp q]
      omega
  · by_cases hi : i + 1 < p.length
    · rw [List.getElem?_append_left (by omega)] at h1
      rw [List.getElem?_append_left hi] at h2
      exact ok.chain i a b h1 h2
    · have hl : i + 1 = p.length := by
        have := (List.getElem?_eq_some_iff.mp h2).1
        rw [List.length_append, List.length_singleton] at this
        omega
      rw [List.getElem?_append_right (by omega), hl, Nat.sub_self] at h2
      rw [List.getElem?_append_left (by omega)] at h1
      have e1 := getLastD_get ok.ne
      rw [show p.length - 1 = i by omega, h1] at e1
      have eb : n = b := by simpa using h2
      rw [Option.some.inj e1, ← eb]
      exact g1.symm
theorem longer_mem {ls : List (Int × Int × Int)} {p q : List Int} (h : q ∈ longer ls p) : closesP ls p = false ∧ ∃ n, q = p ++ [n] ∧ (p.headD 0 + 1 ≤ n ∧ n < ls.length) ∧ goesOnP ls p n = true := by
  unfold longer at h
  by_cases c : closesP ls p = true
  · rw [if_pos c] at h
    simp at h
  · rw [if_neg c] at h
    obtain ⟨n, hn, rfl⟩ := List.mem_map.mp h
    obtain ⟨h1, h2⟩ := List.mem_filter.mp hn
    exact ⟨by simpa using c, n, rfl, mem_nums.mp h1, h2⟩
theorem level_ok {ls : List (Int × Int × Int)} : ∀ (k : Nat) {p : List Int}, p ∈ level ls k → PathOk ls p ∧ p.length = k + 1
  | 0, p, h => by
    obtain ⟨n, hn, rfl⟩ := List.mem_map.mp h
    exact ⟨path_one (mem_nums.mp hn), rfl⟩
  | k + 1, p, h => by
    obtain ⟨q, hq, hp⟩ := List.mem_flatMap.mp h
    obtain ⟨ok, hl⟩ := level_ok k hq
    obtain ⟨_, n, rfl, hn, g⟩ := longer_mem hp
    exact ⟨path_more ok hn g, by rw [List.length_append, hl]; rfl⟩
theorem level_none {ls : List (Int × Int × Int)} {m : Nat} (hm : ∀ l ∈ ls, 0 ≤ l.2.1 ∧ l.2.1 < (m : Int)) {k : Nat} (hk : m ≤ k) : level ls k = [] := by
  cases e : level ls k with
  | nil => rfl
  | cons p r =>
    obtain ⟨ok, hl⟩ := level_ok (ls := ls) k (p := p) (by rw [e]; exact List.mem_cons_self ..)
    have := nodup_le (p.map (lkr ls)) (nums 0 m) ok.nd fun x hx => by
      obtain ⟨n, hn, rfl⟩ := List.mem_map.mp hx
      obtain ⟨h0, h1⟩ := ok.num n hn
      exact mem_nums.mpr (hm _ (lookN_mem h0 h1))
    rw [List.length_map, nums_len, hl] at this
    omega
theorem filter_len_le {α : Type} (p : α → Bool) (l : List α) : (l.filter p).length ≤ l.length := List.length_filter_le _ _
theorem longer_len (ls : List (Int × Int × Int)) (p : List Int) (h : 0 ≤ p.headD 0 ∨ True) (h14 : ls.length ≤ 14) (h0 : 0 ≤ p.headD 0) : (longer ls p).length ≤ 14 := by
  unfold longer
  split
  · exact Nat.zero_le _
  · rw [List.length_map]
    refine Nat.le_trans (List.length_filter_le _ _) ?_
    rw [nums_len]
    omega
theorem flatMap_len {α β : Type} {f : α → List β} {c : Nat} : ∀ {l : List α}, (∀ x ∈ l, (f x).length ≤ c) → (l.flatMap f).length ≤ c * l.length
  | [], _ => by simp
  | x :: l, h => by
    rw [List.flatMap_cons, List.length_append, List.length_cons]
    have h1 := h x (List.mem_cons_self ..)
    have h2 := flatMap_len (l := l) fun y hy => h y (List.mem_cons_of_mem _ hy)
    rw [Nat.mul_succ]
    omega
theorem level_len {ls : List (Int × Int × Int)} (h14 : ls.length ≤ 14) : ∀ k : Nat, (level ls k).length ≤ 14 ^ (k + 1)
  | 0 => by
    show ((nums 0 ls.length).map fun n => [n]).length ≤ 14 ^ (0 + 1)
    rw [List.length_map, nums_len]
    omega
  | k + 1 => by
    have h := flatMap_len (f := longer ls) (c := 14) (l := level ls k) fun p hp => longer_len ls p (.inr trivial) h14 ((level_ok k hp).1.num _ (headD_mem (level_ok k hp).1.ne)).1
    have h2 := level_len h14 k
    show ((level ls k).flatMap (longer ls)).length ≤ 14 ^ (k + 1 + 1)
    rw [Nat.pow_succ]
    omega
theorem level_small {ls : List (Int × Int × Int)} (h14 : ls.length ≤ 14) (hm : ∀ l ∈ ls, 0 ≤ l.2.1 ∧ l.2.1 < (6 : Int)) (k : Nat) : (level ls k).length ≤ 7529536 := by
  by_cases hk : 6 ≤ k
  · rw [level_none (m := 6) hm hk]
    exact Nat.zero_le _
  · have h := level_len h14 k
    have h2 : 14 ^ (k + 1) ≤ 14 ^ 6 := Nat.pow_le_pow_right (by decide) (by omega)
    exact Nat.le_trans h h2
theorem found_small {ls : List (Int × Int × Int)} (h14 : ls.length ≤ 14) (hm : ∀ l ∈ ls, 0 ≤ l.2.1 ∧ l.2.1 < (6 : Int)) : ∀ k : Nat, (foundN ls k).length ≤ 8108730
  | 0 => Nat.zero_le _
  | 1 => by
    have := level_len h14 0
    have h2 := List.length_filter_le (closesP ls) (level ls 0)
    show ([] ++ (level ls 0).filter (closesP ls)).length ≤ _
    rw [List.nil_append]
    omega
  | k + 2 => by
    have key : ∀ k, (foundN ls k).length ≤ if k = 0 then 0 else if k = 1 then 14 else if k = 2 then 210 else if k = 3 then 2954 else if k = 4 then 41370 else if k = 5 then 579194 else 8108730 := by
      intro k
      induction k with
      | zero => exact Nat.zero_le _
      | succ k ih =>
        have h1 := level_len h14 k
        have h2 := List.length_filter_le (closesP ls) (level ls k)
        have e : (foundN ls (k + 1)).length = (foundN ls k).length + ((level ls k).filter (closesP ls)).length := by
          show (foundN ls k ++ _).length = _
          rw [List.length_append]
        rw [e]
        rcases (by omega : k = 0 ∨ k = 1 ∨ k = 2 ∨ k = 3 ∨ k = 4 ∨ k = 5 ∨ 6 ≤ k) with z | z | z | z | z | z | z
        · subst z; have z0 : (foundN ls 0).length = 0 := rfl; simp at h1 ⊢; omega
        · subst z; simp at ih h1 ⊢; omega
        · subst z; simp at ih h1 ⊢; omega
        · subst z; simp at ih h1 ⊢; omega
        · subst z; simp at ih h1 ⊢; omega
        · subst z; simp at ih h1 ⊢; omega
        · rw [level_none (m := 6) hm z] at h2 ⊢
          simp at ih ⊢
          split at ih <;> (try split at ih) <;> (try split at ih) <;> (try split at ih) <;> (try split at ih) <;> (try split at ih) <;> (try split) <;> (try split) <;> (try split) <;> (try split) <;> (try split) <;> omega
    have := key (k + 2)
    refine Nat.le_trans this ?_
    repeat' split
    all_goals omega
theorem found_end {ls : List (Int × Int × Int)} {k : Nat} (h : level ls k = []) : ∀ j, foundN ls (k + j) = foundN ls k
  | 0 => rfl
  | j + 1 => by
    have hz : ∀ j, level ls (k + j) = [] := fun j => by
      induction j with
      | zero => exact h
      | succ j ih =>
        show (level ls (k + j)).flatMap (longer ls) = []
        rw [ih] <;> rfl
    show foundN ls (k + j) ++ (level ls (k + j)).filter (closesP ls) = _
    rw [hz j, found_end h j]
    simp
theorem found_all {ls : List (Int × Int × Int)} {k : Nat} (h : level ls k = []) (hk : k ≤ 7) : foundN ls k = ringsRaw ls := by
  have := found_end h (7 - k)
  rw [show k + (7 - k) = 7 by omega] at this
  exact this.symm
theorem found_mem {ls : List (Int × Int × Int)} : ∀ {k : Nat} {p : List Int}, p ∈ foundN ls k → ∃ j, j < k ∧ p ∈ level ls j ∧ closesP ls p = true
  | 0, p, h => by simp [foundN] at h
  | k + 1, p, h => by
    rcases List.mem_append.mp (show p ∈ foundN ls k ++ (level ls k).filter (closesP ls) from h) with q | q
    · obtain ⟨j, a, b⟩ := found_mem q
      exact ⟨j, by omega, b⟩
    · obtain ⟨a, b⟩ := List.mem_filter.mp q
      exact ⟨k, by omega, a, b⟩
theorem raw_ok {ls : List (Int × Int × Int)} {p : List Int} (h : p ∈ ringsRaw ls) : PathOk ls p ∧ closesP ls p = true ∧ p.length ≤ 7 := by
  obtain ⟨j, hj, a, b⟩ := found_mem (k := 7) h
  obtain ⟨ok, hl⟩ := level_ok j a
  exact ⟨ok, b, by omega⟩
/-- a ring twice over is none -/
theorem raw_twice {ls : List (Int × Int × Int)} {p : List Int} (h : p ≠ []) : p ++ p ∉ ringsRaw ls := fun z => by
  have nd := (raw_ok z).1.nd
  rw [List.map_append] at nd
  have := (List.nodup_append.mp nd).2.2 (lkr ls (p.headD 0)) (List.mem_map.mpr ⟨_, headD_mem h, rfl⟩) _ (List.mem_map.mpr ⟨_, headD_mem h, rfl⟩)
  exact this rfl
/-! ### signs -/
def prodS (ls : List (Int × Int × Int)) (p : List Int) : Int := p.foldl (fun a n => a * lks ls n) 1
def evenP (ls : List (Int × Int × Int)) (p : List Int) : Bool := (p.filter fun n => lks ls n == -1).length % 2 == 0
theorem prod_fold {ls : List (Int × Int × Int)} : ∀ (p : List Int) (a : Int), (a = 1 ∨ a = -1) → (∀ n ∈ p, lks ls n = 1 ∨ lks ls n = -1) →
    p.foldl (fun a n => a * lks ls n) a = a * (if (p.filter fun n => lks ls n == -1).length % 2 = 0 then 1 else -1)
  | [], a, _, _ => by simp
  | n :: p, a, ha, h => by
    have hn := h n (List.mem_cons_self ..)
    rw [List.foldl_cons, prod_fold p (a * lks ls n) (by rcases ha with e | e <;> rcases hn with f | f <;> rw [e, f] <;> simp) fun m hm => h m (List.mem_cons_of_mem _ hm), List.filter_cons]
    rcases hn with f | f
    · rw [f]
      simp
    · rw [f]
      simp only [beq_self_eq_true, if_true, List.length_cons]
      by_cases e : (p.filter fun n => lks ls n == -1).length % 2 = 0
      · rw [if_pos e, if_neg (by omega)]
        omega
      · rw [if_neg e, if_pos (by omega)]
        omega
theorem prod_even {ls : List (Int × Int × Int)} {p : List Int} (h : ∀ n ∈ p, lks ls n = 1 ∨ lks ls n = -1) : prodS ls p = if evenP ls p = true then 1 else -1 := by
  unfold prodS
  rw [prod_fold p 1 (.inl rfl) h, Int.one_mul]
  unfold evenP
  by_cases e : (p.filter fun n => lks ls n == -1).length % 2 = 0
  · rw [if_pos e, e] <;> rfl
  · rw [if_neg e, if_neg (by simpa using e)]
end Lk

/-! ## Lcg -/
set_option Elab.async false
set_option linter.all false
set_option maxRecDepth 100000
set_option maxHeartbeats 2000000
/-! Comprehensions told by a function of what their source holds. -/
namespace Lk
open PySem PySem.Spec PyProof.Rows L2 Gx
variable [Own]
/-- what is told of a value stays told in heaps that have grown, and behind a write at a list -/
structure Stays {α : Type} (S : Hp → V → α → Prop) : Prop where
  ext : ∀ {H H' : Hp} {v : V} {a : α}, Ext H H' → S H v a → S H' v a
  put : ∀ {H : Hp} {D : Addr} {acc : List V} {o : HO} {v : V} {a : α}, H D = some (.lst acc) → S H v a → S (upd H D o) v a
theorem stTI : Stays TI := ⟨fun e h => h.ext e, fun {H D acc o v a} hD h => by
  obtain ⟨z, rfl, hz⟩ := h
  exact ⟨z, rfl, by rw [upd_ne (ne_of hD hz (by intro q; cases q)).symm]; exact hz⟩⟩
/-- an int -/
def VI : Hp → V → Int → Prop := fun _ v n => v = .int n
theorem stVI : Stays VI := ⟨fun _ h => h, fun _ h => h⟩
theorem pVI {H : Hp} : ∀ {vs : List V} {ns : List Int}, Paired (VI H) vs ns → vs = iv ns
  | _, _, .nil => rfl
  | _, _, .cons h t => by rw [show _ = _ from h, pVI t] <;> rfl
theorem iv_pVI {H : Hp} : ∀ ns : List Int, Paired (VI H) (iv ns) ns
  | [] => .nil
  | n :: ns => .cons rfl (iv_pVI ns)
/-- any value, told by nothing but itself -/
def VV : Hp → V → V → Prop := fun _ v w => v = w
theorem stVV : Stays VV := ⟨fun _ h => h, fun _ h => h⟩
theorem pVV {H : Hp} : ∀ {vs ws : List V}, Paired (VV H) vs ws → vs = ws
  | _, _, .nil => rfl
  | _, _, .cons h t => by rw [show _ = _ from h, pVV t]
theorem vv_p {H : Hp} : ∀ vs : List V, Paired (VV H) vs vs
  | [] => .nil
  | _ :: vs => .cons rfl (vv_p vs)
theorem filterMap_take {α β : Type} {f : α → Option β} {l : List α} {i : Nat} {x : α} (h : l[i]? = some x) : (l.take (i + 1)).filterMap f = (l.take i).filterMap f ++ (match f x with | some y => [y] | none => []) := by
  rw [take_snoc h, List.filterMap_append]
  congr 1
  cases e : f x <;> simp [e]
theorem lc_fm {J : It} {n : Nat} {G : Hp → Prop} {Y : Nat → Hp → V → Hp → Prop} (w : Walk J n G Y) {α β : Type} {R : Hp → V → α → Prop} {S : Hp → V → β → Prop} (st : Stays S) {bs : List α} {g : TG} {tt : TT} {te : TE} {vs : List Nat} {σ : L2.St} {H1 : Hp} {D : Addr} {Qd : Hp → Prop}
    (f : α → Option β) (hD : H1 D = none) (few : n ≤ sizeLine) (hn : bs.length = n) (hG : ∀ H', Ext H1 H' → G H') (hY : ∀ i H x H', Ext H1 H → i < n → Y i H x H' → H' = H ∧ ∃ b, bs[i]? = some b ∧ R H x b)
    (hs : ∀ x b H' (Ky : V → Hp → Prop) (Kn : Hp → Prop), Ext H1 H' → b ∈ bs → R H' x b → (∀ y r H4, f b = some r → Ext H' H4 → S H4 y r → Ky y H4) → (∀ H3, f b = none → Ext H' H3 → Kn H3) →
      g x (wipe σ vs) H' fun σ2 H2 => wipe σ2 vs = wipe σ vs ∧ tt σ2 H2 fun c H3 => if c = true then te σ2 H3 Ky else Kn H3)
    (hd : ∀ H' acc, Ext H1 H' → H' D = some (.lst acc) → Paired (S H') acc (bs.filterMap f) → Qd H') :
    ∃ W : Nat → Nat → Hp → Prop, (∃ m, W 0 m (upd H1 D (.lst []))) ∧ ∀ i m H, W i m H →
      (J.stop i H ∧ Qd H) ∨ (J.go i H ∧ ∃ Nx : Hp → Prop, (∀ H', Nx H' → ∃ m', m' < m ∧ W (i + 1) m' H') ∧ ∀ x H', J.yld i H x H' → g x (wipe σ vs) H' fun σ2 H2 => wipe σ2 vs = wipe σ vs ∧ tt σ2 H2 fun b H3 =>
        if b = true then te σ2 H3 fun y H4 => ∃ acc, H4 D = some (.lst acc) ∧ acc.length < sizeLine ∧ Nx (upd H4 D (.lst (acc ++ [y]))) else Nx H3) := by
  refine lc_walk w (fun i H' => ∃ acc, H' D = some (.lst acc) ∧ Ext H1 H' ∧ acc.length ≤ i ∧ Paired (S H') acc ((bs.take i).filterMap f)) ⟨[], upd_same, Ext.new hD _, Nat.le_refl _, .nil⟩ (fun i H' _ ⟨_, _, e, _⟩ => hG H' e) (fun i x H' H2 hi ⟨acc, hacc, e, hl, hp⟩ y => ?_) fun H' ⟨acc, hacc, e, hl, hp⟩ => ?_
  · obtain ⟨rfl, b, hb, hr⟩ := hY i H' x H2 e hi y
    refine hs x b _ _ _ e (List.mem_of_getElem? hb) hr (fun y r H4 hf e4 hy => ?_) fun H3 hf e3 => ?_
    · have h4 := e4.lst hacc
      refine ⟨acc, h4, by omega, acc ++ [y], upd_same, (e.trans e4).put hD _, by rw [List.length_append]; simp; omega, ?_⟩
      rw [filterMap_take hb, hf]
      exact paired_snoc (st.put h4 hy) (paired_mono (fun v a h => st.put h4 (st.ext e4 h)) hp)
    · refine ⟨acc, e3.lst hacc, e.trans e3, by omega, ?_⟩
      rw [filterMap_take hb, hf]
      show Paired _ _ (_ ++ [])
      rw [List.append_nil]
      exact paired_mono (fun v a h => st.ext e3 h) hp
  · refine hd H' acc e hacc ?_
    rw [← hn, List.take_length] at hp
    exact hp
section
variable {K : PySem.W.Frag} {a : Addr} {xs : List V} {α β : Type} {R : Hp → V → α → Prop} {S : Hp → V → β → Prop} {bs : List α} {g : TG} {tt : TT} {te : TE} {vs : List Nat} {σ : L2.St} {H1 : Hp} {D : Addr} {Qd : Hp → Prop}
/-- over a list -/
theorem lc_fmL (sr : Stays R) (st : Stays S) (f : α → Option β) (hD : H1 D = none) (hx : H1 a = some (.lst xs)) (hp : Paired (R H1) xs bs) (few : xs.length ≤ sizeLine)
    (hs : ∀ x b H' (Ky : V → Hp → Prop) (Kn : Hp → Prop), Ext H1 H' → b ∈ bs → R H' x b → (∀ y r H4, f b = some r → Ext H' H4 → S H4 y r → Ky y H4) → (∀ H3, f b = none → Ext H' H3 → Kn H3) →
      g x (wipe σ vs) H' fun σ2 H2 => wipe σ2 vs = wipe σ vs ∧ tt σ2 H2 fun c H3 => if c = true then te σ2 H3 Ky else Kn H3)
    (hd : ∀ H' acc, Ext H1 H' → H' D = some (.lst acc) → Paired (S H') acc (bs.filterMap f) → Qd H') :
    ∃ W : Nat → Nat → Hp → Prop, (∃ m, W 0 m (upd H1 D (.lst []))) ∧ ∀ i m H, W i m H →
      ((Itl K a).stop i H ∧ Qd H) ∨ ((Itl K a).go i H ∧ ∃ Nx : Hp → Prop, (∀ H', Nx H' → ∃ m', m' < m ∧ W (i + 1) m' H') ∧ ∀ x H', (Itl K a).yld i H x H' → g x (wipe σ vs) H' fun σ2 H2 => wipe σ2 vs = wipe σ vs ∧ tt σ2 H2 fun b H3 =>
        if b = true then te σ2 H3 fun y H4 => ∃ acc, H4 D = some (.lst acc) ∧ acc.length < sizeLine ∧ Nx (upd H4 D (.lst (acc ++ [y]))) else Nx H3) :=
  lc_fm (walk_list (K := K) (a := a) (xs := xs)) st f hD few (paired_len hp).symm (fun H' e => SqL.of (e.lst hx)) (fun i H x H' e hi y => by
    obtain ⟨rfl, hx2⟩ := y
    obtain ⟨b, hb, hr⟩ := paired_get' hp hx2
    exact ⟨rfl, b, hb, sr.ext e hr⟩) hs hd
/-- over a tuple -/
theorem lc_fmT (sr : Stays R) (st : Stays S) (f : α → Option β) (hD : H1 D = none) (hx : H1 a = some (.tup xs)) (hp : Paired (R H1) xs bs) (few : xs.length ≤ sizeLine)
    (hs : ∀ x b H' (Ky : V → Hp → Prop) (Kn : Hp → Prop), Ext H1 H' → b ∈ bs → R H' x b → (∀ y r H4, f b = some r → Ext H' H4 → S H4 y r → Ky y H4) → (∀ H3, f b = none → Ext H' H3 → Kn H3) →
      g x (wipe σ vs) H' fun σ2 H2 => wipe σ2 vs = wipe σ vs ∧ tt σ2 H2 fun c H3 => if c = true then te σ2 H3 Ky else Kn H3)
    (hd : ∀ H' acc, Ext H1 H' → H' D = some (.lst acc) → Paired (S H') acc (bs.filterMap f) → Qd H') :
    ∃ W : Nat → Nat → Hp → Prop, (∃ m, W 0 m (upd H1 D (.lst []))) ∧ ∀ i m H, W i m H →
      ((Itt K a).stop i H ∧ Qd H) ∨ ((Itt K a).go i H ∧ ∃ Nx : Hp → Prop, (∀ H', Nx H' → ∃ m', m' < m ∧ W (i + 1) m' H') ∧ ∀ x H', (Itt K a).yld i H x H' → g x (wipe σ vs) H' fun σ2 H2 => wipe σ2 vs = wipe σ vs ∧ tt σ2 H2 fun b H3 =>
        if b = true then te σ2 H3 fun y H4 => ∃ acc, H4 D = some (.lst acc) ∧ acc.length < sizeLine ∧ Nx (upd H4 D (.lst (acc ++ [y]))) else Nx H3) :=
  lc_fm (walk_tup (K := K) (a := a) (xs := xs)) st f hD few (paired_len hp).symm (fun H' e => SqT.of (e.tup hx)) (fun i H x H' e hi y => by
    obtain ⟨rfl, hx2⟩ := y
    obtain ⟨b, hb, hr⟩ := paired_get' hp hx2
    exact ⟨rfl, b, hb, sr.ext e hr⟩) hs hd
end
section
variable {β : Type} {S : Hp → V → β → Prop} {g : TG} {tt : TT} {te : TE} {vs : List Nat} {σ : L2.St} {H1 : Hp} {D : Addr} {Qd : Hp → Prop}
/-- over a range -/
theorem lc_fmR {lo : Int} {n : Nat} (st : Stays S) (f : Int → Option β) (hD : H1 D = none) (few : n ≤ sizeLine)
    (hs : ∀ b H' (Ky : V → Hp → Prop) (Kn : Hp → Prop), Ext H1 H' → lo ≤ b → b < lo + n → (∀ y r H4, f b = some r → Ext H' H4 → S H4 y r → Ky y H4) → (∀ H3, f b = none → Ext H' H3 → Kn H3) →
      g (.int b) (wipe σ vs) H' fun σ2 H2 => wipe σ2 vs = wipe σ vs ∧ tt σ2 H2 fun c H3 => if c = true then te σ2 H3 Ky else Kn H3)
    (hd : ∀ H' acc, Ext H1 H' → H' D = some (.lst acc) → Paired (S H') acc ((nums lo (lo + n)).filterMap f) → Qd H') :
    ∃ W : Nat → Nat → Hp → Prop, (∃ m, W 0 m (upd H1 D (.lst []))) ∧ ∀ i m H, W i m H →
      ((Itr lo n).stop i H ∧ Qd H) ∨ ((Itr lo n).go i H ∧ ∃ Nx : Hp → Prop, (∀ H', Nx H' → ∃ m', m' < m ∧ W (i + 1) m' H') ∧ ∀ x H', (Itr lo n).yld i H x H' → g x (wipe σ vs) H' fun σ2 H2 => wipe σ2 vs = wipe σ vs ∧ tt σ2 H2 fun b H3 =>
        if b = true then te σ2 H3 fun y H4 => ∃ acc, H4 D = some (.lst acc) ∧ acc.length < sizeLine ∧ Nx (upd H4 D (.lst (acc ++ [y]))) else Nx H3) :=
  lc_fm (walk_range (lo := lo) (n := n)) (R := VI) (bs := nums lo (lo + n)) st f hD few (by rw [nums_len]; omega) (fun _ _ => trivial) (fun i H x H' e hi y => by
    obtain ⟨rfl, hx2⟩ := y
    refine ⟨rfl, lo + (i : Int), nums_get (by omega), hx2⟩) (fun x b H' Ky Kn e hb hr k1 k2 => by
    rw [show x = V.int b from hr]
    obtain ⟨b1, b2⟩ := mem_nums.mp hb
    exact hs b H' Ky Kn e b1 b2 k1 k2) hd
end
end Lk

/-! ## D50 -/
set_option Elab.async false
set_option linter.all false
set_option maxRecDepth 100000
set_option maxHeartbeats 2000000
namespace Lk
open PySem PySem.Spec PyProof.Rows L2 Gx
variable [Own]
theorem at_last {p : List Int} (h : p ≠ []) : atI (iv p) (-1) = some (.int (p.getLastD 0)) := by
  have hl : 0 < p.length := List.length_pos_iff.mpr h
  have e : ixN (iv p).length (-1) = some (p.length - 1) := by
    unfold ixN
    rw [iv_len]
    rw [if_neg (by omega), if_pos (by omega)]
    congr 1
    omega
  unfold atI
  rw [e]
  exact iv_at (getLastD_get h)
theorem at_head {p : List Int} (h : p ≠ []) : atI (iv p) 0 = some (.int (p.headD 0)) := by
  cases p with
  | nil => exact absurd rfl h
  | cons a b => exact at_of (j := 0) rfl rfl
/-- the looks of a web, as a value -/
def LooksAt (H : Hp) (l : V) (ls : List Look3) : Prop := TT2 H l (ls.map row3)
theorem lookAt {H : Hp} {vs : List V} {ls : List Look3} {n : Int} (hp : Paired (TI H) vs (ls.map row3)) (h : 0 ≤ n ∧ n < ls.length) : ∃ q, atI vs n = some (.ref q) ∧ H q = some (.tup (iv (row3 (lookN ls n)))) := by
  obtain ⟨v, hv, q, rfl, hq⟩ := paired_get hp (show (ls.map row3)[n.toNat]? = some (row3 (lookN ls n)) by rw [List.getElem?_map, lookN_get h.1 h.2] <;> rfl)
  exact ⟨q, at_of (j := n.toNat) (by omega) hv, hq⟩
theorem dec_int (a b : Int) : decide (V.int a = V.int b) = (a == b) := by
  by_cases h : a = b
  · rw [h]
    simp
  · rw [decide_eq_false (fun z => h (by cases z; rfl))]
    simpa using h
theorem flat_iv : ∀ ns : List Int, (iv ns).all flatV = true
  | [] => rfl
  | n :: ns => by
    show (flatV (V.int n) && (iv ns).all flatV) = true
    rw [flat_iv ns] <;> rfl
theorem inV_iv (n : Int) : ∀ ns : List Int, inV (V.int n) (iv ns) = ns.contains n
  | [] => rfl
  | m :: ns => by
    show (eqV (V.int m) (V.int n) || inV (V.int n) (iv ns)) = _
    rw [inV_iv n ns, List.contains_cons]
    congr 1
    show (m == n) = (n == m)
    rw [Bool.eq_iff_iff, beq_iff_eq, beq_iff_eq]
    exact eq_comm
theorem fmIf {α : Type} (p : α → Bool) : ∀ l : List α, (l.filterMap fun m => if p m = true then some m else none) = l.filter p
  | [] => rfl
  | x :: l => by
    rw [List.filterMap_cons, List.filter_cons, fmIf p l]
    cases p x <;> rfl
def spCloses : Sp := fun vs H Q _ => ∃ (l p : V) (ls : List Look3) (path : List Int), vs = [l, p] ∧ TT2 H l (ls.map row3) ∧ TI H p path ∧ path ≠ [] ∧ (∀ n ∈ path, 0 ≤ n ∧ n < ls.length) ∧ Q (.bl (closesP ls path)) H
def spGoesOn : Sp := fun vs H Q _ => ∃ (l p : V) (n : Int) (ls : List Look3) (path : List Int), vs = [l, p, .int n] ∧ TT2 H l (ls.map row3) ∧ TI H p path ∧ path ≠ [] ∧ path.length ≤ 100 ∧ (∀ n ∈ path, 0 ≤ n ∧ n < ls.length) ∧ (0 ≤ n ∧ n < ls.length) ∧ ∀ H', Ext H H' → Q (.bl (goesOnP ls path n)) H'
def spHasEven : Sp := fun vs H Q _ => ∃ (v r : V) (W : Web) (ring : List Int), vs = [v, r] ∧ WebAt H v W ∧ TI H r ring ∧ ring.length ≤ 100 ∧ (∀ n ∈ ring, 0 ≤ n ∧ n < W.looks.length) ∧ ∀ H', Ext H H' → Q (.bl (evenP W.looks ring)) H'
section
variable {P : Program} {w : World} {K : PySem.W.Frag} {mg : Str → Option Value} {base : Heap} {Ps : List Addr}
end
end Lk


/-! ## SortT -/
set_option Elab.async false
set_option linter.all false
set_option maxRecDepth 100000
set_option maxHeartbeats 2000000
/-! sorted of a list of tuples of ints, none of them empty, any number of them. -/
namespace Lk
open PySem PySem.Spec PyProof.Rows L2 Gx
variable [Own]
/-- tuples of ints, in order -/
def sortT (rows : List (List Int)) : List (List Int) := rows.mergeSort (PySem.W.dataLe false dI)
theorem sortT_perm (rows : List (List Int)) : (sortT rows).Perm rows := List.mergeSort_perm ..
theorem sortT_mem {rows : List (List Int)} {r : List Int} : r ∈ sortT rows ↔ r ∈ rows := (sortT_perm rows).mem_iff
theorem sortT_len (rows : List (List Int)) : (sortT rows).length = rows.length := (sortT_perm rows).length_eq
def rSortT : List V → Hp → VK → Prop := fun vs H Q => ∃ (a : Addr) (xs : List V) (rows : List (List Int)), vs = [.ref a] ∧ H a = some (.lst xs) ∧ Paired (TI H) xs rows ∧ (∀ r ∈ rows, r ≠ []) ∧
  ∀ p ys, H p = none → Paired (TI H) ys (sortT rows) → Q (.ref p) (upd H p (.lst ys))
theorem both_of {H : Hp} : ∀ {xs : List V} {its : List Value} {rows : List (List Int)}, Vals xs its → Paired (TI H) xs rows → ∃ bs : List (V × List Int), bs.map (·.1) = xs ∧ bs.map (·.2) = rows ∧ PySem.W.EachIs (fun v (b : V × List Int) => RelV b.1 v ∧ TI H b.1 b.2) its bs
  | _, _, _, .nil, .nil => ⟨[], rfl, rfl, .nil⟩
  | x :: _, _, r :: _, .cons h1 t1, .cons h2 t2 => by
    obtain ⟨bs, e1, e2, e3⟩ := both_of t1 t2
    exact ⟨(x, r) :: bs, by rw [List.map_cons, e1], by rw [List.map_cons, e2], .cons ⟨h1, h2⟩ e3⟩
theorem of_both {H : Hp} : ∀ {its : List Value} {bs : List (V × List Int)}, PySem.W.EachIs (fun v (b : V × List Int) => RelV b.1 v ∧ TI H b.1 b.2) its bs → Vals (bs.map (·.1)) its ∧ Paired (TI H) (bs.map (·.1)) (bs.map (·.2))
  | _, _, .nil => ⟨.nil, .nil⟩
  | _, _, .cons h t => by
    obtain ⟨a, b⟩ := of_both t
    exact ⟨.cons h.1 a, .cons h.2 b⟩
theorem cr_sortTI {X : Cx} (hu : X.A.units + 64 < cLine) : CallR X (.builtin "sorted") rSortT := by
  intro pins s σ H vs us Q I r h
  obtain ⟨a, xs, rows, rfl, ha, hp, hne, q⟩ := h
  obtain ⟨its, rv, hl, hz⟩ := I.list (SqL.of ha)
  rw [Vals.ref1 r]
  obtain ⟨bs, e1, e2, e3⟩ := both_of rv hp
  have hmem : ∀ b ∈ bs, b.2 ∈ rows := fun b hb => by rw [← e2]; exact List.mem_map.mpr ⟨b, hb, rfl⟩
  refine PySem.W.sorted_data (enc := fun b : V × List Int => dI b.2) hl.isList e3 (e3.mono fun v b hb => ?_) (PySem.W.AllAlike.of fun b b' => ?_) (.inl fun d hd => ?_) (by rw [← List.length_map (f := (·.1)), e1]; exact hz) (fun b hb => ?_) fun out hlen ho => ?_
  · exact Dp.reads I _ _ _ hb.2.dp hb.1
  · show PySem.W.alike (.tuple _) (.tuple _) = true
    simp only [PySem.W.alike]
    exact PySem.W.alike_ints _ _
  · obtain ⟨b, hb, rfl⟩ := List.mem_map.mp hd
    have := hne _ (hmem b hb)
    cases e : b.2 with
    | nil => exact absurd e this
    | cons x t => exact ⟨.int x, t.map .int, rfl⟩
  · show X.A.units + 2 + (PyData.tuple _).depth < cLine
    simp only [PyData.depth, depth_ints]
    omega
  · obtain ⟨ep, he'⟩ := PyProof.Rows.sortedAll_at s.heap its out.toArray
    obtain ⟨k1, k2⟩ := of_both ho
    have e4 : (bs.mergeSort (PySem.W.dataLe false fun b : V × List Int => dI b.2)).map (·.2) = sortT rows := by
      unfold sortT
      rw [← e2]
      exact PySem.W.sort_maps _ fun _ _ _ _ => rfl
    rw [e4] at k2
    have hl2 : ((bs.mergeSort (PySem.W.dataLe false fun b : V × List Int => dI b.2)).map (·.1)).length ≤ sizeLine := by
      rw [List.length_map, List.length_mergeSort, ← List.length_map (f := (·.1)), e1]
      exact hz
    exact ⟨.ref _, upd H (s.heap.objs.size + 1) (.lst _), I.laid (t' := s.toks) (fun _ _ => PyProof.Rows.sortedAll_old) (Nat.le_succ _) ⟨hl2, out, ep, k1, he'⟩, rfl, q _ _ (I.hok.fresh (Nat.le_succ _)) k2⟩
end Lk

/-! ## D51 -/
set_option Elab.async false
set_option linter.all false
set_option maxRecDepth 100000
set_option maxHeartbeats 4000000
namespace Lk
open PySem PySem.Spec PyProof.Rows L2 Gx
variable [Own]
/-- all rings of a web, in sequence -/
def ringsOf (W : Web) : List (List Int) := sortT (ringsRaw W.looks)
/-- few enough looks, folk to have rings counted -/
structure Web.Few (W : Web) : Prop where
  most : W.looks.length ≤ 14
  six : ∀ l ∈ W.looks, 0 ≤ l.2.1 ∧ l.2.1 < (6 : Int)
theorem Web.Ok.fewL {W : Web} (ok : W.Ok) : W.Few := ⟨ok.most, fun l hl => by
  have h := (ok.look l hl).2.1
  have := ok.few
  omega⟩
def spAllRings : Sp := fun vs H Q _ => ∃ (v : V) (W : Web), vs = [v] ∧ WebAt H v W ∧ W.Few ∧ ∀ H' q, Ext H H' → H q = none → TT2 H' (.ref q) (ringsOf W) → Q (.ref q) H'
theorem tru_list {K : PySem.W.Frag} {H : Hp} {a : Addr} {xs : List V} (h : H a = some (.lst xs)) : TruV K (.ref a) H (!xs.isEmpty) := .inl ⟨xs, SqL.of h, rfl⟩
theorem longer_fm (ls : List Look3) (row : List Int) : ((nums (row.headD 0 + 1) ls.length).filterMap fun n => if (!closesP ls row && goesOnP ls row n) = true then some (row ++ [n]) else none) = longer ls row := by
  unfold longer
  cases closesP ls row with
  | true =>
    rw [if_pos rfl]
    generalize nums (row.headD 0 + 1) ls.length = l
    induction l with
    | nil => rfl
    | cons x l ih =>
      rw [List.filterMap_cons, ih]
      rfl
  | false =>
    rw [if_neg (by decide)]
    generalize nums (row.headD 0 + 1) ls.length = l
    induction l with
    | nil => rfl
    | cons x l ih =>
      rw [List.filterMap_cons, ih, List.filter_cons]
      cases goesOnP ls row x <;> rfl
theorem flatMap_take_le {α β : Type} (f : α → List β) (l : List α) (n : Nat) : ((l.take n).flatMap f).length ≤ (l.flatMap f).length := by
  have e : l.flatMap f = (l.take n).flatMap f ++ (l.drop n).flatMap f := by rw [← List.flatMap_append, List.take_append_drop]
  rw [e, List.length_append]
  omega
/-- row + (n,) -/
theorem cat_one {H : Hp} {z u : Addr} {row : List Int} {n : Int} {Q : VK} (hz : H z = some (.tup (iv row))) (hu : H u = none) (hl : row.length ≤ 100) (k : ∀ H7 y, Ext H H7 → TI H7 y (row ++ [n]) → Q y H7) :
    rCatT (.ref z) (.ref u) (upd H u (.tup [.int n])) Q := by
  have hzu : z ≠ u := ne_of_none hz hu
  refine ⟨z, u, iv row, _, rfl, rfl, by rw [upd_ne hzu]; exact hz, upd_same, by rw [iv_len]; show row.length + 1 ≤ sizeLine; exact Nat.le_of_lt (small1000 (by omega)), fun e0 => ?_, (fun _ e0 => by cases e0), fun e0 _ v hv => ?_⟩
  · refine k _ _ (Ext.new hu _) ⟨u, rfl, ?_⟩
    have r0 : row = [] := by
      cases row with
      | nil => rfl
      | cons a b => cases e0
    rw [upd_same, r0]
    rfl
  · refine k _ _ ((Ext.new hu _).trans (Ext.new hv _)) ⟨v, rfl, ?_⟩
    rw [upd_same]
    show some (HO.tup (iv row ++ [V.int n])) = _
    unfold iv
    rw [List.map_append]
    rfl
section
variable {P : Program} {w : World} {K : PySem.W.Frag} {mg : Str → Option Value} {base : Heap} {Ps : List Addr}
end
end Lk


/-! ## RevT -/
set_option Elab.async false
set_option linter.all false
set_option maxRecDepth 100000
set_option maxHeartbeats 2000000
namespace HT
open PySem PySem.Calls PyProof.Rows PySem.Spec
theorem adjust_rev (n : Nat) : Builtin.Slice.sliceAdjust none none (-1) (n : Int) = ((n : Int) - 1, -1) := by
  unfold Builtin.Slice.sliceAdjust
  have h1 : ((-1 : Int) < 0) := by omega
  simp only [h1, if_true]
theorem places_rev (n : Nat) : Builtin.Slice.slicePlaces ((n : Int) - 1) (-1) (-1) = n := by
  unfold Builtin.Slice.slicePlaces
  have h1 : ¬ ((-1 : Int) > 0) := by omega
  have h2 : (- (-1 : Int)) = 1 := by decide
  simp only [h1, if_false, h2, Int.ediv_one]
  split <;> omega
theorem fm_some {α β : Type} {f : α → Option β} {g : α → β} : ∀ {l : List α}, (∀ m ∈ l, f m = some (g m)) → l.filterMap f = l.map g
  | [], _ => rfl
  | x :: l, h => by
    rw [List.filterMap_cons, h x (List.mem_cons_self ..), List.map_cons, fm_some fun m hm => h m (List.mem_cons_of_mem _ hm)]
theorem pick_rev (xs : Array Value) : ((List.range xs.size).filterMap fun (m : Nat) => xs[(((xs.size : Int) - 1) + (m : Int) * (-1)).toNat]?).toArray = xs.toList.reverse.toArray := by
  congr 1
  apply List.ext_getElem?
  intro i
  have e : ((List.range xs.size).filterMap fun (m : Nat) => xs[(((xs.size : Int) - 1) + (m : Int) * (-1)).toNat]?) = (List.range xs.size).map fun (m : Nat) => xs.getD (xs.size - 1 - m) Value.none := by
    refine fm_some fun m hm => ?_
    have hm := List.mem_range.mp hm
    have e1 : (((xs.size : Int) - 1) + (m : Int) * (-1)).toNat = xs.size - 1 - m := by omega
    rw [e1]
    have hlt : xs.size - 1 - m < xs.size := by omega
    simp [Array.getD, hlt]
  rw [e, List.getElem?_map]
  by_cases hi : i < xs.size
  · have hlt : xs.size - 1 - i < xs.size := by omega
    rw [List.getElem?_range hi, List.getElem?_reverse (by rw [Array.length_toList]; exact hi), Array.length_toList]
    simp [Array.getD, hlt]
  · rw [List.getElem?_eq_none (by rw [List.length_range]; omega), List.getElem?_eq_none (by rw [List.length_reverse, Array.length_toList]; omega)]
    rfl
section
variable {prog : Program} {w : World} {A : Around} {E : Value → Shared → Prop} {s : Shared}
theorem sliceApplied_rev {sl : Addr} {t : Tok} {n : Nat} {Q : Int × Int × Nat → Shared → Prop} (hs : s.heap.IsSliceOf sl .none .none (.int (-1) t))
    (h : Q ((n : Int) - 1, -1, n) s) : wpAny (model prog w) A (Builtin.Slice.sliceApplied (.ref sl) (pure (n : Int))) Q E s := by
  obtain ⟨os, hos, hcs, hds⟩ := id hs
  unfold Builtin.Slice.sliceApplied Builtin.Slice.sliceFields
  refine wpAny_bind (wpAny_bind (wpAny_field hos hds (x := .none) rfl (wpAny_bind (wpAny_field hos hds (x := .none) rfl (wpAny_bind (wpAny_field hos hds (x := .int (-1) t) rfl (wpAny_pure ?_)))))))
  refine wpAny_bind (slicePart_int ?_)
  show wpAny _ _ (if ((-1 : Int) == 0) = true then _ else _) _ _ s
  rw [if_neg (by decide)]
  refine wpAny_bind (slicePart_none (wpAny_bind (slicePart_none (wpAny_bind (wpAny_pure ?_)))))
  show wpAny _ _ (match Builtin.Slice.sliceAdjust none none (-1) (n : Int) with | (lo, hi) => pure (lo, (-1 : Int), Builtin.Slice.slicePlaces lo hi (-1))) _ _ s
  rw [adjust_rev n]
  show wpAny _ _ (pure ((n : Int) - 1, (-1 : Int), Builtin.Slice.slicePlaces ((n : Int) - 1) (-1) (-1))) _ _ s
  rw [places_rev]
  exact wpAny_pure h
theorem getItem_tuple_rev {t sl : Addr} {items : Array Value} {tk : Tok} {Q : Value → Shared → Prop} (ht : IsTup s.heap t items) (hs : s.heap.IsSliceOf sl .none .none (.int (-1) tk))
    (h : Q (.ref s.heap.objs.size) { s with heap := s.heap.push { cls := .type "tuple", data := .seq items.toList.reverse.toArray } })
    (hsz : items.size ≤ sizeLine) : wpAny (model prog w) A (getItem (.ref t) (.ref sl)) Q E s := by
  have htake : sizeOk (.seq items.toList.reverse.toArray) := by
    show items.toList.reverse.toArray.size ≤ sizeLine
    rw [List.size_toArray, List.length_reverse, Array.length_toList]
    omega
  obtain ⟨os, hos, hcs, hds⟩ := id hs
  have hTs : s.TypeIs (.ref sl) "slice" := ⟨os, hos, hcs⟩
  unfold getItem
  try with_reducible refine wpAny_holding ?_
  first | refine wpAny_bind (wpAny_pure ?_) | skip
  refine wpAny_bind (wpAny_sequenceKey ht.typeIs (by decide) ?_)
  refine wpAny_bind (wpAny_callSpecial?_slot (name := Str.ofString "__getitem__") ht.typeIs PyProof.Rows.slot_tuple_getitem
    (wpAny_call_entry PyProof.Rows.slot_tuple_getitem ht.typeIs entry_tuple_getitem ?_ (args_tuple_getitem _ _)))
  show wpAny _ _ (Builtin.Tuple.tupleItemsOf (.ref t) >>= _) _ _ s
  refine wpAny_bind (tupleItemsOf_ ht ?_)
  refine wpAny_bind (wpAny_typeOf hTs ?_)
  rw [if_pos (by decide)]
  refine wpAny_bind (sliceApplied_rev hs ?_)
  have hno : ¬ ((((items.size : Int) - 1) == 0 && (-1 : Int) == 1 && items.size == items.size) = true) := by
    intro q
    rw [Bool.and_eq_true, Bool.and_eq_true] at q
    exact absurd q.1.2 (by decide)
  show wpAny _ _ (if (((items.size : Int) - 1) == 0 && (-1 : Int) == 1 && items.size == items.size) = true then _ else _) _ _ s
  rw [if_neg hno, pick_rev]
  first
    | exact wpAny_bind (m := Builtin.Tuple.tupleExact _) (wpAny_newObj_type (wpAny_pure ⟨_, rfl, wpAny_pure h⟩) htake)
    | exact wpAny_bind (m := Builtin.Tuple.tupleExact _) (wpAny_newObj_type (wpAny_bind (wpAny_pure (wpAny_pure ⟨_, rfl, wpAny_pure h⟩))) htake)
    | exact wpAny_bind (wpAny_bind (m := Builtin.Tuple.tupleExact _) (wpAny_newObj_type (wpAny_pure (wpAny_pure ⟨_, rfl, wpAny_pure h⟩)) htake))
    | exact wpAny_bind (wpAny_bind (m := Builtin.Tuple.tupleExact _) (wpAny_newObj_type (wpAny_pure ⟨_, rfl, wpAny_pure h⟩) htake))
end
end HT
namespace Lk
open PySem PySem.Spec PyProof.Rows L2 Gx
variable [Own]
/-- t[::-1] of a tuple -/
def tRevT (te : TE) : TE := fun σ H Q => te σ H fun x H1 => ∃ a xs, x = .ref a ∧ H1 a = some (.tup xs) ∧ ∀ p, H1 p = none → Q (.ref p) (upd H1 p (.tup xs.reverse))
section
variable {X : Cx}
theorem pe_revT {e : Expr} {te : TE} {k : Nat} {p1 p2 p3 pos : Pos} (he : PE X e te) : PE X (.Subscript e (.Slice none none (some (.UnaryOp .USub (.Constant (.int 1) k p1) p2)) p3) pos) (tRevT te) := by
  refine ⟨fun pins s σ H Q I h => ?_⟩
  refine Subscript_ (thn (he.run pins s σ H _ I h) fun v s1 ⟨x, H1, I1, r1, q1⟩ => ?_)
  obtain ⟨a, xs, ex, hx, q⟩ := q1
  subst ex
  cases r1
  have hst : PO X (some (.UnaryOp .USub (.Constant (.int 1) k p1) p2)) (tPart (tUn (rU fun i => .int (-i)) (tC (.int 1)))) := po_some (pe_un un_neg pe_int)
  refine wpAny_Slice (thn (po_none.run pins s1 σ H1 (fun o H2 => o = none ∧ H2 = H1) I1 ⟨rfl, rfl⟩) fun vl s2 ⟨l, H2, I2, pl, el, e2⟩ => ?_)
  subst el e2
  refine thn (po_none.run pins s2 σ H2 (fun o H3 => o = none ∧ H3 = H2) I2 ⟨rfl, rfl⟩) fun vu s3 ⟨u, H3, I3, pu, eu, e3⟩ => ?_
  subst eu e3
  refine thn (hst.run pins s3 σ H3 (fun o H4 => o = some (-1) ∧ H4 = H3) I3 ⟨1, rfl, -1, rfl, rfl, rfl⟩) fun vs s4 ⟨o, H4, I4, ps, eo, e4⟩ => ?_
  subst eo e4
  have I5 : Inv X pins σ H4 { s4 with heap := s4.heap.push { cls := .type "slice", data := .fields #[vl, vu, vs] } } := I4.kept (t' := s4.toks) fun b ob q => Heap.get?_push_of_some _ q
  obtain ⟨its, r, ht, hz⟩ := I5.tuple (SqT.of hx)
  have hlen := r.length
  show wpAny (model X.prog X.w) X.A (subscriptTail e (.Slice none none (some (.UnaryOp .USub (.Constant (.int 1) k p1) p2)) p3) (.ref a) (.ref s4.heap.objs.size)) (EP X pins σ Q) X.xe { s4 with heap := s4.heap.push { cls := .type "slice", data := .fields #[vl, vu, vs] } }
  refine tail_any (ops := [.ref a, .ref s4.heap.objs.size]) ht.typeIs (PySem.F.slot_tuple_getitem.lookup) ?_ (by with_unfolding_all rfl)
  cases pl
  cases pu
  cases ps with
  | int i t =>
    refine HT.getItem_tuple_rev ht (Heap.IsSliceOf.new _ .none .none _) ?_ (by rw [List.size_toArray]; omega)
    refine ⟨.ref _, _, I5.laid (t' := s4.toks) (o := .tup xs.reverse) (fun b ob q => Heap.get?_push_of_some _ q) (Nat.le_refl _) ?_, rfl, q _ (I5.hok.fresh (Nat.le_refl _))⟩
    exact ⟨by rw [List.length_reverse]; exact hz, _, r.reverse, _, Heap.get?_push_size _ rfl, rfl, 0, rfl⟩
/-- value in rows, rows a tuple or a list of tuples of ints -/
def rInTT : R2 := fun x y H Q => ∃ (a : List Int) (b : List (List Int)), TI H x a ∧ TT2 H y b ∧ Q (.bl (decide (a ∈ b))) H
theorem op_inTT (hu : X.A.units + 65 < cLine) : OpR X (compareOp .In) rInTT := by
  intro pins s σ H x y v u Q I rx ry h
  obtain ⟨a, b, h1, h2, q⟩ := h
  obtain ⟨as, r1⟩ := Dp.reads I _ x v h1.dp rx
  obtain ⟨bs, r2⟩ := Dp.reads I _ y u h2.dp ry
  have sd := shaped_t a
  refine SeqAt.in_tuple_reads r2 r1 (canLay_rows b) (SeqAt.canLay_of_shaped sd) ?_ ⟨.bl _, H, I, rfl, by rw [any_rows]; exact q⟩
  have := depth_rows b
  omega
def rNotInTI : R2 := fun x y H Q => ∃ (a : List Int) (b : List (List Int)), TI H x a ∧ LT2 H y b ∧ Q (.bl (!decide (a ∈ b))) H
theorem op_notInTI (hu : X.A.units + 65 < cLine) : OpR X (compareOp .NotIn) rNotInTI := by
  intro pins s σ H x y v u Q I rx ry h
  obtain ⟨a, b, h1, h2, q⟩ := h
  exact op_notInD hu pins s σ H x y v u Q I rx ry ⟨_, _, h1.dp, h2.dp, shaped_t a, shaped_l b, by rw [any_rows]; exact q⟩
def rEqLT2 : R2 := fun x y H Q => ∃ a b : List (List Int), LT2 H x a ∧ LT2 H y b ∧ Q (.bl (decide (a = b))) H
theorem op_eqLT2 (hu : X.A.units + 64 < cLine) : OpR X (compareOp .Eq) rEqLT2 := by
  intro pins s σ H x y v u Q I rx ry h
  obtain ⟨a, b, h1, h2, q⟩ := h
  exact op_eqD hu pins s σ H x y v u Q I rx ry ⟨_, _, h1.dp, h2.dp, shaped_l a, shaped_l b, by rw [eqv_ll]; exact q⟩
end
end Lk

/-! ## D52 -/
set_option Elab.async false
set_option linter.all false
set_option maxRecDepth 100000
set_option maxHeartbeats 4000000
namespace Lk
open PySem PySem.Spec PyProof.Rows L2 Gx
open GxR (TabG Tabbed TabB)
variable [Own]
theorem un1 {k : Nat} {A : Around} (h : Room k A) : A.units + 65 < cLine := by
  have := h.un
  omega
/-- any value, an int or not -/
def spIsWholeG : Sp := fun vs H Q _ => ∃ (x : V) (lo hi : Int), vs = [x, .int lo, .int hi] ∧ ((∃ i, x = .int i ∧ Q (.bl (isWhole i lo hi)) H) ∨ (((∃ b, x = .bl b) ∨ x = .non) ∧ Q (.bl false) H))
/-- values that are no tuples -/
inductive Odd (H : Hp) : V → Prop where
  | non : Odd H .non
  | bl (b : Bool) : Odd H (.bl b)
  | int (i : Int) : Odd H (.int i)
  | str (s : Str) : Odd H (.str s)
  | lst {a : Addr} {xs : List V} (h : H a = some (.lst xs)) : Odd H (.ref a)
  | dT {a : Addr} {kvs : List (List Key × V)} (h : H a = some (.dT kvs)) : Odd H (.ref a)
theorem Odd.ext {H H' : Hp} {x : V} (e : Ext H H') (o : Odd H x) : Odd H' x := by
  cases o with
  | non => exact .non
  | bl b => exact .bl b
  | int i => exact .int i
  | str s => exact .str s
  | lst h => exact .lst (e.lst h)
  | dT h => exact .dT (e.keep _ _ h rfl)
theorem Odd.ty {K : PySem.W.Frag} {H : Hp} {x : V} (o : Odd H x) : ∃ T, TyX K H x (.type T) ∧ kitB T "tuple" = some false := by
  cases o with
  | non => exact ⟨_, .base .non, by decide +kernel⟩
  | bl b => exact ⟨_, .base (.bl b), by decide +kernel⟩
  | int i => exact ⟨_, .base (.int i), by decide +kernel⟩
  | str s => exact ⟨_, .base (.str s), by decide +kernel⟩
  | lst h => exact ⟨_, .base (.lst h), by decide +kernel⟩
  | dT h => exact ⟨_, .base (.dT h), by decide +kernel⟩
/-- what may be asked whether it is a ring: a tuple of ints, a tuple of one other thing, no tuple -/
def NoRing (H : Hp) (x : V) : Prop := Odd H x ∨ ∃ a y, x = .ref a ∧ H a = some (.tup [y]) ∧ (y = .non ∨ ∃ b, y = .bl b)
theorem NoRing.ext {H H' : Hp} {x : V} (e : Ext H H') (h : NoRing H x) : NoRing H' x := by
  rcases h with h | ⟨a, y, e1, h, hy⟩
  · exact .inl (h.ext e)
  · exact .inr ⟨a, y, e1, e.tup h, hy⟩
/-- the even ones (b = true), the odd ones -/
def kindOf (W : Web) (b : Bool) : List (List Int) := (ringsOf W).filter fun p => evenP W.looks p == b
def spKind (b : Bool) : Sp := fun vs H Q _ => ∃ (v : V) (W : Web), vs = [v] ∧ WebAt H v W ∧ W.Few ∧ ∀ H' p us, Ext H H' → H p = none → H' p = some (.lst us) → Paired (TI H') us (kindOf W b) → Q (.ref p) H'
def spIsRing (Ps : List Addr) : Sp := fun vs H Q _ => ∃ (v x : V) (W : Web), vs = [v, x] ∧ WebAt H v W ∧ W.Few ∧ Tabs Ps H ∧ ((∃ ring, TI H x ring ∧ ring.length ≤ 100 ∧ ∀ H', Ext H H' → Q (.bl (decide (ring ∈ ringsOf W))) H') ∨ (NoRing H x ∧ ∀ H', Ext H H' → Q (.bl false) H'))
theorem ring_ok {W : Web} {p : List Int} (h : p ∈ ringsOf W) : PathOk W.looks p ∧ closesP W.looks p = true ∧ p.length ≤ 7 := raw_ok (sortT_mem.mp h)
theorem rings_len {W : Web} (fw : W.Few) : (ringsOf W).length ≤ 8108730 := by
  unfold ringsOf
  rw [sortT_len]
  exact found_small fw.most fw.six 7
section
variable {P : Program} {w : World} {K : PySem.W.Frag} {mg : Str → Option Value} {base : Heap} {Ps : List Addr}
theorem ok_is_wholeG {f : Addr} {fd : FuncData} (F : Fun K "is_whole" "is_whole" sIsWhole f fd) (B : Blt mg) : FnOk P w K mg base CX0 1 f fd ["value", "least", "most"] spIsWholeG := by
  refine F.ok scIsWhole (fun vs H Q E h => ?_) (fun cdv A outer s H vs Q E hr h => ?_)
  · obtain ⟨i, lo, hi, rfl, _⟩ := h
    rfl
  · obtain ⟨x, lo, hi, rfl, h⟩ := h
    refine ⟨_, pss_one (ps_ret (pe_and (pe_callB call_isi (by rfl) B.isi boot_isinstance (pa_cons (pv 0) (pa_cons (pe_bltn (v := .ty "int") (by rfl) B.int boot_tyInt rfl) pa_nil)))
      (pe_and (pe_not (pe_callB call_isi (by rfl) B.isi boot_isinstance (pa_cons (pv 0) (pa_cons (pe_bltn (v := .ty "bool") (by rfl) B.bool boot_tyBool rfl) pa_nil))))
      (pe_one (pe_chain op_le op_le (pv 1) (pv 0) (pv 2)))))), ?_⟩
    rcases h with ⟨i, rfl, k⟩ | ⟨⟨b, rfl⟩ | rfl, k⟩
    · refine ⟨_, rfl, _, _, _, _, true, rfl, .ty "int", isi_int i, kit_ty (by decide +kernel), _, rfl, iteT ?_⟩
      refine ⟨_, rfl, _, _, _, _, false, rfl, .ty "bool", isi_int i, kit_ty (by decide +kernel), _, rfl, _, rfl, iteT ?_⟩
      refine ⟨_, rfl, _, rfl, _, _, rfl, rfl, _, rfl, ?_⟩
      unfold isWhole at k
      by_cases h : lo ≤ i
      · rw [decide_eq_true h, Bool.true_and] at k
        rw [decide_eq_true h]
        refine iteT ?_
        refine ⟨_, rfl, _, _, rfl, rfl, ?_⟩
        exact k
      · rw [decide_eq_false h, Bool.false_and] at k
        rw [decide_eq_false h]
        exact iteF k
    · refine ⟨_, rfl, _, _, _, _, true, rfl, .ty "int", .base (.bl b), kit_ty (by decide +kernel), _, rfl, iteT ?_⟩
      refine ⟨_, rfl, _, _, _, _, true, rfl, .ty "bool", .base (.bl b), kit_ty (by decide +kernel), _, rfl, _, rfl, iteF ?_⟩
      exact k
    · refine ⟨_, rfl, _, _, _, _, false, rfl, .ty "int", .base .non, kit_ty (by decide +kernel), _, rfl, iteF ?_⟩
      exact k
end
end Lk


/-! ## Dq -/
set_option Elab.async false
set_option linter.all false
set_option maxRecDepth 100000
set_option maxHeartbeats 1000000
/-! Values of any depth, read off the heap: what may stand in the place of a web, of rules, of a state. -/
namespace Lk
open PySem PySem.Spec PyProof.Rows L2 Gx
variable [Own]
mutual
/-- the value as data: what is tracked alone -/
inductive Dq (H : Hp) : V → PyData → Prop
  | non : Dq H .non .none
  | bl (b : Bool) : Dq H (.bl b) (.bool b)
  | int (i : Int) : Dq H (.int i) (.int i)
  | str (x : Str) : Dq H (.str x) (.str x)
  | lst {a : Addr} {xs : List V} {ds : List PyData} : H a = some (.lst xs) → DqAll H xs ds → Dq H (.ref a) (.list ds)
  | tup {a : Addr} {xs : List V} {ds : List PyData} : H a = some (.tup xs) → DqAll H xs ds → Dq H (.ref a) (.tuple ds)
inductive DqAll (H : Hp) : List V → List PyData → Prop
  | nil : DqAll H [] []
  | cons {v : V} {vs : List V} {d : PyData} {ds : List PyData} : Dq H v d → DqAll H vs ds → DqAll H (v :: vs) (d :: ds)
end
mutual
theorem Dq.ext {H H' : Hp} (e : Ext H H') : ∀ {d : PyData} {v : V}, Dq H v d → Dq H' v d
  | _, _, .non => .non
  | _, _, .bl b => .bl b
  | _, _, .int i => .int i
  | _, _, .str x => .str x
  | _, _, .lst h t => .lst (e.lst h) (DqAll.ext e t)
  | _, _, .tup h t => .tup (e.tup h) (DqAll.ext e t)
theorem DqAll.ext {H H' : Hp} (e : Ext H H') : ∀ {ds : List PyData} {vs : List V}, DqAll H vs ds → DqAll H' vs ds
  | _, _, .nil => .nil
  | _, _, .cons h t => .cons (Dq.ext e h) (DqAll.ext e t)
end
theorem DqAll.len {H : Hp} : ∀ {vs : List V} {ds : List PyData}, DqAll H vs ds → vs.length = ds.length
  | _, _, .nil => rfl
  | _, _, .cons _ t => congrArg (· + 1) (DqAll.len t)
theorem DqAll.get {H : Hp} : ∀ (vs : List V) (ds : List PyData) (i : Nat) (v : V), DqAll H vs ds → vs[i]? = some v → ∃ d, ds[i]? = some d ∧ Dq H v d
  | [], _, _, _, _, h => by simp at h
  | _ :: _, _, 0, _, .cons h t, e => by cases e; exact ⟨_, rfl, h⟩
  | _ :: vs, _ :: ds, i + 1, v, .cons h t, e => DqAll.get vs ds i v t e
/-- an int in its bounds, no truth value -/
def isW (d : PyData) (lo hi : Int) : Bool :=
  match d with
  | .int i => isWhole i lo hi
  | _ => false
/-- no tuple -/
def noTup : PyData → Bool
  | .tuple _ => false
  | _ => true
theorem Dq.ty {K : PySem.W.Frag} {H : Hp} {v : V} {d : PyData} (h : Dq H v d) : ∃ T, TyX K H v (.type T) ∧ kitB T "tuple" = some (!noTup d) := by
  cases h with
  | non => exact ⟨"NoneType", .base .non, show kitB "NoneType" "tuple" = some false by decide +kernel⟩
  | bl b => exact ⟨"bool", .base (.bl b), show kitB "bool" "tuple" = some false by decide +kernel⟩
  | int i => exact ⟨"int", .base (.int i), show kitB "int" "tuple" = some false by decide +kernel⟩
  | str x => exact ⟨"str", .base (.str x), show kitB "str" "tuple" = some false by decide +kernel⟩
  | lst h t => exact ⟨"list", .base (.lst h), show kitB "list" "tuple" = some false by decide +kernel⟩
  | tup h t => exact ⟨"tuple", .base (.tup h), show kitB "tuple" "tuple" = some true by decide +kernel⟩
theorem Dq.tyInt {K : PySem.W.Frag} {H : Hp} {v : V} {d : PyData} (h : Dq H v d) : ∃ T r1 r2, TyX K H v (.type T) ∧ kitB T "int" = some r1 ∧ kitB T "bool" = some r2 ∧ ((∃ i, v = .int i ∧ d = .int i ∧ r1 = true ∧ r2 = false) ∨ ((∀ lo hi, isW d lo hi = false) ∧ (r1 = false ∨ r1 = true ∧ r2 = true))) := by
  cases h with
  | non => exact ⟨"NoneType", false, false, .base .non, by decide +kernel, by decide +kernel, .inr ⟨fun _ _ => rfl, .inl rfl⟩⟩
  | bl b => exact ⟨"bool", true, true, .base (.bl b), by decide +kernel, by decide +kernel, .inr ⟨fun _ _ => rfl, .inr ⟨rfl, rfl⟩⟩⟩
  | int i => exact ⟨"int", true, false, .base (.int i), by decide +kernel, by decide +kernel, .inl ⟨i, rfl, rfl, rfl, rfl⟩⟩
  | str x => exact ⟨"str", false, false, .base (.str x), by decide +kernel, by decide +kernel, .inr ⟨fun _ _ => rfl, .inl rfl⟩⟩
  | lst h t => exact ⟨"list", false, false, .base (.lst h), by decide +kernel, by decide +kernel, .inr ⟨fun _ _ => rfl, .inl rfl⟩⟩
  | tup h t => exact ⟨"tuple", false, false, .base (.tup h), by decide +kernel, by decide +kernel, .inr ⟨fun _ _ => rfl, .inl rfl⟩⟩
theorem Dq.tupOf {H : Hp} {v : V} {d : PyData} (h : Dq H v d) (n : noTup d = false) : ∃ a xs ds, v = .ref a ∧ d = .tuple ds ∧ H a = some (.tup xs) ∧ DqAll H xs ds := by
  cases h with
  | tup h t => exact ⟨_, _, _, rfl, rfl, h, t⟩
  | _ => cases n
/-- a row of ints as data -/
theorem Dq.ofTI {H : Hp} {v : V} {r : List Int} (h : TI H v r) : Dq H v (.tuple (r.map .int)) := by
  obtain ⟨a, rfl, ha⟩ := h
  refine .tup ha ?_
  clear ha
  induction r with
  | nil => exact .nil
  | cons x r ih => exact .cons (.int x) ih
theorem DqAll.ints {H : Hp} : ∀ {vs : List V} {ds : List PyData}, DqAll H vs ds → (∀ d ∈ ds, ∃ i, d = .int i) → ∃ r : List Int, vs = iv r ∧ ds = r.map .int
  | _, _, .nil, _ => ⟨[], rfl, rfl⟩
  | _, _, .cons h t, n => by
    obtain ⟨r, rfl, rfl⟩ := DqAll.ints t fun d hd => n d (List.mem_cons_of_mem _ hd)
    obtain ⟨i, rfl⟩ := n _ (List.mem_cons_self ..)
    cases h
    exact ⟨i :: r, rfl, rfl⟩
end Lk

/-! ## D08 -/
set_option Elab.async false
set_option linter.all false
set_option maxRecDepth 100000
set_option maxHeartbeats 2000000
namespace Lk
open PySem PySem.Spec PyProof.Rows L2 Gx
open GxR (TabG Tabbed TabB)
variable [Own]
/-- the places ahead of which a neighbour stands, n of them in all -/
def placesOf (n s z : Nat) : List Nat := (List.range n).filter fun p => decide (p / s % z < z - 1)
def goesAlong (tb : List Int) (s z : Nat) (sg : Int) : Bool := (placesOf tb.length s z).all fun p => decide (0 ≤ (tb.getD (p + s) 0 - tb.getD p 0) * sg)
abbrev s_goes_along : Stmt := top 33
theorem sc_goes_along : FnScope ["table", "step", "size", "sign", "place", "places"] ["table", "step", "size", "sign"] (defScope s_goes_along) := ⟨rfl, rfl, rfl, by decide +kernel, rfl, by decide +kernel, by decide +kernel⟩
def spGoesAlong (Ps : List Addr) : Sp := fun vs H Q _ => ∃ (v : V) (tb : List Int) (s z : Nat) (sg : Int), vs = [v, .int s, .int z, .int sg] ∧ TI H v tb ∧ (0 < s ∧ s < 1000000) ∧ (0 < z ∧ z < 1000000) ∧ (sg = 1 ∨ sg = -1) ∧ tb.length ≤ 1000000 ∧ (∀ p ∈ placesOf tb.length s z, p + s < tb.length) ∧ Tabs Ps H ∧ ∀ H', Ext H H' → Q (.bl (goesAlong tb s z sg)) H'
section
variable {P : Program} {w : World} {K : PySem.W.Frag} {mg : Str → Option Value} {base : Heap} {Ps : List Addr}
theorem getD_get {l : List Int} {i : Nat} (h : i < l.length) : l[i]? = some (l.getD i 0) := by rw [List.getD_eq_getElem?_getD, List.getElem?_eq_getElem h]; rfl
theorem filter_take {α : Type} {f : α → Bool} {l : List α} {i : Nat} {x : α} (h : l[i]? = some x) : (l.take (i + 1)).filter f = (l.take i).filter f ++ (if f x = true then [x] else []) := by
  rw [List.take_add_one, h, List.filter_append]
  show _ ++ List.filter f [x] = _
  rw [List.filter_cons]
  by_cases hf : f x = true <;> simp [hf]
theorem ok_goes_along {f T : Addr} {fd : FuncData} (F : FunT K mg base Ps "goes_along" s_goes_along f fd T) (B : Blt mg) : FnOk P w K mg base CX0 2 f fd ["table", "step", "size", "sign"] (spGoesAlong Ps) := by
  refine F.ok sc_goes_along (fun vs H Q E h => ?_) (fun c A outer s0 H vs Q E TB hr h => ?_)
  · obtain ⟨v, tb, s, z, sg, rfl, _⟩ := h
    rfl
  · obtain ⟨v, tb, s, z, sg, rfl, ⟨a, rfl, ha⟩, hs, hz, hsg, hlen, hpl, hTb, k⟩ := h
    refine ⟨_, (pss_cons (ps_setLc (i := 5) (own := [("place", 4)]) rfl sc_goes_along.nd rfl rfl (sw_true rfl rfl rfl (by decide +kernel)) (pi_range1 (by rfl) B.range (pa_cons (pe_callB call_lenT (by rfl) B.len PySem.boot_len (pa_cons (pv 0) pa_nil)) pa_nil)) (blkOk_by (N := ["table", "step", "size", "sign", "place", "places"]) (sc := defScope s_goes_along) (by decide +kernel)) (fun _ _ _ _ _ => (pg_name (i := 4) sc_goes_along.nd rfl (by first | exact Or.inl rfl | exact Or.inr rfl))) (fun _ _ _ _ _ => (pts_one (pt_cmpR op_lt (pe_op op_mod (pe_op op_fdiv (pv 4) (pv 1)) (pv 2)) (pe_op op_sub (pv 2) pe_int) (nomark _)))) (fun _ _ _ _ _ => (pv 4)))
      (pss_one (ps_ret (pe_allG (own := [("place", 4)]) (k := 0) (hr.mono (by decide)) rfl sc_goes_along.nd (by rfl) B.all TB rfl (pi_list (pv 5)) ⟨(blkOk_by (N := ["table", "step", "size", "sign", "place", "places"]) (sc := defScope s_goes_along) (by decide +kernel)), noCells_ok (by decide +kernel), rfl, rfl⟩ (fun _ _ _ _ _ _ => (pg_name (i := 4) sc_goes_along.nd rfl (by first | exact Or.inl rfl | exact Or.inr rfl))) (fun _ _ _ _ _ _ hr' => pts_nil) (fun _ _ _ _ _ _ hr' => (pe_cmpR op_ge (pe_op op_mul (pe_op op_sub (pe_ix ix_tT (pv 0) (pe_op op_add (pv 4) (pv 1)) (fun _ _ => rfl)) (pe_ix ix_tT (pv 0) (pv 4) (fun _ _ => rfl))) (pv 3)) pe_int (nomark _))))))), ?_⟩
    refine ⟨_, rfl, a, _, rfl, .inr ha, _, rfl, by omega, by rw [iv_len]; omega, fun D hD => ?_⟩
    have en : ((iv tb).length : Int).toNat = tb.length := by rw [iv_len]; omega
    rw [en]
    refine lc_range (lo := 0) (n := tb.length) (fun i H' => H' D = some (.lst ((((List.range tb.length).take i).filter fun p => decide (p / s % z < z - 1)).map fun p : Nat => V.int (p : Int))) ∧ Ext H H') ⟨upd_same, Ext.new hD _⟩ (fun i H' hi ⟨hL, e⟩ => ?_) fun H' ⟨hL, e⟩ => ?_
    · refine ⟨rfl, _, rfl, _, rfl, _, _, rfl, rfl, ⟨by omega, by omega⟩, _, rfl, _, _, rfl, rfl, by omega, _, rfl, _, _, rfl, rfl, _, _, rfl, rfl, _, rfl, ?_⟩
      have er : (List.range tb.length)[i]? = some i := by rw [List.getElem?_range hi]
      have ei : (0 : Int) + (i : Int) = (i : Int) := Int.zero_add _
      have ed : decide ((0 + (i : Int)) / (s : Int) % (z : Int) < (z : Int) - 1) = decide (i / s % z < z - 1) := by
        rw [ei]
        refine decide_eq_decide.mpr ?_
        have e1 : (i : Int) / (s : Int) % (z : Int) = ((i / s % z : Nat) : Int) := by norm_cast
        rw [e1]
        omega
      rw [ed, filter_take er]
      by_cases hc : i / s % z < z - 1
      · rw [decide_eq_true hc]
        refine iteT ⟨_, rfl, _, hL, ?_, ?_, e.put hD _⟩
        · rw [List.length_map]
          refine Nat.lt_of_le_of_lt (List.length_filter_le _ _) ?_
          rw [List.length_take, List.length_range]
          exact Nat.lt_of_lt_of_le (Nat.lt_of_le_of_lt (Nat.min_le_left _ _) (by omega : i < 1000001)) (by decide)
        · rw [upd_same, if_pos rfl, List.map_append, ei]
          rfl
      · rw [decide_eq_false hc]
        exact iteF ⟨by rw [hL]; simp, e⟩
    · have et : (List.range tb.length).take tb.length = List.range tb.length := List.take_of_length_le (by rw [List.length_range]; exact Nat.le_refl _)
      rw [et] at hL
      have hg : TabG H' T := e.tab T (hTb T F.mem)
      refine ⟨_, rfl, D, rfl, ⟨_, SqL.of hL⟩, hg, fun H2 hT2 => ?_⟩
      have E2 : Ext H' H2 := Ext.tabbed F.nown hg hT2
      have E3 := e.trans E2
      refine quant_it (walk_list (xs := (placesOf tb.length s z).map fun p : Nat => V.int (p : Int))) (fun i H' => H' = H2 ∧ ∀ p ∈ (placesOf tb.length s z).take i, decide (0 ≤ (tb.getD (p + s) 0 - tb.getD p 0) * sg) = true) ⟨rfl, by simp⟩ (fun i H' _ e => by rw [e.1]; exact SqL.of (E2.lst hL)) (fun i x H4 H5 hi e4 y => ?_) fun H4 e4 => ?_
      · obtain ⟨rfl, h4⟩ := e4
        obtain ⟨rfl, hx⟩ := y
        rw [List.getElem?_map] at hx
        cases e5 : (placesOf tb.length s z)[i]? with
        | none => rw [e5] at hx; cases hx
        | some p =>
          rw [e5] at hx
          obtain rfl := Option.some.inj hx
          have hp1 := hpl p (List.mem_of_getElem? e5)
          refine ⟨rfl, yes ?_⟩
          refine ⟨_, rfl, _, rfl, _, rfl, _, _, rfl, rfl, a, _, _, _, rfl, rfl, E3.tup ha, at_of (j := p + s) (by omega) (iv_at (getD_get hp1)), _, rfl, _, rfl, a, _, _, _, rfl, rfl, E3.tup ha, at_of (j := p) rfl (iv_at (getD_get (by omega))), _, _, rfl, rfl, _, rfl, _, _, rfl, rfl, .inr ⟨by omega, by omega⟩, _, _, rfl, rfl, ?_⟩
          by_cases hc : 0 ≤ (tb.getD (p + s) 0 - tb.getD p 0) * sg
          · refine ⟨true, congrArg V.bl (decide_eq_true hc), iteTF ⟨rfl, fun q hq => ?_⟩⟩
            rw [List.take_add_one, e5] at hq
            rcases List.mem_append.mp hq with hq | hq
            · exact h4 q hq
            · rw [List.mem_singleton.mp hq]
              exact decide_eq_true hc
          · refine ⟨false, congrArg V.bl (decide_eq_false hc), iteFF ?_⟩
            have e6 : goesAlong tb s z sg = false := by
              unfold goesAlong
              rw [Bool.eq_false_iff]
              intro hall
              have := List.all_eq_true.mp hall p (List.mem_of_getElem? e5)
              exact hc (of_decide_eq_true this)
            have hk := k _ E3
            rw [e6] at hk
            exact hk
      · obtain ⟨rfl, h4⟩ := e4
        rw [List.length_map, List.take_length] at h4
        have e6 : goesAlong tb s z sg = true := List.all_eq_true.mpr h4
        have hk := k _ E3
        rw [e6] at hk
        exact hk
end
end Lk


/-! ## D09 -/
set_option Elab.async false
set_option linter.all false
set_option maxRecDepth 100000
set_option maxHeartbeats 2000000
namespace Lk
open PySem PySem.Spec PyProof.Rows L2 Gx
open GxR (TabG Tabbed TabB)
variable [Own]
/-- the looks from the last: s, how far apart neighbours lie -/
def goLoop (W : Web) (tb : List Int) : List (Int × Int) → Nat → Bool
  | [], _ => true
  | l :: r, s => goesAlong tb s (topAt W l.1 + 1).toNat l.2 && goLoop W tb r (s * (topAt W l.1 + 1).toNat)
def isTable (W : Web) (f : Int) (tb : List Int) : Bool := decide ((tb.length : Int) = manyRows W f) && tb.all (fun m => isWhole m 0 (topAt W f)) && goLoop W tb (looksOf W f).reverse 1
abbrev s_ways_of : Stmt := top 32
theorem sc_ways_of : FnScope ["web", "folk", "tops", "_", "found", "step", "one", "sign"] ["web", "folk"] (defScope s_ways_of) := ⟨rfl, rfl, rfl, by decide +kernel, rfl, by decide +kernel, by decide +kernel⟩
abbrev s_is_table : Stmt := top 34
theorem sc_is_table : FnScope ["web", "folk", "value", "tops", "_", "mood", "step", "size", "sign"] ["web", "folk", "value"] (defScope s_is_table) := ⟨rfl, rfl, rfl, by decide +kernel, rfl, by decide +kernel, by decide +kernel⟩
def spIsTable (Ps : List Addr) : Sp := fun vs H Q _ => ∃ (v t : V) (W : Web) (f : Int) (tb : List Int), vs = [v, .int f, t] ∧ WebAt H v W ∧ W.Ok ∧ (0 ≤ f ∧ f < W.tops.length) ∧ TI H t tb ∧ tb.length ≤ 1000000 ∧ Tabs Ps H ∧ ∀ H', Ext H H' → Q (.bl (isTable W f tb)) H'
/-- the product of the sizes of looks -/
def prodOf (W : Web) (ls : List (Int × Int)) : Nat := ls.foldl (fun m l => m * (topAt W l.1 + 1).toNat) 1
theorem prod_mul (W : Web) : ∀ (ls : List (Int × Int)) (a : Nat), ls.foldl (fun m l => m * (topAt W l.1 + 1).toNat) a = a * prodOf W ls
  | [], a => by simp [prodOf]
  | l :: ls, a => by
    unfold prodOf
    rw [List.foldl_cons, List.foldl_cons, prod_mul W ls, prod_mul W ls (1 * _), Nat.one_mul, Nat.mul_assoc]
theorem prod_cons (W : Web) (l : Int × Int) (ls : List (Int × Int)) : prodOf W (l :: ls) = (topAt W l.1 + 1).toNat * prodOf W ls := by
  show List.foldl _ _ _ = _
  rw [List.foldl_cons, Nat.one_mul, prod_mul]
theorem prod_snoc (W : Web) (l : Int × Int) (ls : List (Int × Int)) : prodOf W (ls ++ [l]) = prodOf W ls * (topAt W l.1 + 1).toNat := by
  unfold prodOf
  rw [List.foldl_append]
  rfl
theorem prod_rev (W : Web) : ∀ ls : List (Int × Int), prodOf W ls.reverse = prodOf W ls
  | [] => rfl
  | l :: ls => by rw [List.reverse_cons, prod_snoc, prod_rev W ls, prod_cons, Nat.mul_comm]
theorem many_prod {W : Web} (ok : W.Ok) : ∀ (ls : List (Int × Int)) (a : Nat), (∀ l ∈ ls, 0 ≤ l.1 ∧ l.1 < W.tops.length) → ls.foldl (manyStep W) (a : Int) = ((a * prodOf W ls : Nat) : Int)
  | [], a, _ => by simp [prodOf]
  | l :: ls, a, h => by
    have hh := h l (List.mem_cons_self ..)
    have ht := topAt_ok ok hh.1 hh.2
    rw [List.foldl_cons]
    have e : manyStep W (a : Int) l = ((a * (topAt W l.1 + 1).toNat : Nat) : Int) := by
      unfold manyStep
      rw [Int.natCast_mul]
      congr 1
      omega
    rw [e, many_prod ok ls _ (fun x hx => h x (List.mem_cons_of_mem _ hx)), prod_cons, Nat.mul_assoc]
theorem many_eq {W : Web} (ok : W.Ok) (f : Int) : manyRows W f = ((prodOf W (looksOf W f) : Nat) : Int) := by
  have := many_prod ok (looksOf W f) 1 fun l hl => (looksOf_ok ok l hl).1
  rw [Nat.one_mul] at this
  exact this
theorem prod_pos {W : Web} (ok : W.Ok) : ∀ ls : List (Int × Int), (∀ l ∈ ls, 0 ≤ l.1 ∧ l.1 < W.tops.length) → 0 < prodOf W ls
  | [], _ => by simp [prodOf]
  | l :: ls, h => by
    have hh := h l (List.mem_cons_self ..)
    have ht := topAt_ok ok hh.1 hh.2
    rw [prod_cons]
    exact Nat.mul_pos (by omega) (prod_pos ok ls fun x hx => h x (List.mem_cons_of_mem _ hx))
/-- where a neighbour stands: within the table -/
theorem places_in {n s z r : Nat} (hs : 0 < s) (hz : 0 < z) (hn : n = s * z * r) : ∀ p ∈ placesOf n s z, p + s < n := by
  intro p hp
  unfold placesOf at hp
  obtain ⟨h1, h2⟩ := List.mem_filter.mp hp
  have h1 := List.mem_range.mp h1
  have h2 : p / s % z < z - 1 := of_decide_eq_true h2
  -- p = s * (z * b + d) + c
  have e1 : p = s * (p / s) + p % s := (Nat.div_add_mod p s).symm
  have e2 : p / s = z * (p / s / z) + p / s % z := (Nat.div_add_mod _ z).symm
  have c1 : p % s < s := Nat.mod_lt _ hs
  have b1 : p / s / z < r := by
    rw [Nat.div_div_eq_div_mul]
    exact Nat.div_lt_of_lt_mul (by rw [← hn]; exact h1)
  generalize p / s / z = b at e2 b1
  generalize p / s % z = d at e2 h2
  generalize p % s = c at e1 c1
  rw [e2] at e1
  rw [hn, e1]
  have h3 : z * b + d + 1 < z * (b + 1) := by rw [Nat.mul_add, Nat.mul_one]; omega
  have h4 : z * (b + 1) ≤ z * r := Nat.mul_le_mul_left _ b1
  have h5 : s * (z * b + d + 1 + 1) ≤ s * (z * r) := Nat.mul_le_mul_left _ (by omega)
  rw [← Nat.mul_assoc s z r] at h5
  rw [Nat.mul_add, Nat.mul_add, Nat.mul_one] at h5
  omega
section
variable {P : Program} {w : World} {K : PySem.W.Frag} {mg : Str → Option Value} {base : Heap} {Ps : List Addr}
theorem rev_paired {α β : Type} {R : α → β → Prop} : ∀ {l : List α} {m : List β}, Paired R l m → Paired R l.reverse m.reverse
  | _, _, .nil => .nil
  | _, _, .cons r t => by rw [List.reverse_cons, List.reverse_cons]; exact paired_snoc r (rev_paired t)
theorem goLoop_false {W : Web} {tb : List Int} : ∀ {ls : List (Int × Int)} {i : Nat} {l : Int × Int} {s : Nat}, ls[i]? = some l → goesAlong tb (s * prodOf W (ls.take i)) (topAt W l.1 + 1).toNat l.2 = false → goLoop W tb ls s = false
  | [], _, _, _, h, _ => by simp at h
  | k :: ls, 0, l, s, h, hg => by
    obtain rfl : k = l := by simpa using h
    unfold goLoop
    have : s * prodOf W (List.take 0 (k :: ls)) = s := by simp [prodOf]
    rw [this] at hg
    rw [hg, Bool.false_and]
  | k :: ls, i + 1, l, s, h, hg => by
    unfold goLoop
    rw [goLoop_false (ls := ls) (i := i) (l := l) (by simpa using h), Bool.and_false]
    rw [List.take_succ_cons, prod_cons, ← Nat.mul_assoc] at hg
    exact hg
theorem goLoop_true {W : Web} {tb : List Int} : ∀ {ls : List (Int × Int)} {s : Nat}, (∀ i l, ls[i]? = some l → goesAlong tb (s * prodOf W (ls.take i)) (topAt W l.1 + 1).toNat l.2 = true) → goLoop W tb ls s = true
  | [], _, _ => rfl
  | k :: ls, s, h => by
    unfold goLoop
    have h0 := h 0 k rfl
    have : s * prodOf W (List.take 0 (k :: ls)) = s := by simp [prodOf]
    rw [this] at h0
    rw [h0, Bool.true_and]
    refine goLoop_true fun i l hl => ?_
    have h1 := h (i + 1) l (by simpa using hl)
    rw [List.take_succ_cons, prod_cons, ← Nat.mul_assoc] at h1
    exact h1
theorem looks_len {W : Web} (ok : W.Ok) (f : Int) : (looksOf W f).length ≤ 4 := by
  have h := ok.four f
  rw [List.filter_map, List.length_map] at h
  unfold looksOf
  rw [List.length_map]
  exact h
/-- for each look, the last one ahead: how far apart, how many, the sign -/
def wayRow (W : Web) (ls : List (Int × Int)) (i : Nat) : List Int := [((prodOf W (ls.take i) : Nat) : Int), topAt W (ls.getD i (0, 0)).1 + 1, (ls.getD i (0, 0)).2]
def waysOf (W : Web) (f : Int) : List (List Int) := (List.range (looksOf W f).length).map (wayRow W (looksOf W f).reverse)
def spWaysOf : Sp := fun vs H Q _ => ∃ (v : V) (W : Web) (f : Int), vs = [v, .int f] ∧ WebAt H v W ∧ W.Ok ∧ ∀ H' p us, Ext H H' → H p = none → H' p = some (.lst us) → Paired (TI H') us (waysOf W f) → Q (.ref p) H'
theorem ok_ways_of {f : Addr} {fd : FuncData} (F : Fun K "ways_of" "ways_of" s_ways_of f fd)
    (c_looks_of : Cal P w K mg base CX0 1 "looks_of" ["web", "folk"] spLooksOf) : FnOk P w K mg base CX0 2 f fd ["web", "folk"] spWaysOf := by
  refine F.ok sc_ways_of (fun vs H Q E h => ?_) (fun cdv A outer s H vs Q E hr h => ?_)
  · obtain ⟨v, W, n, rfl, _⟩ := h
    rfl
  · obtain ⟨v, W, n, rfl, hW, ok, k⟩ := h
    obtain ⟨a, t, l, rfl, ha, ⟨b, rfl, hb⟩, hl⟩ := id hW
    refine ⟨_, (pss_cons (ps_asg (pv 0) (pg_tupT (n := 2) rfl (pgs_cons (pg_name (i := 2) sc_ways_of.nd rfl (by first | exact Or.inl rfl | exact Or.inr rfl)) (pgs_cons (pg_name (i := 3) sc_ways_of.nd rfl (by first | exact Or.inl rfl | exact Or.inr rfl)) pgs_nil))))
      (pss_cons (ps_set (i := 4) sc_ways_of.nd rfl (by first | exact Or.inl rfl | exact Or.inr rfl) (pe_lst pa_nil))
      (pss_cons (ps_set (i := 5) sc_ways_of.nd rfl (by first | exact Or.inl rfl | exact Or.inr rfl) pe_int)
      (pss_cons (ps_for PassesOwn.never rfl (pi_list (pe_revL (pe_c0 c_looks_of (hr.mono (by decide)) (by rfl) (pa_cons (pv 0) (pa_cons (pv 1) pa_nil))))) (pg_tupT (n := 2) rfl (pgs_cons (pg_name (i := 6) sc_ways_of.nd rfl (by first | exact Or.inl rfl | exact Or.inr rfl)) (pgs_cons (pg_name (i := 7) sc_ways_of.nd rfl (by first | exact Or.inl rfl | exact Or.inr rfl)) pgs_nil)))
        (pss_cons (ps_expr (pe_bmL PySem.F.plainAttrs_list PySem.F.slot_list_append PySem.F.type_list_append mt_append (pv 4) (pa_cons (pe_tup (pa_cons (pv 5) (pa_cons (pe_op op_add (pe_ix ix_tT (pv 2) (pv 6) (fun _ _ => rfl)) pe_int) (pa_cons (pv 7) pa_nil)))) pa_nil)))
        (pss_one (ps_set (i := 5) sc_ways_of.nd rfl (by first | exact Or.inl rfl | exact Or.inr rfl) (pe_op op_mul (pv 5) (pe_op op_add (pe_ix ix_tT (pv 2) (pv 6) (fun _ _ => rfl)) pe_int))))))
      (pss_one (ps_ret (pv 4))))))), ?_⟩
    refine ⟨_, rfl, a, _, rfl, ha, rfl, _, _, rfl, _, _, rfl, rfl, ?_⟩
    refine ⟨(by show 0 ≤ sizeLine; decide), fun L hL => ?_⟩
    have EL := Ext.new hL (.lst [])
    refine ⟨_, rfl, _, rfl, _, W, n, rfl, hW.ext EL, ok.most, fun H6 p vs E6 hp0 hp hvs => ?_⟩
    refine ⟨p, _, rfl, SqL.of hp, fun q hq => ?_⟩
    have E8 := (EL.trans E6).trans (Ext.new hq (.lst vs.reverse))
    have hrv : Paired (TI (upd H6 q (.lst vs.reverse))) vs.reverse ((looksOf W n).reverse.map row2) := by
      rw [List.map_reverse]
      exact rev_paired (pTI.ext (Ext.new hq _) hvs)
    have hL6 : H6 L = some (.lst []) := E6.lst upd_same
    have hLq : L ≠ q := ne_of_none hL6 hq
    have hLs : (upd H6 q (.lst vs.reverse)) L = some (.lst []) := by rw [upd_ne hLq]; exact hL6
    generalize hHb : upd H6 q (.lst vs.reverse) = Hb at *
    have hqv : Hb q = some (.lst vs.reverse) := by rw [← hHb]; exact upd_same
    refine ⟨q, rfl, ⟨_, SqL.of hqv⟩, for_list (K := K) (a := q) (xs := vs.reverse) (fun i σ H' => ∃ (o3 o6 o7 : Option V) (acc : List V), σ = [some (.ref a), some (.int n), some (.ref b), o3, some (.ref L), some (.int ((prodOf W ((looksOf W n).reverse.take i) : Nat) : Int)), o6, o7] ∧ Ext H H' ∧ H' q = some (.lst vs.reverse) ∧ Paired (TI H') vs.reverse ((looksOf W n).reverse.map row2) ∧ H' L = some (.lst acc) ∧ acc.length = i ∧ Paired (TI H') acc ((List.range i).map (wayRow W (looksOf W n).reverse)))
      ⟨_, _, _, [], rfl, E8, hqv, hrv, hLs, rfl, .nil⟩ (fun i σ H' _ ⟨_, _, _, _, _, _, e, _⟩ => SqL.of e) ?_ ?_⟩
    · rintro i x σ H' hi ⟨o3, o6, o7, acc, rfl, E9, hq9, hv9, hL9, hlen, hacc⟩
      obtain ⟨lk, z, hlk, rfl, hz⟩ := look_at hv9 hi
      have hmem : lk ∈ looksOf W n := List.mem_reverse.mp (List.mem_of_getElem? hlk)
      have h1 := looksOf_ok ok lk hmem
      have h2 := topAt_ok ok h1.1.1 h1.1.2
      have hi4 : i < vs.length := by
        have := (List.getElem?_eq_some_iff.mp hi).1
        rwa [List.length_reverse] at this
      have hvl : vs.length ≤ 14 := by
        rw [paired_len hvs, List.length_map]
        exact Nat.le_trans (looks_len ok n) (by decide)
      refine ⟨z, _, rfl, hz, rfl, _, _, rfl, _, _, rfl, rfl, ?_⟩
      have hbt := E9.tup hb
      have htop := at_of (show lk.1 = ((lk.1.toNat : Nat) : Int) by omega) (iv_at (topAt_get h1.1.1 h1.1.2))
      refine ⟨_, rfl, ⟨L, acc, rfl, hL9⟩, _, rfl, _, rfl, _, rfl, b, _, _, _, rfl, rfl, hbt, htop, _, _, rfl, rfl, _, rfl, (by show 3 ≤ sizeLine; decide), fun u hu => ?_⟩
      have hLu : L ≠ u := ne_of_none hL9 hu
      have E10 := (E9.trans (Ext.new hu (.tup [.int ((prodOf W ((looksOf W n).reverse.take i) : Nat) : Int), .int (topAt W lk.1 + 1), .int lk.2]))).put hL (.lst (acc ++ [.ref u]))
      refine ⟨L, acc, _, rfl, rfl, by rw [upd_ne hLu]; exact hL9, small1000 (by omega), ?_⟩
      refine ⟨_, rfl, _, rfl, _, rfl, b, _, _, _, rfl, rfl, E10.tup hb, htop, _, _, rfl, rfl, _, _, rfl, rfl, .inr ⟨by omega, by omega⟩, ?_⟩
      have ez : (topAt W lk.1 + 1 : Int) = (((topAt W lk.1 + 1).toNat : Nat) : Int) := by omega
      have hps : prodOf W ((looksOf W n).reverse.take (i + 1)) = prodOf W ((looksOf W n).reverse.take i) * (topAt W lk.1 + 1).toNat := by
        rw [List.take_add_one, hlk]
        exact prod_snoc W lk _
      refine ⟨_, _, _, _, by rw [hps, Int.natCast_mul, ← ez]; rfl, E10, ?_, ?_, upd_same, by rw [List.length_append, hlen]; rfl, ?_⟩
      · rw [upd_ne hLq.symm, upd_ne (ne_of_none hq9 hu)]
        exact hq9
      · exact pTI.put (H := H') (D := L) (acc := acc) hL9 (fun c xs hc => by rw [upd_ne (ne_of_none hc hu)]; exact hc) hv9
      · rw [List.range_succ, List.map_append]
        refine paired_snoc ⟨u, rfl, ?_⟩ (pTI.put (H := H') (D := L) (acc := acc) hL9 (fun c xs hc => by rw [upd_ne (ne_of_none hc hu)]; exact hc) hacc)
        rw [upd_ne hLu.symm, upd_same]
        unfold wayRow
        rw [List.getD_eq_getElem?_getD, hlk]
        rfl
    · rintro σ H' ⟨o3, o6, o7, acc, rfl, E9, hq9, hv9, hL9, hlen, hacc⟩
      refine ⟨_, rfl, k H' L acc E9 hL hL9 ?_⟩
      have : vs.reverse.length = (looksOf W n).length := by rw [List.length_reverse, paired_len hvs, List.length_map]
      rw [this] at hacc
      exact hacc
theorem ok_is_table {f T : Addr} {fd : FuncData} (F : FunT K mg base Ps "is_table" s_is_table f fd T) (B : Blt mg)
    (c_is_whole : Cal P w K mg base CX0 1 "is_whole" ["value", "least", "most"] spIsWhole)
    (c_ways_of : Cal P w K mg base CX0 2 "ways_of" ["web", "folk"] spWaysOf)
    (c_many_rows : Cal P w K mg base CX0 2 "many_rows" ["web", "folk"] spManyRows)
    (c_goes_along : Cal P w K mg base CX0 2 "goes_along" ["table", "step", "size", "sign"] (spGoesAlong Ps)) : FnOk P w K mg base CX0 4 f fd ["web", "folk", "value"] (spIsTable Ps) := by
  refine F.ok sc_is_table (fun vs H Q E h => ?_) (fun c A outer s0 H vs Q E TB hr h => ?_)
  · obtain ⟨v, t, W, n, tb, rfl, _⟩ := h
    rfl
  · obtain ⟨v, tv, W, n, tb, rfl, hW, ok, hn, ⟨ta, rfl, hta⟩, hlen, hTb, k⟩ := h
    obtain ⟨a, t, l, rfl, ha, ⟨b, rfl, hb⟩, hl⟩ := id hW
    refine ⟨_, (pss_cons (ps_asg (pv 0) (pg_tupT (n := 2) rfl (pgs_cons (pg_name (i := 3) sc_is_table.nd rfl (by first | exact Or.inl rfl | exact Or.inr rfl)) (pgs_cons (pg_name (i := 4) sc_is_table.nd rfl (by first | exact Or.inl rfl | exact Or.inr rfl)) pgs_nil))))
      (pss_cons (ps_if (PW.pt (pw_or (pt_not (pt_val (pe_callB call_isi (by rfl) B.isi boot_isinstance (pa_cons (pv 2) (pa_cons (pe_bltn (v := .ty "tuple") (by rfl) B.tuple boot_tyTuple rfl) pa_nil))))) (pw_or1 (pt_cmpR op_ne (pe_callB call_lenT (by rfl) B.len PySem.boot_len (pa_cons (pv 2) pa_nil)) (pe_c0 c_many_rows (hr.mono (by decide)) (by rfl) (pa_cons (pv 0) (pa_cons (pv 1) pa_nil))) (nomark _)))))
        (pss_one (ps_ret pe_bl)) pss_nil)
      (pss_cons (ps_if (pt_not (pt_val (pe_allG (own := [("mood", 5)]) (k := 2) (hr.mono (by decide)) rfl sc_is_table.nd (by rfl) B.all TB rfl (pi_tup (pv 2)) ⟨(blkOk_by (N := ["web", "folk", "value", "tops", "_", "mood", "step", "size", "sign"]) (sc := defScope s_is_table) (by decide +kernel)), noCells_ok (by decide +kernel), rfl, rfl⟩ (fun _ _ _ _ _ _ => (pg_name (i := 5) sc_is_table.nd rfl (by first | exact Or.inl rfl | exact Or.inr rfl))) (fun _ _ _ _ _ _ hr' => pts_nil) (fun _ _ _ _ _ _ hr' => (pe_c0 c_is_whole (hr'.mono (by decide)) (by rfl) (pa_cons (pv 5) (pa_cons pe_int (pa_cons (pe_ix ix_tT (pv 3) (pv 1) (fun _ _ => rfl)) pa_nil))))))))
        (pss_one (ps_ret pe_bl)) pss_nil)
      (pss_one (ps_ret (pe_allG (own := [("step", 6), ("size", 7), ("sign", 8)]) (k := 2) (hr.mono (by decide)) rfl sc_is_table.nd (by rfl) B.all TB rfl (pi_list (pe_c0 c_ways_of (hr.mono (by decide)) (by rfl) (pa_cons (pv 0) (pa_cons (pv 1) pa_nil)))) ⟨(blkOk_by (N := ["web", "folk", "value", "tops", "_", "mood", "step", "size", "sign"]) (sc := defScope s_is_table) (by decide +kernel)), noCells_ok (by decide +kernel), rfl, rfl⟩ (fun _ _ _ _ _ _ => (pg_tupT (n := 3) rfl (pgs_cons (pg_name (i := 6) sc_is_table.nd rfl (by first | exact Or.inl rfl | exact Or.inr rfl)) (pgs_cons (pg_name (i := 7) sc_is_table.nd rfl (by first | exact Or.inl rfl | exact Or.inr rfl)) (pgs_cons (pg_name (i := 8) sc_is_table.nd rfl (by first | exact Or.inl rfl | exact Or.inr rfl)) pgs_nil))))) (fun _ _ _ _ _ _ hr' => pts_nil) (fun _ _ _ _ _ _ hr' => (pe_c0 c_goes_along (hr'.mono (by decide)) (by rfl) (pa_cons (pv 2) (pa_cons (pv 6) (pa_cons (pv 7) (pa_cons (pv 8) pa_nil)))))))))))), ?_⟩
    refine ⟨_, rfl, a, _, rfl, ha, rfl, _, _, rfl, _, _, rfl, rfl, ?_⟩
    refine ⟨_, rfl, _, _, _, _, true, rfl, .ty "tuple", isi_tup hta, kit_ty (by decide +kernel), _, rfl, iteF ?_⟩
    refine ⟨_, rfl, _, _, rfl, .inr hta, ⟨_, rfl, _, rfl, _, W, n, rfl, hW, ok, fun H1 E1 => ?_⟩⟩
    have k1 := fun H' e => k H' e
    unfold isTable at k1
    refine ⟨rfl, _, rfl, ?_⟩
    by_cases hl1 : (tb.length : Int) = manyRows W n
    · have e1 : (!decide (V.int ((iv tb).length : Int) = V.int (manyRows W n))) = false := by
        rw [iv_len, decide_eq_true (by rw [hl1])]
        rfl
      rw [e1]
      refine iteF ?_
      have hg : TabG H1 T := E1.tab T (hTb T F.mem)
      have ht1 := topAt_get hn.1 hn.2
      refine ⟨_, rfl, ta, rfl, ⟨_, SqT.of (E1.tup hta)⟩, hg, fun H2 hT2 => ?_⟩
      have E2 : Ext H H2 := E1.trans (Ext.tabbed F.nown hg hT2)
      refine quant_test (walk_tup (K := K) (xs := iv tb)) (fun i H' => H' = H2 ∧ ∀ m ∈ tb.take i, isWhole m 0 (topAt W n) = true) ⟨rfl, by simp⟩ (fun i H' _ e => by rw [e.1]; exact SqT.of (E2.tup hta)) (fun i x H4 H5 hi e4 y => ?_) fun H4 e4 => ?_
      · obtain ⟨rfl, h4⟩ := e4
        obtain ⟨rfl, hx⟩ := y
        obtain ⟨m, hm, rfl⟩ := iv_get hx
        refine ⟨rfl, yes ?_⟩
        refine ⟨_, rfl, _, rfl, _, rfl, b, _, _, _, rfl, rfl, E2.tup hb, at_of (show n = ((n.toNat : Nat) : Int) by omega) (iv_at ht1), m, 0, topAt W n, rfl, ?_⟩
        cases hc : isWhole m 0 (topAt W n) with
        | true =>
          refine ⟨true, rfl, iteTF ⟨rfl, fun q hq => ?_⟩⟩
          rw [List.take_add_one, hm] at hq
          rcases List.mem_append.mp hq with hq | hq
          · exact h4 q hq
          · rw [List.mem_singleton.mp hq]
            exact hc
        | false =>
          refine ⟨false, rfl, iteFF ?_⟩
          refine ⟨_, rfl, iteT ?_⟩
          have hk := k1 H5 E2
          have e6 : (tb.all fun m => isWhole m 0 (topAt W n)) = false := by
            rw [Bool.eq_false_iff]
            intro hall
            rw [List.all_eq_true.mp hall m (List.mem_of_getElem? hm)] at hc
            cases hc
          rw [e6, Bool.and_false, Bool.false_and] at hk
          exact hk
      · obtain ⟨rfl, h4⟩ := e4
        rw [iv_len, List.take_length] at h4
        have e6 : (tb.all fun m => isWhole m 0 (topAt W n)) = true := List.all_eq_true.mpr h4
        refine iteF ?_
        refine ⟨_, rfl, _, rfl, _, W, n, rfl, hW.ext E2, ok, fun H6 p vs E6 hp0 hp hvs => ?_⟩
        have E7 := E2.trans E6
        have hg7 : TabG H6 T := E7.tab T (hTb T F.mem)
        have lb : ∀ i : Nat, prodOf W ((looksOf W n).reverse.take i) ∣ tb.length := fun i => by
          have h1 : prodOf W (looksOf W n).reverse = prodOf W ((looksOf W n).reverse.take i) * prodOf W ((looksOf W n).reverse.drop i) := by
            have h2 : (looksOf W n).reverse = (looksOf W n).reverse.take i ++ (looksOf W n).reverse.drop i := (List.take_append_drop i _).symm
            rw [← prod_mul]
            show List.foldl _ 1 _ = _
            conv => lhs; rw [h2]
            rw [List.foldl_append]
            rfl
          rw [prod_rev] at h1
          have h3 : tb.length = prodOf W (looksOf W n) := by
            have h4 := many_eq ok n
            omega
          rw [h3, h1]
          exact Nat.dvd_mul_right _ _
        refine ⟨p, rfl, ⟨_, SqL.of hp⟩, hg7, fun H8 hT8 => ?_⟩
        have E68 : Ext H6 H8 := Ext.tabbed F.nown hg7 hT8
        have E8 := E7.trans E68
        have hvl : vs.length = (looksOf W n).length := by rw [paired_len hvs]; unfold waysOf; rw [List.length_map, List.length_range]
        refine quant_it (walk_list (K := K) (xs := vs)) (fun i H' => Ext H8 H' ∧ ∀ j l, j < i → (looksOf W n).reverse[j]? = some l → goesAlong tb (1 * prodOf W ((looksOf W n).reverse.take j)) (topAt W l.1 + 1).toNat l.2 = true) ⟨Ext.refl _, fun j l h => absurd h (Nat.not_lt_zero _)⟩ (fun i H' _ e => SqL.of ((E68.trans e.1).lst hp)) (fun i x H9 H10 hi e9 y => ?_) fun H9 e9 => ?_
        · obtain ⟨E9, hgo⟩ := e9
          obtain ⟨rfl, hi⟩ := y
          obtain ⟨row, hrow, z, rfl, hz⟩ := paired_get' (pTI.ext (E68.trans E9) hvs) hi
          have hin : i < (looksOf W n).reverse.length := by
            rw [List.length_reverse, ← hvl]
            exact (List.getElem?_eq_some_iff.mp hi).1
          have hrow' : row = wayRow W (looksOf W n).reverse i := by
            unfold waysOf at hrow
            rw [List.getElem?_map, List.getElem?_range (by rw [List.length_reverse] at hin; exact hin)] at hrow
            exact (Option.some.inj hrow).symm
          obtain ⟨lk, hlk⟩ : ∃ lk, (looksOf W n).reverse[i]? = some lk := ⟨_, List.getElem?_eq_getElem hin⟩
          have egd : (looksOf W n).reverse.getD i (0, 0) = lk := by rw [List.getD_eq_getElem?_getD, hlk]; rfl
          have hrow2 : row = [((prodOf W ((looksOf W n).reverse.take i) : Nat) : Int), topAt W lk.1 + 1, lk.2] := by rw [hrow']; unfold wayRow; rw [egd]
          rw [hrow2] at hz
          have hmem : lk ∈ looksOf W n := List.mem_reverse.mp (List.mem_of_getElem? hlk)
          have h1 := looksOf_ok ok lk hmem
          have h2 := topAt_ok ok h1.1.1 h1.1.2
          have E10 := E8.trans E9
          have ez : (topAt W lk.1 + 1 : Int) = (((topAt W lk.1 + 1).toNat : Nat) : Int) := by omega
          obtain ⟨rr, hrr⟩ := lb (i + 1)
          have hps : prodOf W ((looksOf W n).reverse.take (i + 1)) = prodOf W ((looksOf W n).reverse.take i) * (topAt W lk.1 + 1).toNat := by
            rw [List.take_add_one, hlk]
            exact prod_snoc W lk _
          rw [hps] at hrr
          have hpos : 0 < prodOf W ((looksOf W n).reverse.take i) := prod_pos ok _ fun l hl => (looksOf_ok ok l (List.mem_reverse.mp (List.mem_of_mem_take hl))).1
          have htl : 0 < tb.length := by
            have h4 := many_eq ok n
            have h5 := prod_pos ok (looksOf W n) fun l hl => (looksOf_ok ok l hl).1
            omega
          have hrr0 : 0 < rr := by
            rcases Nat.eq_zero_or_pos rr with h | h
            · rw [h, Nat.mul_zero] at hrr; omega
            · exact h
          have hple : prodOf W ((looksOf W n).reverse.take i) ≤ tb.length := Nat.le_of_dvd htl (lb i)
          refine ⟨z, _, rfl, hz, rfl, _, _, rfl, _, _, rfl, _, _, rfl, rfl, rfl, yes ?_⟩
          refine ⟨_, rfl, _, rfl, _, rfl, _, rfl, _, tb, prodOf W ((looksOf W n).reverse.take i), (topAt W lk.1 + 1).toNat, lk.2, congrArg (fun z => [V.ref ta, V.int ((prodOf W ((looksOf W n).reverse.take i) : Nat) : Int), V.int z, V.int lk.2]) ez, ⟨ta, rfl, E10.tup hta⟩, ⟨hpos, ?_⟩, ⟨by omega, by omega⟩, h1.2, hlen, places_in hpos (by omega) hrr, hTb.ext E10, fun H11 E11 => ?_⟩
          · -- a step is less than the table's length
            have q1 : prodOf W ((looksOf W n).reverse.take i) * 2 ≤ prodOf W ((looksOf W n).reverse.take i) * (topAt W lk.1 + 1).toNat := Nat.mul_le_mul_left _ (by omega)
            have q2 : prodOf W ((looksOf W n).reverse.take i) * (topAt W lk.1 + 1).toNat ≤ tb.length := by
              rw [hrr]
              exact Nat.le_mul_of_pos_right _ hrr0
            omega
          cases hc : goesAlong tb (prodOf W ((looksOf W n).reverse.take i)) (topAt W lk.1 + 1).toNat lk.2 with
          | false =>
            refine ⟨false, rfl, iteFF ?_⟩
            have hk := k1 H11 (E10.trans E11)
            rw [goLoop_false hlk (by rw [Nat.one_mul]; exact hc), Bool.and_false] at hk
            exact hk
          | true =>
            refine ⟨true, rfl, iteTF ⟨E9.trans E11, fun j l hj hjl => ?_⟩⟩
            by_cases hji : j = i
            · subst hji
              rw [hlk] at hjl
              obtain rfl := Option.some.inj hjl
              rw [Nat.one_mul]
              exact hc
            · exact hgo j l (by omega) hjl
        · obtain ⟨E9, hgo⟩ := e9
          have hk := k1 H9 (E8.trans E9)
          have hvl2 : vs.length = (looksOf W n).reverse.length := by rw [List.length_reverse, hvl]
          rw [e6, goLoop_true fun i l hl => hgo i l (by rw [hvl2]; exact (List.getElem?_eq_some_iff.mp hl).1) hl, Bool.and_true, Bool.and_true, decide_eq_true hl1] at hk
          exact hk
    · have e1 : (!decide (V.int ((iv tb).length : Int) = V.int (manyRows W n))) = true := by
        rw [iv_len, decide_eq_false fun z => hl1 (V.int.inj z)]
        rfl
      rw [e1]
      refine iteT ?_
      have hk := k1 H1 E1
      rw [decide_eq_false hl1, Bool.false_and, Bool.false_and] at hk
      exact hk
end
end Lk


/-! ## D10 -/
set_option Elab.async false
set_option linter.all false
set_option maxRecDepth 100000
set_option maxHeartbeats 2000000
namespace Lk
open PySem PySem.Spec PyProof.Rows L2 Gx
open GxR (TabG Tabbed TabB)
variable [Own]
/-- the state told in a state -/
def stateTold (W : Web) (ru : List (List Int)) (st : List Int) : List Int := (List.range st.length).map fun f : Nat => moodTold W ru st (f : Int)
abbrev s_state_told : Stmt := top 41
theorem sc_state_told : FnScope ["web", "rules", "state", "folk"] ["web", "rules", "state"] (defScope s_state_told) := ⟨rfl, rfl, rfl, by decide +kernel, rfl, by decide +kernel, by decide +kernel⟩
def spStateTold : Sp := fun vs H Q _ => ∃ (v r z : V) (W : Web) (ru : List (List Int)) (st : List Int), vs = [v, r, z] ∧ WebAt H v W ∧ W.Ok ∧ TT2 H r ru ∧ RuOk W ru ∧ TI H z st ∧ StOk W st ∧ ∀ H' u, Ext H H' → H u = none → H' u = some (.tup (iv (stateTold W ru st))) → Q (.ref u) H'
section
variable {P : Program} {w : World} {K : PySem.W.Frag} {mg : Str → Option Value} {base : Heap} {Ps : List Addr}
theorem ok_state_told {f : Addr} {fd : FuncData} (F : Fun K "state_told" "state_told" s_state_told f fd) (B : Blt mg)
    (c_mood_told : Cal P w K mg base CX0 3 "mood_told" ["web", "rules", "state", "folk"] spMoodTold) : FnOk P w K mg base CX0 4 f fd ["web", "rules", "state"] spStateTold := by
  refine F.ok sc_state_told (fun vs H Q E h => ?_) (fun cdv A outer s H vs Q E hr h => ?_)
  · obtain ⟨v, r, z, W, ru, st, rfl, _⟩ := h
    rfl
  · obtain ⟨v, r, z, W, ru, st, rfl, hW, ok, hru, rok, ⟨sa, rfl, hsa⟩, so, k⟩ := h
    refine ⟨_, (pss_one (ps_ret (pe_tupleL (by rfl) B.tuple (pe_lc (own := [("folk", 3)]) rfl sc_state_told.nd (pi_range1 (by rfl) B.range (pa_cons (pe_callB call_lenT (by rfl) B.len PySem.boot_len (pa_cons (pv 2) pa_nil)) pa_nil)) (blkOk_by (N := ["web", "rules", "state", "folk"]) (sc := defScope s_state_told) (by decide +kernel)) (fun _ _ _ _ _ => (pg_name (i := 3) sc_state_told.nd rfl (by first | exact Or.inl rfl | exact Or.inr rfl))) (fun _ _ _ _ _ => pts_nil) (fun _ _ _ _ _ => (pe_c0 c_mood_told (hr.mono (by decide)) (by rfl) (pa_cons (pv 0) (pa_cons (pv 1) (pa_cons (pv 2) (pa_cons (pv 3) pa_nil)))))))))), ?_⟩
    have h6 := ok.few
    have sl := so.len
    refine ⟨_, rfl, _, _, rfl, .inr hsa, _, rfl, by rw [iv_len]; omega, by rw [iv_len]; omega, fun D hD => ?_⟩
    have en : ((iv st).length : Int).toNat = st.length := by rw [iv_len]; omega
    rw [en]
    refine lc_range (lo := 0) (n := st.length) (fun i H' => H' D = some (.lst (iv (((List.range st.length).take i).map fun f : Nat => moodTold W ru st (f : Int)))) ∧ Ext H H') ⟨upd_same, Ext.new hD _⟩ (fun i H' hi ⟨hL, e⟩ => ?_) fun H' ⟨hL, e⟩ => ?_
    · refine ⟨rfl, yes ?_⟩
      have er : (List.range st.length)[i]? = some i := by rw [List.getElem?_range hi]
      refine ⟨_, rfl, _, rfl, _, rfl, _, rfl, _, _, _, W, ru, st, (i : Int), by rw [Int.zero_add]; rfl, hW.ext e, ok, hru.ext e, rok, ⟨sa, rfl, e.tup hsa⟩, so, ⟨by omega, by omega⟩, fun H2 e2 => ?_⟩
      refine ⟨_, e2.lst hL, ?_, ?_, (e.trans e2).put hD _⟩
      · rw [iv_len, List.length_map, List.length_take, List.length_range]
        exact small1000 (by omega)
      · rw [upd_same, List.take_add_one, er, List.map_append]
        show some (HO.lst _) = some (HO.lst (List.map V.int (_ ++ _)))
        rw [List.map_append]
        rfl
    · have et : (List.range st.length).take st.length = List.range st.length := List.take_of_length_le (by rw [List.length_range]; exact Nat.le_refl _)
      rw [et] at hL
      refine ⟨D, _, rfl, hL, fun u hu => ?_⟩
      exact k _ u (e.trans (Ext.new hu _)) (e.free hu) upd_same
/-- all settled states -/
def settledStates (W : Web) (ru : List (List Int)) : List (List Int) := (rowsOf W.tops).filter fun st => decide (stateTold W ru st = st)
theorem rows_mem {tops : List Int} {st : List Int} : st ∈ rowsOf tops → st.length = tops.length ∧ ∀ i, i < tops.length → 0 ≤ st.getD i 0 ∧ st.getD i 0 ≤ tops.getD i 0 := by
  have key : ∀ (ts : List Int) (rows : List (List Int)) (pre : List Int), (∀ r ∈ rows, r.length = pre.length ∧ ∀ i, i < pre.length → 0 ≤ r.getD i 0 ∧ r.getD i 0 ≤ pre.getD i 0) → ∀ r ∈ ts.foldl rowsStep rows, r.length = (pre ++ ts).length ∧ ∀ i, i < (pre ++ ts).length → 0 ≤ r.getD i 0 ∧ r.getD i 0 ≤ (pre ++ ts).getD i 0 := by
    intro ts
    induction ts with
    | nil => intro rows pre h r hr; rw [List.append_nil]; exact h r hr
    | cons t ts ih =>
      intro rows pre h r hr
      rw [List.foldl_cons] at hr
      have := ih (rowsStep rows t) (pre ++ [t]) (fun q hq => ?_) r hr
      · rw [List.append_assoc] at this
        exact this
      · unfold rowsStep at hq
        obtain ⟨z, hz, hq⟩ := List.mem_flatMap.mp hq
        obtain ⟨m, hm, rfl⟩ := List.mem_map.mp hq
        obtain ⟨h1, h2⟩ := h z hz
        unfold moods at hm
        obtain ⟨j, hj, rfl⟩ := List.mem_map.mp hm
        have hj := List.mem_range.mp hj
        refine ⟨by rw [List.length_append, List.length_append, h1]; rfl, fun i hi => ?_⟩
        rw [List.length_append] at hi
        by_cases hip : i < pre.length
        · have e1 : (z ++ [(j : Int)]).getD i 0 = z.getD i 0 := by rw [List.getD_eq_getElem?_getD, List.getD_eq_getElem?_getD, List.getElem?_append_left (by omega)]
          have e2 : (pre ++ [t]).getD i 0 = pre.getD i 0 := by rw [List.getD_eq_getElem?_getD, List.getD_eq_getElem?_getD, List.getElem?_append_left hip]
          rw [e1, e2]
          exact h2 i hip
        · have ei : i = pre.length := by simp at hi; omega
          have e1 : (z ++ [(j : Int)]).getD i 0 = (j : Int) := by rw [List.getD_eq_getElem?_getD, List.getElem?_append_right (by omega), h1, ei, Nat.sub_self]; rfl
          have e2 : (pre ++ [t]).getD i 0 = t := by rw [List.getD_eq_getElem?_getD, List.getElem?_append_right (by omega), ei, Nat.sub_self]; rfl
          rw [e1, e2]
          omega
  intro h
  have := key tops [[]] [] (fun r hr => by rw [List.mem_singleton.mp hr]; exact ⟨rfl, fun i hi => absurd hi (Nat.not_lt_zero _)⟩) st h
  exact this
theorem rows_st {W : Web} {st : List Int} (h : st ∈ rowsOf W.tops) : StOk W st := by
  obtain ⟨h1, h2⟩ := rows_mem h
  exact ⟨h1, fun i h0 hi => h2 i.toNat (by omega)⟩
abbrev s_settled_states : Stmt := top 44
theorem sc_settled_states : FnScope ["web", "rules", "tops", "_", "state"] ["web", "rules"] (defScope s_settled_states) := ⟨rfl, rfl, rfl, by decide +kernel, rfl, by decide +kernel, by decide +kernel⟩
def spSettledStates : Sp := fun vs H Q _ => ∃ (v r : V) (W : Web) (ru : List (List Int)), vs = [v, r] ∧ WebAt H v W ∧ W.Ok ∧ TT2 H r ru ∧ RuOk W ru ∧ ∀ H' u, Ext H H' → TT2 H' (.ref u) (settledStates W ru) → Q (.ref u) H'
theorem ok_settled_states {f : Addr} {fd : FuncData} (F : Fun K "settled_states" "settled_states" s_settled_states f fd) (B : Blt mg)
    (c_rows_of : Cal P w K mg base CX0 1 "rows_of" ["tops"] spRowsOf)
    (c_state_told : Cal P w K mg base CX0 4 "state_told" ["web", "rules", "state"] spStateTold) : FnOk P w K mg base CX0 5 f fd ["web", "rules"] spSettledStates := by
  refine F.ok sc_settled_states (fun vs H Q E h => ?_) (fun cdv A outer s H vs Q E hr h => ?_)
  · obtain ⟨v, r, W, ru, rfl, _⟩ := h
    rfl
  · obtain ⟨v, r, W, ru, rfl, hW, ok, hru, rok, k⟩ := h
    obtain ⟨a, t, l, rfl, ha, ⟨b, rfl, hb⟩, hl⟩ := id hW
    refine ⟨_, (pss_cons (ps_asg (pv 0) (pg_tupT (n := 2) rfl (pgs_cons (pg_name (i := 2) sc_settled_states.nd rfl (by first | exact Or.inl rfl | exact Or.inr rfl)) (pgs_cons (pg_name (i := 3) sc_settled_states.nd rfl (by first | exact Or.inl rfl | exact Or.inr rfl)) pgs_nil))))
      (pss_one (ps_ret (pe_tupleL (by rfl) B.tuple (pe_lc (own := [("state", 4)]) rfl sc_settled_states.nd (pi_list (pe_c0 c_rows_of (hr.mono (by decide)) (by rfl) (pa_cons (pv 2) pa_nil))) (blkOk_by (N := ["web", "rules", "tops", "_", "state"]) (sc := defScope s_settled_states) (by decide +kernel)) (fun _ _ _ _ _ => (pg_name (i := 4) sc_settled_states.nd rfl (by first | exact Or.inl rfl | exact Or.inr rfl))) (fun _ _ _ _ _ => (pts_one (pt_cmpR (op_eqTI hr.units) (pe_c0 c_state_told (hr.mono (by decide)) (by rfl) (pa_cons (pv 0) (pa_cons (pv 1) (pa_cons (pv 4) pa_nil)))) (pv 4) (nomark _)))) (fun _ _ _ _ _ => (pv 4))))))), ?_⟩
    refine ⟨_, rfl, a, _, rfl, ha, rfl, _, _, rfl, _, _, rfl, rfl, ?_⟩
    refine ⟨_, rfl, _, _, rfl, ⟨b, rfl, hb⟩, ok.few, fun t ht => ⟨by have := ok.tops t ht; omega, (ok.tops t ht).2⟩, fun H1 p vs E1 hp0 hp hvs => ?_⟩
    refine ⟨p, rfl, ⟨_, SqL.of hp⟩, fun D hD => ?_⟩
    have rl : (rowsOf W.tops).length ≤ 4096 := by
      have h1 := rows_len4 (tops := W.tops) (fun t ht => (ok.tops t ht).2) [[]]
      have h2 : 4 ^ W.tops.length ≤ 4 ^ 6 := Nat.pow_le_pow_right (by decide) ok.few
      simp only [List.length_singleton, Nat.one_mul] at h1
      exact Nat.le_trans h1 h2
    refine lc_list (K := K) (xs := vs) (fun i H' => ∃ acc, H' D = some (.lst acc) ∧ Ext H1 H' ∧ acc.length ≤ i ∧ Paired (TI H') acc (((rowsOf W.tops).take i).filter fun st => decide (stateTold W ru st = st))) ⟨[], upd_same, Ext.new hD _, Nat.le_refl _, .nil⟩ (fun i H' _ ⟨_, _, e, _⟩ => SqL.of (e.lst hp)) (fun i x H' hi ⟨acc, hacc, e, hl, hpa⟩ => ?_) fun H' ⟨acc, hacc, e, hl, hpa⟩ => ?_
    · obtain ⟨st, hst, hx⟩ := paired_get' (pTI.ext e hvs) hi
      have E2 := E1.trans e
      have so := rows_st (W := W) (List.mem_of_getElem? hst)
      have hi4 : i < 4096 := by
        have := (List.getElem?_eq_some_iff.mp hst).1
        omega
      refine ⟨rfl, _, rfl, _, rfl, _, rfl, _, _, _, W, ru, st, rfl, hW.ext E2, ok, hru.ext E2, rok, hx, so, fun H3 u E3 hu0 hu => ?_⟩
      refine ⟨_, rfl, _, st, ⟨u, rfl, hu⟩, hx.ext E3, _, rfl, ?_⟩
      rw [List.take_add_one, hst, List.filter_append]
      by_cases hc : stateTold W ru st = st
      · rw [decide_eq_true hc]
        refine iteT ⟨_, rfl, acc, E3.lst hacc, Nat.lt_of_lt_of_le (show acc.length < 5000 by omega) (by decide), acc ++ [x], upd_same, (e.trans E3).put hD _, by rw [List.length_append]; simp; omega, ?_⟩
        · have F1 : List.filter (fun st => decide (stateTold W ru st = st)) (some st).toList = [st] := by simp [hc]
          rw [F1]
          exact pTI.put (E3.lst hacc) (fun _ _ h => h) (paired_snoc (hx.ext E3) (pTI.ext E3 hpa))
      · rw [decide_eq_false hc]
        have F1 : List.filter (fun st => decide (stateTold W ru st = st)) (some st).toList = [] := by simp [hc]
        rw [F1, List.append_nil]
        exact iteF ⟨acc, E3.lst hacc, e.trans E3, by omega, pTI.ext E3 hpa⟩
    · have hvl : vs.length = (rowsOf W.tops).length := paired_len hvs
      rw [hvl, List.take_length] at hpa
      refine ⟨D, acc, rfl, hacc, fun u hu => ?_⟩
      have hDu : D ≠ u := ne_of_none hacc hu
      exact k _ u ((E1.trans e).trans (Ext.new hu _)) ⟨u, acc, rfl, upd_same, pTI.ext (Ext.new hu _) hpa⟩
end
end Lk


/-! ## D12 -/
set_option Elab.async false
set_option linter.all false
set_option maxRecDepth 100000
set_option maxHeartbeats 2000000
namespace Lk
open PySem PySem.Spec PyProof.Rows L2 Gx
open GxR (TabG Tabbed TabB)
variable [Own]
/-- the first of the folk whose thing is no table of theirs -/
def firstBad (W : Web) (ru : List (List Int)) : Option Nat := (List.range W.tops.length).find? fun f : Nat => !isTable W (f : Int) (ru.getD f [])
/-- what may be rules: as many tuples of ints as there are folk -/
structure Ru0 (W : Web) (ru : List (List Int)) : Prop where
  len : ru.length = W.tops.length
  few : ∀ t ∈ ru, t.length ≤ 1000000
/-- refused, or passed -/
def spCheckRules (Ps : List Addr) (C : Addr) : Sp := fun vs H Q E => ∃ (v r : V) (W : Web) (ru : List (List Int)), vs = [v, r] ∧ WebAt H v W ∧ W.Ok ∧ TT2 H r ru ∧ Ru0 W ru ∧ Tabs Ps H ∧
  (firstBad W ru = none → ∀ H', Ext H H' → Q .non H') ∧ (∀ f, firstBad W ru = some f → ∀ H' d, Ext H H' → H d = none → H' d = some (.xd [("folk", .int (f : Nat))]) → E (.ref C) (some d) H')
theorem firstBad_none {W : Web} {ru : List (List Int)} (h : firstBad W ru = none) : ∀ f : Int, 0 ≤ f → f < W.tops.length → isTable W f (ru.getD f.toNat []) = true := by
  intro f h0 h1
  have := List.find?_eq_none.mp h f.toNat (List.mem_range.mpr (by omega))
  have e : ((f.toNat : Nat) : Int) = f := by omega
  rw [e] at this
  simpa using this
theorem rules_ok {W : Web} {ru : List (List Int)} (r0 : Ru0 W ru) (h : firstBad W ru = none) : RuOk W ru := by
  refine ⟨r0.len, fun f h0 h1 => ?_⟩
  have := firstBad_none h f h0 h1
  unfold isTable at this
  rw [Bool.and_eq_true, Bool.and_eq_true] at this
  exact of_decide_eq_true this.1.1
abbrev s_check_standing : Stmt := top 38
theorem sc_check_standing : FnScope ["web", "rules", "state"] ["web", "rules", "state"] (defScope s_check_standing) := ⟨rfl, rfl, rfl, by decide +kernel, rfl, by decide +kernel, by decide +kernel⟩
def spCheckStanding (Ps : List Addr) : Sp := fun vs H Q _ => ∃ (v r z : V) (W : Web) (ru : List (List Int)) (st : List Int), vs = [v, r, z] ∧ WebAt H v W ∧ W.Ok ∧ TT2 H r ru ∧ Ru0 W ru ∧ firstBad W ru = none ∧ TI H z st ∧ StOk W st ∧ Tabs Ps H ∧ ∀ H', Ext H H' → Q .non H'
def spTold (Ps : List Addr) : Sp := fun vs H Q _ => ∃ (v r z : V) (W : Web) (ru : List (List Int)) (st : List Int) (f : Int), vs = [v, r, z, .int f] ∧ WebAt H v W ∧ W.Ok ∧ TT2 H r ru ∧ Ru0 W ru ∧ firstBad W ru = none ∧ TI H z st ∧ StOk W st ∧ (0 ≤ f ∧ f < W.tops.length) ∧ Tabs Ps H ∧ ∀ H', Ext H H' → Q (.int (moodTold W ru st f)) H'
def spIsSettled (Ps : List Addr) : Sp := fun vs H Q _ => ∃ (v r z : V) (W : Web) (ru : List (List Int)) (st : List Int), vs = [v, r, z] ∧ WebAt H v W ∧ W.Ok ∧ TT2 H r ru ∧ Ru0 W ru ∧ firstBad W ru = none ∧ TI H z st ∧ StOk W st ∧ Tabs Ps H ∧ ∀ H', Ext H H' → Q (.bl (decide (stateTold W ru st = st))) H'
def spSettled (Ps : List Addr) (C : Addr) : Sp := fun vs H Q E => ∃ (v r : V) (W : Web) (ru : List (List Int)), vs = [v, r] ∧ WebAt H v W ∧ W.Ok ∧ TT2 H r ru ∧ Ru0 W ru ∧ Tabs Ps H ∧
  (firstBad W ru = none → ∀ H' u, Ext H H' → TT2 H' (.ref u) (settledStates W ru) → Q (.ref u) H') ∧ (∀ f, firstBad W ru = some f → ∀ H' d, Ext H H' → H d = none → H' d = some (.xd [("folk", .int (f : Nat))]) → E (.ref C) (some d) H')
/-- the states at the ticks -/
def ticks (W : Web) (ru : List (List Int)) (st : List Int) : Nat → List Int
  | 0 => st
  | n + 1 => stateTold W ru (ticks W ru st n)
def spRun (Ps : List Addr) : Sp := fun vs H Q _ => ∃ (v r z : V) (W : Web) (ru : List (List Int)) (st : List Int) (n : Nat), vs = [v, r, z, .int n] ∧ n ≤ 200 ∧ WebAt H v W ∧ W.Ok ∧ TT2 H r ru ∧ Ru0 W ru ∧ firstBad W ru = none ∧ TI H z st ∧ StOk W st ∧ Tabs Ps H ∧ ∀ H' u, Ext H H' → TT2 H' (.ref u) ((List.range (n + 1)).map (ticks W ru st)) → Q (.ref u) H'
theorem told_len (W : Web) (ru : List (List Int)) (st : List Int) : (stateTold W ru st).length = st.length := by unfold stateTold; rw [List.length_map, List.length_range]
theorem told_at {W : Web} {ru : List (List Int)} {st : List Int} {f : Int} (h0 : 0 ≤ f) (h1 : f < st.length) : stAt (stateTold W ru st) f = moodTold W ru st f := by
  unfold stAt stateTold
  rw [List.getD_eq_getElem?_getD, List.getElem?_map, List.getElem?_range (by omega)]
  show moodTold W ru st ((f.toNat : Nat) : Int) = _
  rw [show ((f.toNat : Nat) : Int) = f by omega]
theorem table_bd {W : Web} {f : Int} {tb : List Int} (h : isTable W f tb = true) : ∀ m ∈ tb, 0 ≤ m ∧ m ≤ topAt W f := by
  intro m hm
  unfold isTable at h
  rw [Bool.and_eq_true, Bool.and_eq_true] at h
  have := List.all_eq_true.mp h.1.2 m hm
  unfold isWhole at this
  rw [Bool.and_eq_true] at this
  exact ⟨of_decide_eq_true this.1, of_decide_eq_true this.2⟩
theorem told_ok {W : Web} (ok : W.Ok) {ru : List (List Int)} (r0 : Ru0 W ru) (hb : firstBad W ru = none) {st : List Int} (so : StOk W st) : StOk W (stateTold W ru st) := by
  refine ⟨by rw [told_len, so.len], fun f h0 h1 => ?_⟩
  rw [told_at h0 (by rw [so.len]; exact h1)]
  have ht := firstBad_none hb f h0 h1
  refine table_bd ht _ ?_
  unfold moodTold
  have rok := rules_ok r0 hb
  have hp := place_bd ok so (looksOf W f) 1 0 (fun l hl => (looksOf_ok ok l hl).1) (by decide) (by decide)
  have hl := rok.rows f h0 h1
  have hlt : (placeOf W st f).toNat < (ru.getD f.toNat []).length := by
    have h2 : placeOf W st f < manyRows W f := hp.2
    have h3 : 0 ≤ placeOf W st f := hp.1
    omega
  rw [List.getD_eq_getElem?_getD (l := ru.getD f.toNat []), List.getElem?_eq_getElem hlt]
  exact List.getElem_mem hlt
theorem ticks_ok {W : Web} (ok : W.Ok) {ru : List (List Int)} (r0 : Ru0 W ru) (hb : firstBad W ru = none) {st : List Int} (so : StOk W st) : ∀ n, StOk W (ticks W ru st n)
  | 0 => so
  | n + 1 => told_ok ok r0 hb (ticks_ok ok r0 hb so n)
section
variable {P : Program} {w : World} {K : PySem.W.Frag} {mg : Str → Option Value} {base : Heap} {Ps : List Addr} {C : Addr}
theorem ok_check_standing {f : Addr} {fd : FuncData} (F : Fun K "check_standing" "check_standing" s_check_standing f fd)
    (c_check_web : Cal P w K mg base CX0 6 "check_web" ["web"] (spCheckWeb Ps)) (c_check_rules : Cal P w K mg base (L2.CX P w) 6 "check_rules" ["web", "rules"] (spCheckRules Ps C))
    (c_check_state : Cal P w K mg base CX0 4 "check_state" ["web", "state"] (spCheckState Ps)) : FnOk P w K mg base CX0 7 f fd ["web", "rules", "state"] (spCheckStanding Ps) := by
  refine F.ok sc_check_standing (fun vs H Q E h => ?_) (fun cdv A outer s0 H vs Q E hr h => ?_)
  · obtain ⟨v, r, z, W, ru, st, rfl, _⟩ := h
    rfl
  · obtain ⟨v, r, z, W, ru, st, rfl, hW, ok, hru, r0, hb, hs, so, hTb, k⟩ := h
    refine ⟨_, (pss_cons (ps_expr (pe_c0 c_check_web (hr.mono (by decide)) (by rfl) (pa_cons (pv 0) pa_nil)))
      (pss_cons (ps_expr (pe_cal c_check_rules (hr.mono (by decide)) (by rfl) passL (pa_cons (pv 0) (pa_cons (pv 1) pa_nil))))
      (pss_one (ps_expr (pe_c0 c_check_state (hr.mono (by decide)) (by rfl) (pa_cons (pv 0) (pa_cons (pv 2) pa_nil))))))), ?_⟩
    refine ⟨_, rfl, _, W, rfl, hW, ok, hTb, fun H1 e1 => ?_⟩
    refine ⟨_, rfl, _, rfl, _, _, W, ru, rfl, hW.ext e1, ok, hru.ext e1, r0, hTb.ext e1, fun _ H2 e2 => ?_, fun f hf => by rw [hb] at hf; cases hf⟩
    have e3 := e1.trans e2
    exact ⟨_, rfl, _, rfl, _, _, W, st, rfl, hW.ext e3, ok, hs.ext e3, so, hTb.ext e3, fun H4 e4 => k H4 (e3.trans e4)⟩
end
end Lk


/-! ## Y1 -/
set_option Elab.async false
set_option linter.all false
set_option maxRecDepth 100000
set_option maxHeartbeats 4000000
/-! What is no web, no state, no number of somebody's: values of any depth. -/
namespace Lk
open PySem PySem.Spec PyProof.Rows L2 Gx
open GxR (TabG Tabbed TabB)
open RZ (ItzT pi_zipA)
variable [Own]
def spIsWholeD : Sp := fun vs H Q _ => ∃ (x : V) (d : PyData) (lo hi : Int), vs = [x, .int lo, .int hi] ∧ Dq H x d ∧ Q (.bl (isW d lo hi)) H
/-- a row of values, each within its top -/
def isZ (ds : List PyData) (tops : List Int) : Bool := (ds.zip tops).all fun p => isW p.1 0 p.2
def isStD (W : Web) : PyData → Bool
  | .tuple ds => decide (ds.length = W.tops.length) && isZ ds W.tops
  | _ => false
def spIsStateD (Ps : List Addr) : Sp := fun vs H Q _ => ∃ (v z : V) (W : Web) (d : PyData), vs = [v, z] ∧ WebAt H v W ∧ W.Few ∧ Dq H z d ∧ Tabs Ps H ∧ ∀ H', Ext H H' → Q (.bl (isStD W d)) H'
def spCheckStateD (Ps : List Addr) (C : Addr) : Sp := fun vs H Q E => ∃ (v z : V) (W : Web) (d : PyData), vs = [v, z] ∧ WebAt H v W ∧ W.Few ∧ Dq H z d ∧ Tabs Ps H ∧ (isStD W d = true → ∀ H', Ext H H' → Q .non H') ∧ (isStD W d = false → ∀ H', Ext H H' → E (.ref C) none H')
def spCheckFolkD (C : Addr) : Sp := fun vs H Q E => ∃ (v f : V) (W : Web) (d : PyData), vs = [v, f] ∧ WebAt H v W ∧ Dq H f d ∧ (isW d 0 (W.tops.length - 1) = true → Q .non H) ∧ (isW d 0 (W.tops.length - 1) = false → E (.ref C) none H)
section
variable {P : Program} {w : World} {K : PySem.W.Frag} {mg : Str → Option Value} {base : Heap} {Ps : List Addr} {C : Addr}
theorem ok_is_wholeD {f : Addr} {fd : FuncData} (F : Fun K "is_whole" "is_whole" sIsWhole f fd) (B : Blt mg) : FnOk P w K mg base CX0 1 f fd ["value", "least", "most"] spIsWholeD := by
  refine F.ok scIsWhole (fun vs H Q E h => ?_) (fun cdv A outer s H vs Q E hr h => ?_)
  · obtain ⟨x, d, lo, hi, rfl, _⟩ := h
    rfl
  · obtain ⟨x, d, lo, hi, rfl, hd, k⟩ := h
    refine ⟨_, pss_one (ps_ret (pe_and (pe_callB call_isi (by rfl) B.isi boot_isinstance (pa_cons (pv 0) (pa_cons (pe_bltn (v := .ty "int") (by rfl) B.int boot_tyInt rfl) pa_nil)))
      (pe_and (pe_not (pe_callB call_isi (by rfl) B.isi boot_isinstance (pa_cons (pv 0) (pa_cons (pe_bltn (v := .ty "bool") (by rfl) B.bool boot_tyBool rfl) pa_nil))))
      (pe_one (pe_chain op_le op_le (pv 1) (pv 0) (pv 2)))))), ?_⟩
    obtain ⟨T, r1, r2, ty, k1, k2, h | ⟨hn, h⟩⟩ := hd.tyInt (K := K)
    · obtain ⟨i, rfl, rfl, rfl, rfl⟩ := h
      refine ⟨_, rfl, _, _, _, _, true, rfl, .ty "int", ty, kit_ty k1, _, rfl, iteT ?_⟩
      refine ⟨_, rfl, _, _, _, _, false, rfl, .ty "bool", ty, kit_ty k2, _, rfl, _, rfl, iteT ?_⟩
      refine ⟨_, rfl, _, rfl, _, _, rfl, rfl, _, rfl, ?_⟩
      have k : Q (.bl (isWhole i lo hi)) H := k
      unfold isWhole at k
      by_cases h : lo ≤ i
      · rw [decide_eq_true h, Bool.true_and] at k
        rw [decide_eq_true h]
        refine iteT ?_
        refine ⟨_, rfl, _, _, rfl, rfl, ?_⟩
        exact k
      · rw [decide_eq_false h, Bool.false_and] at k
        rw [decide_eq_false h]
        exact iteF k
    · rw [hn lo hi] at k
      rcases h with rfl | ⟨rfl, rfl⟩
      · exact ⟨_, rfl, _, _, _, _, false, rfl, .ty "int", ty, kit_ty k1, _, rfl, iteF k⟩
      · refine ⟨_, rfl, _, _, _, _, true, rfl, .ty "int", ty, kit_ty k1, _, rfl, iteT ?_⟩
        exact ⟨_, rfl, _, _, _, _, true, rfl, .ty "bool", ty, kit_ty k2, _, rfl, _, rfl, iteF k⟩
theorem ok_check_folkD {f : Addr} {fd : FuncData} (F : Fun K "check_folk" "check_folk" s_check_folk f fd) (O : Own0 K mg "BadFolk" C) (B : Blt mg)
    (c_is_whole : Cal P w K mg base CX0 1 "is_whole" ["value", "least", "most"] spIsWholeD) : FnOk P w K mg base (L2.CX P w) 2 f fd ["web", "folk"] (spCheckFolkD C) := by
  refine F.okX sc_check_folk (fun vs H Q E h => ?_) (fun cdv A outer s0 H vs Q E hr h => ?_)
  · obtain ⟨v, f, W, d, rfl, _⟩ := h
    rfl
  · obtain ⟨v, f, W, d, rfl, hW, hd, k1, k2⟩ := h
    obtain ⟨a, t, l, rfl, ha, ⟨b, rfl, hb⟩, hl⟩ := id hW
    refine ⟨_, (pss_cons (ps_asg (pv 0) (pg_tupT (n := 2) rfl (pgs_cons (pg_name (i := 2) sc_check_folk.nd rfl (by first | exact Or.inl rfl | exact Or.inr rfl)) (pgs_cons (pg_name (i := 3) sc_check_folk.nd rfl (by first | exact Or.inl rfl | exact Or.inr rfl)) pgs_nil))))
      (pss_one (ps_if (pt_not (pt_val (pe_c0 c_is_whole (hr.mono (by decide)) (by rfl) (pa_cons (pv 1) (pa_cons pe_int (pa_cons (pe_op op_sub (pe_callB call_lenT (by rfl) B.len PySem.boot_len (pa_cons (pv 2) pa_nil)) pe_int) pa_nil))))))
        (pss_one (ps_raise0 rfl O (takes_of rfl rfl rfl rfl) (by rfl))) pss_nil))), ?_⟩
    refine ⟨_, rfl, a, _, rfl, ha, rfl, _, _, rfl, _, _, rfl, rfl, ?_⟩
    refine ⟨_, rfl, _, rfl, _, _, rfl, .inr hb, _, _, rfl, rfl, _, d, 0, W.tops.length - 1, by rw [iv_len]; rfl, hd, _, rfl, ?_⟩
    cases h : isW d 0 (W.tops.length - 1) with
    | true => exact iteF (k1 h)
    | false => exact iteT (k2 h)
theorem ok_is_stateD {f T : Addr} {fd : FuncData} (F : FunT K mg base Ps "is_state" s_is_state f fd T) (B : Blt mg)
    (c_is_whole : Cal P w K mg base CX0 1 "is_whole" ["value", "least", "most"] spIsWholeD) : FnOk P w K mg base CX0 3 f fd ["web", "value"] (spIsStateD Ps) := by
  refine F.ok sc_is_state (fun vs H Q E h => ?_) (fun c A outer s0 H vs Q E TB hr h => ?_)
  · obtain ⟨v, z, W, d, rfl, _⟩ := h
    rfl
  · obtain ⟨v, z, W, d, rfl, hW, ok, hd, hTb, k⟩ := h
    obtain ⟨a, t, l, rfl, ha, ⟨b, rfl, hb⟩, hl⟩ := id hW
    refine ⟨_, (pss_cons (ps_asg (pv 0) (pg_tupT (n := 2) rfl (pgs_cons (pg_name (i := 2) sc_is_state.nd rfl (by first | exact Or.inl rfl | exact Or.inr rfl)) (pgs_cons (pg_name (i := 3) sc_is_state.nd rfl (by first | exact Or.inl rfl | exact Or.inr rfl)) pgs_nil))))
      (pss_cons (ps_if (PW.pt (pw_or (pt_not (pt_val (pe_callB call_isi (by rfl) B.isi boot_isinstance (pa_cons (pv 1) (pa_cons (pe_bltn (v := .ty "tuple") (by rfl) B.tuple boot_tyTuple rfl) pa_nil))))) (pw_or1 (pt_cmpR op_ne (pe_callB call_lenT (by rfl) B.len PySem.boot_len (pa_cons (pv 1) pa_nil)) (pe_callB call_lenT (by rfl) B.len PySem.boot_len (pa_cons (pv 2) pa_nil)) (nomark _)))))
        (pss_one (ps_ret pe_bl)) pss_nil)
      (pss_one (ps_ret (pe_allG (own := [("mood", 4), ("top", 5)]) (k := 1) (hr.mono (by decide)) rfl sc_is_state.nd (by rfl) B.all TB rfl (pi_zipA (by rfl) B.zip (pa_cons (pv 1) (pa_cons (pv 2) pa_nil))) ⟨(blkOk_by (N := ["web", "value", "tops", "_", "mood", "top"]) (sc := defScope s_is_state) (by decide +kernel)), noCells_ok (by decide +kernel), rfl, rfl⟩ (fun _ _ _ _ _ _ => (pg_tupT (n := 2) rfl (pgs_cons (pg_name (i := 4) sc_is_state.nd rfl (by first | exact Or.inl rfl | exact Or.inr rfl)) (pgs_cons (pg_name (i := 5) sc_is_state.nd rfl (by first | exact Or.inl rfl | exact Or.inr rfl)) pgs_nil)))) (fun _ _ _ _ _ _ hr' => pts_nil) (fun _ _ _ _ _ _ hr' => (pe_c0 c_is_whole (hr'.mono (by decide)) (by rfl) (pa_cons (pv 4) (pa_cons pe_int (pa_cons (pv 5) pa_nil)))))))))), ?_⟩
    refine ⟨_, rfl, a, _, rfl, ha, rfl, _, _, rfl, _, _, rfl, rfl, ?_⟩
    obtain ⟨Ty, ty, kt⟩ := hd.ty (K := K)
    refine ⟨_, rfl, _, _, _, _, _, rfl, .ty "tuple", ty, kit_ty kt, _, rfl, ?_⟩
    cases hn : noTup d with
    | true =>
      have e0 : isStD W d = false := by
        cases d <;> first | rfl | cases hn
      rw [e0] at k
      exact iteT (k _ (Ext.refl _))
    | false =>
      obtain ⟨za, xs, ds, rfl, rfl, hza, hall⟩ := hd.tupOf hn
      have lx := hall.len
      refine iteF ?_
      refine ⟨_, rfl, _, _, rfl, .inr hza, _, rfl, _, _, rfl, .inr hb, rfl, _, rfl, ?_⟩
      by_cases hlen : ds.length = W.tops.length
      · rw [iv_len, lx, hlen, decide_eq_true rfl]
        refine iteF ?_
        have hg : TabG H T := hTb T F.mem
        refine ⟨_, rfl, _, rfl, za, b, xs, iv W.tops, rfl, .inr ⟨SqT.of hza, SqT.of hb, hg, fun H2 hT2 => ?_⟩⟩
        have E2 : Ext H H2 := Ext.tabbed F.nown hg hT2
        have est : isStD W (.tuple ds) = isZ ds W.tops := by
          show (decide (ds.length = W.tops.length) && isZ ds W.tops) = _
          rw [decide_eq_true hlen, Bool.true_and]
        rw [est] at k
        refine quant_it (walk_zipT (K := K) (n := ds.length) (xs := xs) (ys := iv W.tops) (by rw [iv_len, lx]; omega)) (fun i H' => Ext H2 H' ∧ ((ds.zip W.tops).take i).all (fun p => isW p.1 0 p.2) = true) ⟨Ext.refl _, rfl⟩ (fun i H' _ e => ⟨SqT.of (e.1.tup (E2.tup hza)), SqT.of (e.1.tup (E2.tup hb))⟩) (fun i x H' H'' hi ⟨e, hpre⟩ y => ?_) fun H' ⟨e, hpre⟩ => ?_
        · obtain ⟨u, x1, y1, rfl, hu, rfl, hx, hy⟩ := y
          obtain ⟨t, ht, rfl⟩ := iv_get hy
          obtain ⟨dx, hdx, hdq⟩ := DqAll.get _ _ _ _ hall hx
          have hz : (ds.zip W.tops)[i]? = some (dx, t) := by rw [List.getElem?_zip_eq_some]; exact ⟨hdx, ht⟩
          refine ⟨u, _, rfl, upd_same, rfl, _, _, rfl, _, _, rfl, rfl, rfl, yes ?_⟩
          have eu := e.trans (Ext.new hu (.tup [x1, V.int t]))
          refine ⟨_, rfl, _, rfl, x1, dx, 0, t, rfl, hdq.ext (E2.trans eu), _, rfl, ?_⟩
          cases hw : isW dx 0 t with
          | true =>
            rw [if_neg (by decide)]
            refine ⟨eu, ?_⟩
            rw [take_snoc hz, List.all_append, hpre]
            simp [hw]
          | false =>
            rw [if_pos rfl]
            have : isZ ds W.tops = false := by
              unfold isZ
              rw [List.all_eq_false]
              exact ⟨_, List.mem_of_getElem? hz, by rw [hw]; decide⟩
            rw [this] at k
            exact k _ (E2.trans eu)
        · have : isZ ds W.tops = true := by
            rw [List.take_of_length_le (by rw [List.length_zip]; omega)] at hpre
            exact hpre
          rw [this] at k
          exact k _ (E2.trans e)
      · have est : isStD W (.tuple ds) = false := by
          show (decide (ds.length = W.tops.length) && isZ ds W.tops) = _
          rw [decide_eq_false hlen, Bool.false_and]
        rw [est] at k
        rw [decide_eq_false (fun z => hlen (by have := V.int.inj z; rw [iv_len, lx] at this; omega))]
        exact iteT (k _ (Ext.refl _))
theorem ok_check_stateD {f : Addr} {fd : FuncData} (F : Fun K "check_state" "check_state" s_check_state f fd) (O : Own0 K mg "BadState" C)
    (c_is_state : Cal P w K mg base CX0 3 "is_state" ["web", "value"] (spIsStateD Ps)) : FnOk P w K mg base (L2.CX P w) 4 f fd ["web", "state"] (spCheckStateD Ps C) := by
  refine F.okX sc_check_state (fun vs H Q E h => ?_) (fun cdv A outer s0 H vs Q E hr h => ?_)
  · obtain ⟨v, z, W, d, rfl, _⟩ := h
    rfl
  · obtain ⟨v, z, W, d, rfl, hW, ok, hd, hTb, k1, k2⟩ := h
    refine ⟨_, (pss_one (ps_if (pt_not (pt_val (pe_c0 c_is_state (hr.mono (by decide)) (by rfl) (pa_cons (pv 0) (pa_cons (pv 1) pa_nil)))))
        (pss_one (ps_raise0 rfl O (takes_of rfl rfl rfl rfl) (by rfl))) pss_nil)), ?_⟩
    refine ⟨_, rfl, _, rfl, _, _, W, d, rfl, hW, ok, hd, hTb, fun H' e => ⟨_, rfl, ?_⟩⟩
    cases h : isStD W d with
    | true => exact iteF (k1 h H' e)
    | false => exact iteT (k2 h H' e)
end
end Lk


/-! ## D23 -/
set_option Elab.async false
set_option linter.all false
set_option maxRecDepth 100000
set_option maxHeartbeats 2000000
namespace Lk
open PySem PySem.Spec PyProof.Rows L2 Gx
open GxR (TabG Tabbed TabB)
variable [Own]
abbrev s__law_pick : Stmt := top 53
theorem sc__law_pick : FnScope ["row", "things"] ["row", "things"] (defScope s__law_pick) := ⟨rfl, rfl, rfl, by decide +kernel, rfl, by decide +kernel, by decide +kernel⟩
def spLawPick (K : PySem.W.Frag) : Sp := fun vs H Q _ => ∃ (r sc a : Addr) (ns : List Int) (xs : List V), vs = [.ref r, .ref a] ∧ Rw K H r sc ns ∧ H a = some (.lst xs) ∧ a ≠ r ∧ (0 < xs.length ∧ xs.length < 1000000) ∧
  ∀ H' v (j : Nat), ExtB r H H' → Rw K H' r sc ns → (∀ a, a ≠ r → H' a = H a) → xs[j]? = some v → Q v H'
section
variable {P : Program} {w : World} {K : PySem.W.Frag} {mg : Str → Option Value} {base : Heap} {Ps : List Addr}
theorem ok_law_pick {f : Addr} {fd : FuncData} (F : Fun K "_law_pick" "_law_pick" s__law_pick f fd) (B : Blt mg) (c__law_taken : Cal P w K mg base CX0 1 "_law_taken" ["row", "many"] (spTaken K)) : FnOk P w K mg base CX0 2 f fd ["row", "things"] (spLawPick K) := by
  refine F.ok sc__law_pick (fun vs H Q E h => ?_) (fun cdv A outer s0 H vs Q E hr h => ?_)
  · obtain ⟨r, sc, a, ns, xs, rfl, _⟩ := h
    rfl
  · obtain ⟨r, sc, a, ns, xs, rfl, hR, ha, har, hl, k⟩ := h
    refine ⟨_, (pss_one (ps_ret (pe_ix ix_lT (pv 1) (pe_c0 c__law_taken (hr.mono (by decide)) (by rfl) (pa_cons (pv 0) (pa_cons (pe_callB call_lenT (by rfl) B.len PySem.boot_len (pa_cons (pv 1) pa_nil)) pa_nil))) (fun _ _ => rfl)))), ?_⟩
    have hm : (0 : Int) < (xs.length : Int) ∧ (xs.length : Int) < 1000000 := ⟨by omega, by omega⟩
    refine ⟨_, rfl, _, rfl, _, rfl, a, xs, rfl, .inl ha, r, sc, ns, _, rfl, hR, hm, fun H1 i e1 hR1 same hi => ?_⟩
    have hlt : i.toNat < xs.length := by omega
    have hx : xs[i.toNat]? = some xs[i.toNat] := List.getElem?_eq_getElem hlt
    exact ⟨a, xs, _, _, rfl, rfl, e1.lst har ha, at_of (j := i.toNat) (by omega) hx, k H1 _ _ e1 hR1 same hx⟩
end
end Lk


/-! ## D22 -/
set_option Elab.async false
set_option linter.all false
set_option maxRecDepth 100000
set_option maxHeartbeats 2000000
namespace Lk
open PySem PySem.Spec PyProof.Rows L2 Gx
open GxR (TabG Tabbed TabB)
variable [Own]
abbrev s__law_seen : Stmt := top 51
theorem sc__law_seen : FnScope ["web", "folk", "one", "other", "sign"] ["web", "folk"] (defScope s__law_seen) := ⟨rfl, rfl, rfl, by decide +kernel, rfl, by decide +kernel, by decide +kernel⟩
abbrev spLawSeen : Sp := spLooksOf
section
variable {P : Program} {w : World} {K : PySem.W.Frag} {mg : Str → Option Value} {base : Heap} {Ps : List Addr}
theorem ok_law_seen {f : Addr} {fd : FuncData} (F : Fun K "_law_seen" "_law_seen" s__law_seen f fd) : FnOk P w K mg base CX0 1 f fd ["web", "folk"] spLawSeen := by
  refine F.ok sc__law_seen (fun vs H Q E h => ?_) (fun cdv A outer s H vs Q E hr h => ?_)
  · obtain ⟨v, W, n, rfl, _⟩ := h
    rfl
  · obtain ⟨v, W, n, rfl, ⟨a, t, l, rfl, ha, ht, ⟨b, ls, rfl, hb, hls⟩⟩, h14, k⟩ := h
    refine ⟨_, (pss_one (ps_ret (pe_lc (own := [("one", 2), ("other", 3), ("sign", 4)]) rfl sc__law_seen.nd (pi_tup (pe_ix ix_tT (pv 0) pe_int (fun _ _ => rfl))) (blkOk_by (N := ["web", "folk", "one", "other", "sign"]) (sc := defScope s__law_seen) (by decide +kernel)) (fun _ _ _ _ _ => (pg_tupT (n := 3) rfl (pgs_cons (pg_name (i := 2) sc__law_seen.nd rfl (by first | exact Or.inl rfl | exact Or.inr rfl)) (pgs_cons (pg_name (i := 3) sc__law_seen.nd rfl (by first | exact Or.inl rfl | exact Or.inr rfl)) (pgs_cons (pg_name (i := 4) sc__law_seen.nd rfl (by first | exact Or.inl rfl | exact Or.inr rfl)) pgs_nil))))) (fun _ _ _ _ _ => (pts_one (pt_cmpR op_eq (pv 3) (pv 1) (nomark _)))) (fun _ _ _ _ _ => (pe_tup (pa_cons (pv 2) (pa_cons (pv 4) pa_nil))))))), ?_⟩
    refine ⟨_, rfl, a, _, _, _, rfl, rfl, ha, rfl, b, rfl, ⟨_, SqT.of hb⟩, fun D hD => ?_⟩
    have llen : ls.length = W.looks.length := by rw [paired_len hls, List.length_map]
    refine lc_tup (xs := ls) (fun i H' => ∃ acc, H' D = some (.lst acc) ∧ Ext H H' ∧ acc.length ≤ i ∧ Paired (TI H') acc ((((W.looks.take i).filter fun l => l.2.1 == n).map fun l => (l.1, l.2.2)).map row2)) ⟨[], upd_same, Ext.new hD _, Nat.le_refl _, .nil⟩ (fun i H' _ ⟨_, _, e, _⟩ => SqT.of (e.tup hb)) (fun i x H' hi ⟨acc, hacc, e, hl, hp⟩ => ?_) fun H' ⟨acc, hacc, e, hl, hp⟩ => ?_
    · obtain ⟨row, hrow, hx⟩ := paired_get' (pTI.ext e hls) hi
      obtain ⟨lk, hlk, rfl⟩ : ∃ lk, W.looks[i]? = some lk ∧ row = row3 lk := by
        rw [List.getElem?_map] at hrow
        cases q : W.looks[i]? with
        | none => rw [q] at hrow; cases hrow
        | some lk => rw [q] at hrow; exact ⟨lk, rfl, (Option.some.inj hrow).symm⟩
      obtain ⟨p, rfl, hp1⟩ := hx
      have hi14 : i < 14 := by
        have := (List.getElem?_eq_some_iff.mp hlk).1
        omega
      refine ⟨p, _, rfl, hp1, rfl, _, _, rfl, _, _, rfl, _, _, rfl, rfl, rfl, ?_⟩
      refine ⟨_, rfl, _, rfl, rfl, _, rfl, ?_⟩
      rw [take_snoc hlk, List.filter_append]
      by_cases hf : lk.2.1 = n
      · have e1 : decide (V.int lk.2.1 = V.int n) = true := decide_eq_true (by rw [hf])
        have e2 : (lk.2.1 == n) = true := by rw [hf]; exact beq_self_eq_true n
        rw [e1]
        refine iteT ⟨_, rfl, _, rfl, (by show 2 ≤ sizeLine; decide), fun q hq => ?_⟩
        have dq : D ≠ q := ne_of_none hacc hq
        refine ⟨acc, by rw [upd_ne dq]; exact hacc, small1000 (by omega), acc ++ [.ref q], upd_same, (e.trans (Ext.new hq _)).put hD _, by rw [List.length_append]; simp; omega, ?_⟩
        have F1 : [lk].filter (fun l => l.2.1 == n) = [lk] := by rw [List.filter_cons, if_pos e2]; rfl
        rw [F1, List.map_append, List.map_append]
        refine paired_snoc ⟨q, rfl, by rw [upd_ne dq.symm]; exact upd_same⟩ ?_
        refine paired_mono (fun x r h => ?_) hp
        obtain ⟨z, rfl, hz⟩ := h
        exact ⟨z, rfl, by rw [upd_ne (ne_of hacc hz (by intro q; cases q)).symm, upd_ne (ne_of_none hz hq)]; exact hz⟩
      · have e1 : decide (V.int lk.2.1 = V.int n) = false := decide_eq_false (fun z => hf (by cases z; rfl))
        have e2 : (lk.2.1 == n) = false := by simpa using hf
        rw [e1]
        have F1 : [lk].filter (fun l => l.2.1 == n) = [] := by rw [List.filter_cons, e2]; rfl
        rw [F1, List.append_nil]
        exact iteF ⟨acc, hacc, e, by omega, hp⟩
    · rw [llen, List.take_length] at hp
      exact k H' D acc e hD hacc hp
end
end Lk


/-! ## D21 -/
set_option Elab.async false
set_option linter.all false
set_option maxRecDepth 100000
set_option maxHeartbeats 2000000
namespace Lk
open PySem PySem.Spec PyProof.Rows L2 Gx
open GxR (TabG Tabbed TabB)
variable [Own]
abbrev s__law_moods : Stmt := top 52
theorem sc__law_moods : FnScope ["tops", "found", "top", "longer", "row", "mood"] ["tops"] (defScope s__law_moods) := ⟨rfl, rfl, rfl, by decide +kernel, rfl, by decide +kernel, by decide +kernel⟩
def spLawMoods : Sp := fun vs H Q _ => ∃ (a : Addr) (k : Bool) (tops : List Int), vs = [.ref a] ∧ SqB k H a (iv tops) ∧ tops.length ≤ 6 ∧ (∀ t ∈ tops, 0 ≤ t ∧ t ≤ 3) ∧ ∀ H' p, Ext H H' → H p = none → LT2 H' (.ref p) (rowsOf tops) → Q (.ref p) H'
section
variable {P : Program} {w : World} {K : PySem.W.Frag} {mg : Str → Option Value} {base : Heap} {Ps : List Addr}
theorem ok_law_moods {f : Addr} {fd : FuncData} (F : Fun K "_law_moods" "_law_moods" s__law_moods f fd) (B : Blt mg) : FnOk P w K mg base CX0 1 f fd ["tops"] spLawMoods := by
  refine F.ok sc__law_moods (fun vs H Q E h => ?_) (fun cdv A outer s H vs Q E hr h => ?_)
  · obtain ⟨v, k, W, rfl, _⟩ := h
    rfl
  · obtain ⟨a, kk, tops, rfl, ha, h6, hT, k⟩ := h
    refine ⟨_, (pss_cons (ps_set (i := 1) sc__law_moods.nd rfl (by first | exact Or.inl rfl | exact Or.inr rfl) (pe_lst (pa_cons (pe_tup pa_nil) pa_nil)))
      (pss_cons (ps_for PassesOwn.never rfl (pi_seqV (pv 0)) (pg_name (i := 2) sc__law_moods.nd rfl (by first | exact Or.inl rfl | exact Or.inr rfl))
        (pss_cons (ps_set (i := 3) sc__law_moods.nd rfl (by first | exact Or.inl rfl | exact Or.inr rfl) (pe_lst pa_nil))
        (pss_cons (ps_for PassesOwn.never rfl (pi_list (pv 1)) (pg_name (i := 4) sc__law_moods.nd rfl (by first | exact Or.inl rfl | exact Or.inr rfl))
          (pss_one (ps_set (i := 3) sc__law_moods.nd rfl (by first | exact Or.inl rfl | exact Or.inr rfl) (pe_op op_cat (pv 3) (pe_lc (own := [("mood", 5)]) rfl sc__law_moods.nd (pi_range1 (by rfl) B.range (pa_cons (pe_op op_add (pv 2) pe_int) pa_nil)) (blkOk_by (N := ["tops", "found", "top", "longer", "row", "mood"]) (sc := defScope s__law_moods) (by decide +kernel)) (fun _ _ _ _ _ => (pg_name (i := 5) sc__law_moods.nd rfl (by first | exact Or.inl rfl | exact Or.inr rfl))) (fun _ _ _ _ _ => pts_nil) (fun _ _ _ _ _ => (pe_op op_catTT (pv 4) (pe_tup (pa_cons (pv 5) pa_nil)))))))))
        (pss_one (ps_set (i := 1) sc__law_moods.nd rfl (by first | exact Or.inl rfl | exact Or.inr rfl) (pv 3))))))
      (pss_one (ps_ret (pv 1))))), ?_⟩
    have rl : ∀ i, ((tops.take i).foldl rowsStep [[]]).length ≤ 4096 := fun i => by
      have h1 := rows_len4 (tops := tops.take i) (fun t ht => (hT t (List.mem_of_mem_take ht)).2) [[]]
      have h2 : 4 ^ (tops.take i).length ≤ 4 ^ 6 := Nat.pow_le_pow_right (by decide) (by rw [List.length_take]; omega)
      simp only [List.length_singleton, Nat.one_mul] at h1
      exact Nat.le_trans h1 h2
    refine ⟨(by show 0 ≤ sizeLine; decide), fun q hq => ⟨(by show 1 ≤ sizeLine; decide), fun p hp => ?_⟩⟩
    have hpq : p ≠ q := fun z => by rw [z, upd_same] at hp; cases hp
    have hp0 : H p = none := by rw [upd_ne hpq] at hp; exact hp
    have E1 : Ext H (upd (upd H q (.tup [])) p (.lst [.ref q])) := (Ext.new hq _).trans (Ext.new hp _)
    refine ⟨a, rfl, kk, iv tops, ha.ext E1, for_seq (K := K) (k := kk) (a := a) (xs := iv tops) (fun i σ H' => ∃ (r : Addr) (vs : List V) (o2 o3 o4 o5 : Option V), σ = [some (.ref a), some (.ref r), o2, o3, o4, o5] ∧ Ext H H' ∧ H r = none ∧ H' r = some (.lst vs) ∧ Paired (TI H') vs ((tops.take i).foldl rowsStep [[]]))
      ⟨p, _, none, none, none, none, rfl, E1, hp0, upd_same, .cons ⟨q, rfl, by rw [upd_ne hpq.symm]; exact upd_same⟩ .nil⟩ (fun i σ H' _ ⟨_, _, _, _, _, _, _, e, _⟩ => ha.ext e) ?_ ?_⟩
    · rintro i x σ H' hi ⟨r, vs, o2, o3, o4, o5, rfl, e, hr0, hvs, hpv⟩
      obtain ⟨t, ht, rfl⟩ := iv_get hi
      have hb := hT t (List.mem_of_getElem? ht)
      have lvs : vs.length ≤ 4096 := by rw [paired_len hpv]; exact rl i
      refine ⟨(by show 0 ≤ sizeLine; decide), fun L hL => ?_⟩
      have hLr : r ≠ L := ne_of_none hvs hL
      have EL : Ext H' (upd H' L (.lst [])) := Ext.new hL _
      refine ⟨_, rfl, r, rfl, ⟨_, SqL.of (EL.lst hvs)⟩, for_list (K := K) (a := r) (xs := vs) (fun j σ H2 => ∃ (L : Addr) (acc : List V) (o4 o5 : Option V), σ = [some (.ref a), some (.ref r), some (.int t), some (.ref L), o4, o5] ∧ Ext H' H2 ∧ H' L = none ∧ H2 L = some (.lst acc) ∧ acc.length = j * (t + 1).toNat ∧ Paired (TI H2) acc ((((tops.take i).foldl rowsStep [[]]).take j).flatMap fun r => (moods t).map fun m => r ++ [m]))
        ⟨L, [], _, _, rfl, EL, hL, upd_same, by simp, .nil⟩ (fun j σ H2 _ ⟨_, _, _, _, _, e2, _⟩ => SqL.of (e2.lst hvs)) ?_ ?_⟩
      · rintro j x σ H2 hj ⟨L, acc, o4, o5, rfl, e2, hL0, hacc, hl, hp2⟩
        obtain ⟨row, hrow, z, rfl, hz⟩ := paired_get' (pTI.ext e2 hpv) hj
        have hjv : j < vs.length := (List.getElem?_eq_some_iff.mp hj).1
        have rowlen : row.length ≤ 6 := by
          have h1 := rows_row (tops := tops.take i) (rows := [[]]) (n := 0) (fun r hr => by rw [List.mem_singleton.mp hr]; rfl) row (List.mem_of_getElem? hrow)
          rw [h1, List.length_take]
          omega
        refine ⟨_, rfl, _, rfl, _, _, rfl, rfl, t + 1, rfl, by omega, by omega, fun D hD => ?_⟩
        have hDL : L ≠ D := ne_of_none hacc hD
        refine lc_range (lo := 0) (n := (t + 1).toNat) (fun m H4 => ∃ acc2, H4 D = some (.lst acc2) ∧ Ext H2 H4 ∧ acc2.length = m ∧ Paired (TI H4) acc2 (((moods t).take m).map fun m => row ++ [m])) ⟨[], upd_same, Ext.new hD _, rfl, by simpa using Paired.nil⟩ (fun m H4 hm ⟨acc2, hacc2, e4, hl2, hp4⟩ => ?_) fun H4 ⟨acc2, hacc2, e4, hl2, hp4⟩ => ?_
        · have ei : (0 : Int) + (m : Int) = (m : Int) := Int.zero_add _
          rw [ei]
          have hz4 := e4.tup hz
          have fin : ∀ (H7 : Hp) (y : V), Ext H4 H7 → H7 D = some (.lst acc2) → TI H7 y (row ++ [(m : Int)]) → ∃ acc, H7 D = some (.lst acc) ∧ acc.length < sizeLine ∧ ∃ acc3, (upd H7 D (.lst (acc ++ [y]))) D = some (.lst acc3) ∧ Ext H2 (upd H7 D (.lst (acc ++ [y]))) ∧ acc3.length = m + 1 ∧
              Paired (TI (upd H7 D (.lst (acc ++ [y])))) acc3 (((moods t).take (m + 1)).map fun m => row ++ [m]) := by
            intro H7 y e7 h7 hy
            refine ⟨acc2, h7, small1000 (by omega), acc2 ++ [y], upd_same, (e4.trans e7).put hD _, by rw [List.length_append, hl2]; simp, ?_⟩
            have em : (moods t)[m]? = some (m : Int) := by
              unfold moods
              rw [List.getElem?_map, List.getElem?_range hm]
              rfl
            rw [List.take_add_one, em, List.map_append]
            exact pTI.put (H := H7) h7 (fun _ _ h => h) (paired_snoc hy (pTI.ext e7 hp4))
          refine ⟨rfl, yes ?_⟩
          refine ⟨_, rfl, _, rfl, (by show 1 ≤ sizeLine; decide), fun u hu => ?_⟩
          have hzu : z ≠ u := ne_of_none hz4 hu
          have hDu : D ≠ u := ne_of_none hacc2 hu
          refine ⟨z, u, iv row, _, rfl, rfl, by rw [upd_ne hzu]; exact hz4, upd_same, by rw [iv_len]; show row.length + 1 ≤ sizeLine; exact Nat.le_of_lt (small1000 (by omega)), fun e0 => ?_, (fun _ e0 => by cases e0), fun e0 _ v hv => ?_⟩
          · refine fin _ _ (Ext.new hu _) (by rw [upd_ne hDu]; exact hacc2) ⟨u, rfl, ?_⟩
            have r0 : row = [] := by
              cases row with
              | nil => rfl
              | cons a b => cases e0
            rw [upd_same, r0]
            rfl
          · have hDv : D ≠ v := fun z => by rw [z] at hDu hacc2; rw [upd_ne hDu, hacc2] at hv; cases hv
            refine fin _ _ ((Ext.new hu _).trans (Ext.new hv _)) (by rw [upd_ne hDv, upd_ne hDu]; exact hacc2) ⟨v, rfl, ?_⟩
            rw [upd_same]
            show some (HO.tup (iv row ++ [V.int (m : Int)])) = _
            unfold iv
            rw [List.map_append]
            rfl
        · have hm2 : (moods t).take (t + 1).toNat = moods t := List.take_of_length_le (by rw [moods_len]; exact Nat.le_refl _)
          rw [hm2] at hp4
          have la : acc.length + acc2.length ≤ 20000 := by
            rw [hl, hl2]
            have h3 : (t + 1).toNat ≤ 4 := by omega
            have h4 : j * (t + 1).toNat ≤ j * 4 := Nat.mul_le_mul_left _ h3
            omega
          refine ⟨L, D, acc, acc2, rfl, rfl, e4.lst hacc, hacc2, Nat.le_trans la (by decide), fun u hu => ?_⟩
          have hu2 : H2 u = none := e4.free hu
          refine ⟨u, acc ++ acc2, _, _, rfl, (e2.trans e4).trans (Ext.new hu _), e2.free hu2, upd_same, by rw [List.length_append, hl, hl2, Nat.add_mul, Nat.one_mul], ?_⟩
          rw [flatMap_take hrow]
          exact paired_app (pTI.ext (e4.trans (Ext.new hu _)) hp2) (pTI.ext (Ext.new hu _) hp4)
      · rintro σ H2 ⟨L, acc, o4, o5, rfl, e2, hL0, hacc, hl, hp2⟩
        refine ⟨_, rfl, L, acc, _, _, _, _, rfl, e.trans e2, e.free hL0, hacc, ?_⟩
        have hj2 : ((tops.take i).foldl rowsStep [[]]).take vs.length = (tops.take i).foldl rowsStep [[]] := List.take_of_length_le (by rw [paired_len hpv]; exact Nat.le_refl _)
        rw [hj2] at hp2
        rw [foldl_take ht]
        exact hp2
    · rintro σ H' ⟨r, vs, o2, o3, o4, o5, rfl, e, hr0, hvs, hpv⟩
      rw [iv_len, List.take_length] at hpv
      exact ⟨_, rfl, k H' r e hr0 ⟨r, vs, rfl, hvs, hpv⟩⟩
end
end Lk


/-! ## RwB -/
set_option Elab.async false
set_option linter.all false
set_option maxRecDepth 100000
set_option maxHeartbeats 2000000
/-! Heaps that have grown beside the row of draws. -/
namespace Lk
open PySem PySem.Spec PyProof.Rows L2 Gx
variable [Own]
theorem ExtB.put {r : Addr} {H0 H : Hp} {p : Addr} (e : ExtB r H0 H) (h : H0 p = none) (o : HO) : ExtB r H0 (L2.upd H p o) := ⟨fun a u n q t => by rw [upd_ne (ne_of_none q h)]; exact e.keep a u n q t, fun P ⟨ps, q, t⟩ => by
  obtain ⟨qs, q', t'⟩ := e.tab P ⟨ps, q, t⟩
  exact ⟨qs, by rw [upd_ne (ne_of_none q h)]; exact q', t'⟩, fun a u q => by
  obtain ⟨o', h'⟩ := e.tb a u q
  exact ⟨o', by rw [upd_ne (ne_of_none q h)]; exact h'⟩, fun P ps o q => by rw [upd_ne (ne_of_none q h)]; exact e.own P ps o q⟩
section
variable {K : PySem.W.Frag} {r sc : Addr} {ns : List Int} {H H' : Hp}
theorem Rw.tup (h : Rw K H r sc ns) (e : ExtB r H H') {a : Addr} {xs : List V} (q : H a = some (.tup xs)) : H' a = some (.tup xs) := by
  obtain ⟨_, h⟩ := h.lst
  exact e.tup h q
theorem Rw.TI (h : Rw K H r sc ns) (e : ExtB r H H') {v : V} {ns : List Int} (q : TI H v ns) : TI H' v ns := by
  obtain ⟨_, h⟩ := h.lst
  exact q.extB e h
theorem Rw.pTI (h : Rw K H r sc ns) (e : ExtB r H H') {vs : List V} {rows : List (List Int)} (q : Paired (Lk.TI H) vs rows) : Paired (Lk.TI H') vs rows := by
  obtain ⟨_, h⟩ := h.lst
  exact pTI.extB e h q
theorem Rw.web (h : Rw K H r sc ns) (e : ExtB r H H') {v : V} {W : Web} (q : WebAt H v W) : WebAt H' v W := by
  obtain ⟨_, h⟩ := h.lst
  exact q.extB e h
theorem Rw.ne_none (h : Rw K H r sc ns) {D : Addr} (q : H D = none) : D ≠ r := by
  obtain ⟨_, h⟩ := h.lst
  exact (ne_of_none h q).symm
theorem Rw.new (h : Rw K H r sc ns) {D : Addr} (q : H D = none) (o : HO) : Rw K (upd H D o) r sc ns := h.ext (Ext.new q o)
theorem Rw.put {H0 : Hp} (h : Rw K H r sc ns) (h0 : Rw K H0 r sc ns) {D : Addr} (q : H0 D = none) (o : HO) : Rw K (upd H D o) r sc ns := by
  obtain ⟨d, h⟩ := h
  obtain ⟨d0, h0⟩ := h0
  exact ⟨d, by rw [upd_ne (ne_of_none h0.row q)]; exact h.row, h.scr.put h0.scr q o, h.len, h.ok⟩
/-- a list that the draws leave -/
theorem same_at {D : Addr} (same : ∀ a, a ≠ r → H' a = H a) (n : D ≠ r) {o : Option HO} (h : H D = o) : H' D = o := by rw [same D n]; exact h
end
end Lk

/-! ## D26 -/
set_option Elab.async false
set_option linter.all false
set_option maxRecDepth 100000
set_option maxHeartbeats 2000000
namespace Lk
open PySem PySem.Spec PyProof.Rows L2 Gx
open GxR (TabG Tabbed TabB)
variable [Own]
/-- the law's rows, signs -/
def rowsAt (W : Web) (f : Int) : List (List Int) := rowsOf ((looksOf W f).map fun l => topAt W l.1)
def signsAt (W : Web) (f : Int) : List Int := (looksOf W f).map fun l => l.2
/-- marks at which a table rises: a row and a mood -/
abbrev Mark := List Int × Int
def maxOf (l : List Int) : Int := l.foldl (fun a b => if a < b then b else a) 0
def tableOf (signs : List Int) (rows : List (List Int)) (mks : List Mark) : List Int := rows.map fun one => maxOf ((mks.filter fun mk => lawGoes signs mk.1 one).map (·.2))
/-- a mark as a value -/
def MkAt (H : Hp) (v : V) (mk : Mark) : Prop := ∃ t z, v = .ref t ∧ H t = some (.tup [z, .int mk.2]) ∧ TI H z mk.1
abbrev s__law_table : Stmt := top 55
theorem sc__law_table : FnScope ["row", "web", "folk", "seen", "one", "sign", "rows", "signs", "marks", "turn", "found", "mark", "mood"] ["row", "web", "folk"] (defScope s__law_table) := ⟨rfl, rfl, rfl, by decide +kernel, rfl, by decide +kernel, by decide +kernel⟩
def spLawTable (K : PySem.W.Frag) : Sp := fun vs H Q _ => ∃ (r sc : Addr) (ns : List Int) (v : V) (W : Web) (f : Int), vs = [.ref r, v, .int f] ∧ Rw K H r sc ns ∧ WebAt H v W ∧ W.Ok ∧ (0 ≤ f ∧ f < W.tops.length) ∧
  ∀ H' u mks, ExtB r H H' → Rw K H' r sc ns → H u = none → (∀ mk ∈ mks, mk.1 ∈ rowsAt W f ∧ 0 ≤ mk.2 ∧ mk.2 ≤ topAt W f) → H' u = some (.tup (iv (tableOf (signsAt W f) (rowsAt W f) mks))) → Q (.ref u) H'
theorem foldmax : ∀ (l : List Int) (a : Int), (l.foldl (fun a b => if a < b then b else a) a) ∈ a :: l ∧ ∀ y ∈ a :: l, y ≤ l.foldl (fun a b => if a < b then b else a) a
  | [], a => ⟨List.mem_cons_self .., fun y hy => by
    rcases List.mem_cons.mp hy with h | h
    · rw [h]; exact Int.le_refl _
    · cases h⟩
  | b :: l, a => by
    obtain ⟨h1, h2⟩ := foldmax l (if a < b then b else a)
    rw [List.foldl_cons]
    refine ⟨?_, fun y hy => ?_⟩
    · rcases List.mem_cons.mp h1 with h | h
      · rw [h]
        split <;> simp
      · exact List.mem_cons_of_mem _ (List.mem_cons_of_mem _ h)
    · have h3 := h2 _ (List.mem_cons_self ..)
      rcases List.mem_cons.mp hy with h | hy
      · rw [h]
        refine Int.le_trans ?_ h3
        split <;> omega
      · rcases List.mem_cons.mp hy with h | hy
        · rw [h]
          refine Int.le_trans ?_ h3
          split <;> omega
        · exact h2 y (List.mem_cons_of_mem _ hy)
theorem maxOf_eq {l : List Int} {m : Int} (h1 : m ∈ (0 : Int) :: l) (h2 : ∀ y ∈ (0 : Int) :: l, y ≤ m) : m = maxOf l := by
  obtain ⟨g1, g2⟩ := foldmax l 0
  exact Int.le_antisymm (g2 m h1) (h2 _ g1)
theorem row2_at {H : Hp} {vs : List V} {ls : List (Int × Int)} {i : Nat} {x : V} (p : Paired (TI H) vs (ls.map row2)) (h : vs[i]? = some x) : ∃ l q, ls[i]? = some l ∧ x = .ref q ∧ H q = some (.tup [.int l.1, .int l.2]) := by
  obtain ⟨row, hrow, q, e, hq⟩ := paired_get' p h
  rw [List.getElem?_map] at hrow
  cases e2 : ls[i]? with
  | none => rw [e2] at hrow; cases hrow
  | some l =>
    rw [e2] at hrow
    obtain rfl := Option.some.inj hrow
    exact ⟨l, q, rfl, e, hq⟩
theorem rows_pos {tops : List Int} (h : ∀ t ∈ tops, 0 ≤ t) : ∀ rows : List (List Int), 0 < rows.length → 0 < (tops.foldl rowsStep rows).length := by
  induction tops with
  | nil => intro rows q; exact q
  | cons t ts ih =>
    intro rows q
    rw [List.foldl_cons]
    refine ih (fun t ht => h t (List.mem_cons_of_mem _ ht)) _ ?_
    rw [rowsStep_len]
    have := h t (List.mem_cons_self ..)
    exact Nat.mul_pos q (by omega)
theorem topsAt_ok {W : Web} (ok : W.Ok) (f : Int) : ∀ t ∈ (looksOf W f).map (fun l => topAt W l.1), 1 ≤ t ∧ t ≤ 3 := by
  intro t ht
  obtain ⟨l, hl, rfl⟩ := List.mem_map.mp ht
  have := (looksOf_ok ok l hl).1
  exact topAt_ok ok this.1 this.2
theorem rowsAt_len {W : Web} (ok : W.Ok) (f : Int) : 0 < (rowsAt W f).length ∧ (rowsAt W f).length ≤ 256 := by
  have ht := topsAt_ok ok f
  refine ⟨rows_pos (fun t h => by have := ht t h; omega) _ (by decide), ?_⟩
  have h1 := rows_len4 (fun t h => (ht t h).2) [[]]
  have h2 : 4 ^ ((looksOf W f).map fun l => topAt W l.1).length ≤ 4 ^ 4 := Nat.pow_le_pow_right (by decide) (by rw [List.length_map]; exact looks_len ok f)
  simp only [List.length_singleton, Nat.one_mul] at h1
  exact Nat.le_trans h1 h2
theorem rowsAt_row {W : Web} {f : Int} {r : List Int} (h : r ∈ rowsAt W f) : r.length = (looksOf W f).length := by
  have h1 := rows_row (tops := (looksOf W f).map fun l => topAt W l.1) (rows := [[]]) (n := 0) (fun r hr => by rw [List.mem_singleton.mp hr]; rfl) r (show r ∈ List.foldl rowsStep [[]] ((looksOf W f).map fun l => topAt W l.1) from h)
  rw [h1, List.length_map, Nat.zero_add]
theorem rowsAt_bd {W : Web} (ok : W.Ok) {f : Int} {r : List Int} (h : r ∈ rowsAt W f) : ∀ x ∈ r, 0 ≤ x ∧ x ≤ 3 := by
  intro x hx
  obtain ⟨h1, h2⟩ := rows_mem (tops := (looksOf W f).map fun l => topAt W l.1) h
  obtain ⟨i, hi, rfl⟩ := List.getElem_of_mem hx
  have h3 := h2 i (by omega)
  have e1 : r.getD i 0 = r[i] := by rw [List.getD_eq_getElem?_getD, List.getElem?_eq_getElem hi]; rfl
  have e2 : ((looksOf W f).map fun l => topAt W l.1).getD i 0 = ((looksOf W f).map fun l => topAt W l.1)[i]'(by omega) := by rw [List.getD_eq_getElem?_getD, List.getElem?_eq_getElem (by omega)]; rfl
  have h4 := topsAt_ok ok f _ (List.getElem_mem (l := (looksOf W f).map fun l => topAt W l.1) (n := i) (by omega))
  omega
theorem MkAt.extB {r : Addr} {H H' : Hp} {rs : List V} (e : ExtB r H H') (hr : H r = some (.lst rs)) {v : V} {mk : Mark} (h : MkAt H v mk) : MkAt H' v mk := by
  obtain ⟨t, z, q, h1, h2⟩ := h
  exact ⟨t, z, q, e.tup hr h1, h2.extB e hr⟩
theorem MkAt.ext {H H' : Hp} (e : Ext H H') {v : V} {mk : Mark} (h : MkAt H v mk) : MkAt H' v mk := by
  obtain ⟨t, z, q, h1, h2⟩ := h
  exact ⟨t, z, q, e.tup h1, h2.ext e⟩
theorem MkAt.put {H : Hp} {D : Addr} {acc : List V} {o : HO} (hD : H D = some (.lst acc)) {v : V} {mk : Mark} (h : MkAt H v mk) : MkAt (upd H D o) v mk := by
  obtain ⟨t, z, q, h1, a, q2, h2⟩ := h
  exact ⟨t, z, q, by rw [upd_ne (ne_of hD h1 (by intro q; cases q)).symm]; exact h1, a, q2, by rw [upd_ne (ne_of hD h2 (by intro q; cases q)).symm]; exact h2⟩
theorem signs_ok {W : Web} (ok : W.Ok) {f : Int} : ∀ s ∈ signsAt W f, s = 1 ∨ s = -1 := by
  intro s hs
  obtain ⟨l, hl, rfl⟩ := List.mem_map.mp hs
  exact (looksOf_ok ok l hl).2
section
variable {P : Program} {w : World} {K : PySem.W.Frag} {mg : Str → Option Value} {base : Heap} {Ps : List Addr}
theorem ok_law_table {f : Addr} {fd : FuncData} (F : Fun K "_law_table" "_law_table" s__law_table f fd) (B : Blt mg) (c__law_taken : Cal P w K mg base CX0 1 "_law_taken" ["row", "many"] (spTaken K))
    (c__law_seen : Cal P w K mg base CX0 1 "_law_seen" ["web", "folk"] spLawSeen) (c__law_moods : Cal P w K mg base CX0 1 "_law_moods" ["tops"] spLawMoods) (c__law_pick : Cal P w K mg base CX0 2 "_law_pick" ["row", "things"] (spLawPick K)) (c__law_goes : Cal P w K mg base CX0 1 "_law_goes" ["signs", "one", "other"] spLawGoes) :
    FnOk P w K mg base CX0 3 f fd ["row", "web", "folk"] (spLawTable K) := by
  refine F.ok sc__law_table (fun vs H Q E h => ?_) (fun cdv A outer s0 H vs Q E hr h => ?_)
  · obtain ⟨r, sc, ns, v, W, n, rfl, _⟩ := h
    rfl
  · obtain ⟨r, sc, ns, v, W, n, rfl, hR, hW, ok, hn, k⟩ := h
    refine ⟨_, (pss_cons (ps_set (i := 3) sc__law_table.nd rfl (by first | exact Or.inl rfl | exact Or.inr rfl) (pe_c0 c__law_seen (hr.mono (by decide)) (by rfl) (pa_cons (pv 1) (pa_cons (pv 2) pa_nil))))
      (pss_cons (ps_asg (pe_tup (pa_cons (pe_c0 c__law_moods (hr.mono (by decide)) (by rfl) (pa_cons (pe_lc (own := [("one", 4), ("sign", 5)]) rfl sc__law_table.nd (pi_list (pv 3)) (blkOk_by (N := ["row", "web", "folk", "seen", "one", "sign", "rows", "signs", "marks", "turn", "found", "mark", "mood"]) (sc := defScope s__law_table) (by decide +kernel)) (fun _ _ _ _ _ => (pg_tupT (n := 2) rfl (pgs_cons (pg_name (i := 4) sc__law_table.nd rfl (by first | exact Or.inl rfl | exact Or.inr rfl)) (pgs_cons (pg_name (i := 5) sc__law_table.nd rfl (by first | exact Or.inl rfl | exact Or.inr rfl)) pgs_nil)))) (fun _ _ _ _ _ => pts_nil) (fun _ _ _ _ _ => (pe_ix ix_tT (pe_ix ix_tT (pv 1) pe_int (fun _ _ => rfl)) (pv 4) (fun _ _ => rfl)))) pa_nil)) (pa_cons (pe_lc (own := [("one", 4), ("sign", 5)]) rfl sc__law_table.nd (pi_list (pv 3)) (blkOk_by (N := ["row", "web", "folk", "seen", "one", "sign", "rows", "signs", "marks", "turn", "found", "mark", "mood"]) (sc := defScope s__law_table) (by decide +kernel)) (fun _ _ _ _ _ => (pg_tupT (n := 2) rfl (pgs_cons (pg_name (i := 4) sc__law_table.nd rfl (by first | exact Or.inl rfl | exact Or.inr rfl)) (pgs_cons (pg_name (i := 5) sc__law_table.nd rfl (by first | exact Or.inl rfl | exact Or.inr rfl)) pgs_nil)))) (fun _ _ _ _ _ => pts_nil) (fun _ _ _ _ _ => (pv 5))) pa_nil))) (pg_tupT (n := 2) rfl (pgs_cons (pg_name (i := 6) sc__law_table.nd rfl (by first | exact Or.inl rfl | exact Or.inr rfl)) (pgs_cons (pg_name (i := 7) sc__law_table.nd rfl (by first | exact Or.inl rfl | exact Or.inr rfl)) pgs_nil))))
      (pss_cons (ps_set (i := 8) sc__law_table.nd rfl (by first | exact Or.inl rfl | exact Or.inr rfl) (pe_lst pa_nil))
      (pss_cons (ps_for PassesOwn.never rfl (pi_range1 (by rfl) B.range (pa_cons (pe_c0 c__law_taken (hr.mono (by decide)) (by rfl) (pa_cons (pv 0) (pa_cons pe_int pa_nil))) pa_nil)) (pg_name (i := 9) sc__law_table.nd rfl (by first | exact Or.inl rfl | exact Or.inr rfl))
        (pss_one (ps_expr (pe_bmL PySem.F.plainAttrs_list PySem.F.slot_list_append PySem.F.type_list_append mt_append (pv 8) (pa_cons (pe_tup (pa_cons (pe_c0 c__law_pick (hr.mono (by decide)) (by rfl) (pa_cons (pv 0) (pa_cons (pv 6) pa_nil))) (pa_cons (pe_c0 c__law_taken (hr.mono (by decide)) (by rfl) (pa_cons (pv 0) (pa_cons (pe_op op_add (pe_ix ix_tT (pe_ix ix_tT (pv 1) pe_int (fun _ _ => rfl)) (pv 2) (fun _ _ => rfl)) pe_int) pa_nil))) pa_nil))) pa_nil)))))
      (pss_cons (ps_set (i := 10) sc__law_table.nd rfl (by first | exact Or.inl rfl | exact Or.inr rfl) (pe_lst pa_nil))
      (pss_cons (ps_for PassesOwn.never rfl (pi_list (pv 6)) (pg_name (i := 4) sc__law_table.nd rfl (by first | exact Or.inl rfl | exact Or.inr rfl))
        (pss_one (ps_expr (pe_bmL PySem.F.plainAttrs_list PySem.F.slot_list_append PySem.F.type_list_append mt_append (pv 10) (pa_cons (pe_callB (cr_max rfl) (by rfl) B.max boot_max (pa_cons (pe_op op_cat (pe_lst (pa_cons pe_int pa_nil)) (pe_lc (own := [("mark", 11), ("mood", 12)]) rfl sc__law_table.nd (pi_list (pv 8)) (blkOk_by (N := ["row", "web", "folk", "seen", "one", "sign", "rows", "signs", "marks", "turn", "found", "mark", "mood"]) (sc := defScope s__law_table) (by decide +kernel)) (fun _ _ _ _ _ => (pg_tupT (n := 2) rfl (pgs_cons (pg_name (i := 11) sc__law_table.nd rfl (by first | exact Or.inl rfl | exact Or.inr rfl)) (pgs_cons (pg_name (i := 12) sc__law_table.nd rfl (by first | exact Or.inl rfl | exact Or.inr rfl)) pgs_nil)))) (fun _ _ _ _ _ => (pts_one (pt_val (pe_c0 c__law_goes (hr.mono (by decide)) (by rfl) (pa_cons (pv 7) (pa_cons (pv 11) (pa_cons (pv 4) pa_nil))))))) (fun _ _ _ _ _ => (pv 12)))) pa_nil)) pa_nil)))))
      (pss_one (ps_ret (pe_tupleL (by rfl) B.tuple (pv 10)))))))))), ?_⟩
    obtain ⟨a, t, l, rfl, ha, ⟨tt, rfl, ht⟩, hl⟩ := id hW
    refine ⟨_, rfl, _, rfl, _, W, n, rfl, hW, ok.most, fun H1 p vs E1 hp0 hp hvs => ?_⟩
    have R1 := hR.ext E1
    have lvs : vs.length = (looksOf W n).length := by rw [paired_len hvs, List.length_map]
    have l4 := looks_len ok n
    refine ⟨_, rfl, p, rfl, ⟨_, SqL.of hp⟩, fun D hD => ?_⟩
    refine lc_list (K := K) (a := p) (xs := vs) (fun i H' => H' D = some (.lst (iv (((looksOf W n).take i).map fun l => topAt W l.1))) ∧ Ext H1 H') ⟨by rw [upd_same]; rfl, Ext.new hD _⟩ (fun i H' _ ⟨_, e⟩ => SqL.of (e.lst hp)) (fun i x H' hi ⟨h1, e1⟩ => ?_) fun H2 ⟨h2, E2⟩ => ?_
    · obtain ⟨lk, q, hlk, rfl, hq⟩ := row2_at (pTI.ext e1 hvs) hi
      have lo := looksOf_ok ok lk (List.mem_of_getElem? hlk)
      refine ⟨q, _, rfl, hq, rfl, _, _, rfl, _, _, rfl, rfl, rfl, yes ?_⟩
      refine ⟨_, rfl, a, _, _, _, rfl, rfl, (E1.trans e1).tup ha, rfl, _, rfl, tt, _, _, _, rfl, rfl, (E1.trans e1).tup ht, at_of (j := lk.1.toNat) (by omega) (iv_at (topAt_get lo.1.1 lo.1.2)), _, h1, ?_, ?_, e1.put hD _⟩
      · rw [iv_len, List.length_map, List.length_take]
        exact small1000 (by omega)
      · rw [upd_same, take_snoc hlk, List.map_append]
        unfold iv
        rw [List.map_append]
        rfl
    rw [lvs, List.take_length] at h2
    have tk := topsAt_ok ok n
    refine ⟨D, true, _, rfl, h2, by rw [List.length_map]; omega, fun t ht => by have := tk t ht; omega, fun H3 rw_ E3 hrw0 hrw => ?_⟩
    have E13 := E2.trans E3
    refine ⟨_, rfl, p, rfl, ⟨_, SqL.of (E13.lst hp)⟩, fun D' hD' => ?_⟩
    refine lc_list (K := K) (a := p) (xs := vs) (fun i H' => H' D' = some (.lst (iv (((looksOf W n).take i).map fun l => l.2))) ∧ Ext H3 H') ⟨by rw [upd_same]; rfl, Ext.new hD' _⟩ (fun i H' _ ⟨_, e⟩ => SqL.of (e.lst (E13.lst hp))) (fun i x H' hi ⟨h1, e1⟩ => ?_) fun H4 ⟨h4, E4⟩ => ?_
    · obtain ⟨lk, q, hlk, rfl, hq⟩ := row2_at (pTI.ext (E13.trans e1) hvs) hi
      refine ⟨q, _, rfl, hq, rfl, _, _, rfl, _, _, rfl, rfl, rfl, yes ?_⟩
      refine ⟨_, rfl, _, h1, ?_, ?_, e1.put hD' _⟩
      · rw [iv_len, List.length_map, List.length_take]
        exact small1000 (by omega)
      · rw [upd_same, take_snoc hlk, List.map_append]
        unfold iv
        rw [List.map_append]
        rfl
    rw [lvs, List.take_length] at h4
    refine ⟨(by show 2 ≤ sizeLine; decide), fun u hu => ⟨u, _, rfl, upd_same, rfl, _, _, rfl, _, _, rfl, rfl, ?_⟩⟩
    refine ⟨(by show 0 ≤ sizeLine; decide), fun L hL => ?_⟩
    generalize hHb : upd H4 u _ = Hb at hL ⊢
    have EHb : Ext H4 Hb := by rw [← hHb]; exact Ext.new hu _
    have Eb : Ext H Hb := ((E1.trans E13).trans E4).trans EHb
    have Rb := hR.ext Eb
    have hWb := hW.ext Eb
    obtain ⟨rvs, hrws, hrvs⟩ : ∃ rvs, Hb rw_ = some (.lst rvs) ∧ Paired (TI Hb) rvs (rowsAt W n) := by
      obtain ⟨_, rvs, e, h, q⟩ := hrw.ext (E4.trans EHb)
      cases e
      exact ⟨rvs, h, q⟩
    have hsg : Hb D' = some (.lst (iv (signsAt W n))) := EHb.lst h4
    have hrwr : rw_ ≠ r := by
      have hz : H1 rw_ = none := E2.free hrw0
      exact (hR.ext E1).ne_none hz
    have hsgr : D' ≠ r := (hR.ext (E1.trans E13)).ne_none hD'
    have lrv : rvs.length = (rowsAt W n).length := paired_len hrvs
    have l256 := rowsAt_len ok n
    have tn := topAt_ok ok hn.1 hn.2
    clear hHb
    have hLr := Rb.ne_none hL
    refine ⟨_, rfl, r, sc, ns, _, rfl, Rb.new hL _, ⟨by decide, by decide⟩, fun H5 m E5 R5 same5 hm => ?_⟩
    refine ⟨_, rfl, by omega, by omega, for_range (lo := 0) (n := m.toNat) (fun i σ H' => ∃ (mv : List V) (mks : List Mark) (o4 o5 o9 o10 o11 o12 : Option V), σ = [some (.ref r), some (.ref a), some (.int n), some (.ref p), o4, o5, some (.ref rw_), some (.ref D'), some (.ref L), o9, o10, o11, o12] ∧ ExtB r Hb H' ∧ Rw K H' r sc ns ∧ H' L = some (.lst mv) ∧ Paired (MkAt H') mv mks ∧ mks.length = i ∧ ∀ mk ∈ mks, mk.1 ∈ rowsAt W n ∧ 0 ≤ mk.2 ∧ mk.2 ≤ topAt W n)
      ⟨[], [], none, none, none, none, none, none, rfl, (Ext.new hL _).b.trans E5, R5, same_at same5 hLr upd_same, .nil, rfl, fun _ h => by cases h⟩ ?_ ?_⟩
    · rintro i σ H' hi ⟨mv, mks, o4, o5, o9, o10, o11, o12, rfl, e, R, hLm, hmk, lmk, okm⟩
      refine ⟨_, rfl, ⟨L, mv, rfl, hLm⟩, _, rfl, _, rfl, r, sc, rw_, ns, rvs, rfl, R, e.lst hrwr hrws, hrwr, ⟨by omega, by omega⟩, fun H6 rv j E6 R6 same6 hrv => ?_⟩
      have e6 := e.trans E6
      have ha6 := Rb.tup e6 (Eb.tup ha)
      have ht6 := Rb.tup e6 (Eb.tup ht)
      refine ⟨_, rfl, _, rfl, a, _, _, _, rfl, rfl, ha6, rfl, _, rfl, tt, _, _, _, rfl, rfl, ht6, at_of (j := n.toNat) (by omega) (iv_at (topAt_get hn.1 hn.2)), _, _, rfl, rfl, r, sc, ns, _, rfl, R6, ⟨by omega, by omega⟩, fun H7 mm E7 R7 same7 hmm => ?_⟩
      refine ⟨(by show 2 ≤ sizeLine; decide), fun u hu => ?_⟩
      have e7 := e6.trans E7
      have hL7 : H7 L = some (.lst mv) := same_at same7 hLr (same_at same6 hLr hLm)
      have hLu : L ≠ u := ne_of_none hL7 hu
      obtain ⟨row, hrow, hz⟩ := paired_get' (Rb.pTI e7 hrvs) hrv
      have hlen := paired_len hmk
      refine ⟨L, mv, _, rfl, rfl, by rw [upd_ne hLu]; exact hL7, small1000 (by omega), mv ++ [.ref u], mks ++ [(row, mm)], _, _, _, _, _, _, rfl, (e7.trans (Ext.new hu _).b).put hL _, (R7.new hu _).put Rb hL _, upd_same, ?_, by rw [List.length_append, lmk]; rfl, fun mk hmk => ?_⟩
      · obtain ⟨_, hr'⟩ := R.lst
        have hp1 : Paired (MkAt (upd H7 u (.tup [rv, .int mm]))) mv mks := paired_mono (fun x y h => MkAt.ext (Ext.new hu _) (MkAt.extB (E6.trans E7) hr' h)) hmk
        have hp2 : Paired (MkAt (upd H7 u (.tup [rv, .int mm]))) (mv ++ [.ref u]) (mks ++ [(row, mm)]) := paired_snoc ⟨u, rv, rfl, upd_same, hz.ext (Ext.new hu _)⟩ hp1
        exact paired_mono (fun x y h => MkAt.put (by rw [upd_ne hLu]; exact hL7) h) hp2
      · rcases List.mem_append.mp hmk with h | h
        · exact okm mk h
        · rw [List.mem_singleton.mp h]
          exact ⟨List.mem_of_getElem? hrow, by show 0 ≤ mm; omega, by show mm ≤ topAt W n; omega⟩
    · rintro σ Hc ⟨mv, mks, o4, o5, o9, o10, o11, o12, rfl, ec, Rc, hLm, hmk, lmk, okm⟩
      have lmv := paired_len hmk
      have hrc := ec.lst hrwr hrws
      have hsc := ec.lst hsgr hsg
      have hrvc := Rb.pTI ec hrvs
      refine ⟨(by show 0 ≤ sizeLine; decide), fun M hM => ?_⟩
      refine ⟨_, rfl, rw_, rfl, ⟨_, SqL.of ((Ext.new hM _).lst hrc)⟩, for_list (K := K) (a := rw_) (xs := rvs) (fun i σ H' => ∃ (o4 o5 o9 o11 o12 : Option V), σ = [some (.ref r), some (.ref a), some (.int n), some (.ref p), o4, o5, some (.ref rw_), some (.ref D'), some (.ref L), o9, some (.ref M), o11, o12] ∧ Ext Hc H' ∧ H' M = some (.lst (iv (tableOf (signsAt W n) ((rowsAt W n).take i) mks))))
        ⟨_, _, _, _, _, rfl, Ext.new hM _, by rw [upd_same]; rfl⟩ (fun i σ H' _ ⟨_, _, _, _, _, _, e, _⟩ => SqL.of (e.lst hrc)) ?_ ?_⟩
      · rintro i x σ H' hi ⟨o4, o5, o9, o11, o12, rfl, e, hMi⟩
        obtain ⟨row, hrow, z, rfl, hz⟩ := paired_get' (pTI.ext e hrvc) hi
        have hrm := List.mem_of_getElem? hrow
        have hi2 : i < (rowsAt W n).length := (List.getElem?_eq_some_iff.mp hrow).1
        refine ⟨_, rfl, ⟨M, _, rfl, hMi⟩, (by show 1 ≤ sizeLine; decide), fun z0 hz0 => ?_⟩
        have ez := Ext.new hz0 (.lst [V.int 0])
        refine ⟨_, rfl, L, rfl, ⟨_, SqL.of (ez.lst (e.lst hLm))⟩, fun D2 hD2 => ?_⟩
        refine lc_list (K := K) (a := L) (xs := mv) (fun j H4 => H4 D2 = some (.lst (iv (((mks.take j).filter fun mk => lawGoes (signsAt W n) mk.1 row).map (·.2)))) ∧ Ext (upd H' z0 (.lst [V.int 0])) H4) ⟨by rw [upd_same]; rfl, Ext.new hD2 _⟩ (fun j H4 _ ⟨_, e4⟩ => SqL.of (e4.lst (ez.lst (e.lst hLm)))) (fun j x H4 hj ⟨h4, e4⟩ => ?_) fun H4 ⟨h4, e4⟩ => ?_
        · have E := (e.trans ez).trans e4
          obtain ⟨mk, hmkj, t', z', rfl, ht', hz'⟩ := paired_get' (paired_mono (fun x y h => h.ext E) hmk) hj
          have hmm := okm mk (List.mem_of_getElem? hmkj)
          refine ⟨t', _, rfl, ht', rfl, _, _, rfl, _, _, rfl, rfl, rfl, ?_⟩
          refine ⟨_, rfl, _, rfl, _, rfl, D', _, _, signsAt W n, mk.1, row, rfl, E.lst hsc, hz', ⟨z, rfl, (ez.trans e4).tup hz⟩, ?_, ?_, ?_, signs_ok ok, fun x hx => ?_, fun x hx => ?_, fun H5 e5 => ⟨_, rfl, ?_⟩⟩
          · rw [rowsAt_row hmm.1]; unfold signsAt; rw [List.length_map]
          · rw [rowsAt_row hrm]; unfold signsAt; rw [List.length_map]
          · unfold signsAt; rw [List.length_map]; omega
          · have := rowsAt_bd ok hmm.1 x hx; omega
          · have := rowsAt_bd ok hrm x hx; omega
          · rw [take_snoc hmkj, List.filter_append, List.map_append]
            refine ite_of (fun hg => ?_) (fun hg => ?_)
            · refine ⟨_, rfl, _, e5.lst h4, ?_, ?_, (e4.trans e5).put hD2 _⟩
              · rw [iv_len, List.length_map]
                have := List.length_filter_le (fun mk : Mark => lawGoes (signsAt W n) mk.1 row) (mks.take j)
                rw [List.length_take] at this
                exact small1000 (by omega)
              · rw [upd_same, List.filter_cons, if_pos hg]
                unfold iv
                rw [List.map_append]
                rfl
            · refine ⟨?_, e4.trans e5⟩
              rw [e5.lst h4, List.filter_cons, hg]
              simp
        · rw [lmv, List.take_length] at h4
          have hfl : ((mks.filter fun mk => lawGoes (signsAt W n) mk.1 row).map (·.2)).length ≤ 4 := by
            rw [List.length_map]
            have := List.length_filter_le (fun mk : Mark => lawGoes (signsAt W n) mk.1 row) mks
            omega
          refine ⟨z0, D2, _, _, rfl, rfl, e4.lst upd_same, h4, ?_, fun q hq => ?_⟩
          · rw [iv_len]
            exact Nat.le_of_lt (small1000 (by simp only [List.length_singleton]; omega))
          · have eq := Ext.new hq (.lst ([V.int 0] ++ iv ((mks.filter fun mk => lawGoes (signsAt W n) mk.1 row).map (·.2))))
            refine ⟨q, 0 :: (mks.filter fun mk => lawGoes (signsAt W n) mk.1 row).map (·.2), rfl, SqL.of upd_same, by simp, fun m hm1 hm2 => ?_⟩
            have EE := (ez.trans e4).trans eq
            refine ⟨M, _, _, rfl, rfl, EE.lst hMi, ?_, _, _, _, _, _, rfl, (e.trans EE).put hM _, ?_⟩
            · rw [iv_len]
              unfold tableOf
              rw [List.length_map, List.length_take]
              exact small1000 (by omega)
            · rw [upd_same, take_snoc hrow, maxOf_eq hm1 hm2]
              unfold tableOf iv
              rw [List.map_append, List.map_append]
              rfl
      · rintro σ H' ⟨o4, o5, o9, o11, o12, rfl, e, hMi⟩
        rw [lrv, List.take_length] at hMi
        refine ⟨_, rfl, M, _, rfl, hMi, fun u hu => ?_⟩
        have e' := (ec.trans e.b)
        exact k _ u mks ((Eb.b.trans e').trans (Ext.new hu _).b) ((Rc.ext e).new hu _) (Eb.free (e'.free hu)) okm upd_same
end
end Lk


/-! ## M1 -/
set_option Elab.async false
set_option linter.all false
set_option maxRecDepth 100000
set_option maxHeartbeats 2000000
/-! Tables: neighbours and all pairs of rows. -/
namespace Lk
open PySem PySem.Spec PyProof.Rows L2 Gx
variable [Own]
/-- an axis: how many moods, the sign -/
abbrev Ax := Nat × Int
def pr : List Ax → Nat
  | [] => 1
  | a :: r => a.1 * pr r
def rws : List Ax → List (List Int)
  | [] => [[]]
  | a :: r => (List.range a.1).flatMap fun x : Nat => (rws r).map fun b => (x : Int) :: b
theorem rws_cons (a : Ax) (r : List Ax) : rws (a :: r) = (List.range a.1).flatMap fun x : Nat => (rws r).map fun b => (x : Int) :: b := rfl
def AxOk (as : List Ax) : Prop := ∀ a ∈ as, 0 < a.1 ∧ (a.2 = 1 ∨ a.2 = -1)
theorem pr_pos : ∀ {as : List Ax}, AxOk as → 0 < pr as
  | [], _ => Nat.one_pos
  | a :: r, h => Nat.mul_pos (h a (List.mem_cons_self ..)).1 (pr_pos fun x hx => h x (List.mem_cons_of_mem _ hx))
theorem rws_len : ∀ as : List Ax, (rws as).length = pr as
  | [] => rfl
  | a :: r => by
    rw [rws_cons, pr, List.length_flatMap]
    have : ((List.range a.1).map fun x => ((rws r).map fun b => ((x : Nat) : Int) :: b).length) = (List.range a.1).map fun _ => pr r := List.map_congr_left fun x _ => by rw [List.length_map, rws_len r]
    rw [this, List.map_const', List.length_range, List.sum_replicate_nat]
theorem flat_at {α : Type} (g : Nat → List α) (m : Nat) (hg : ∀ x, (g x).length = m) : ∀ (k n p : Nat), 0 < m → p < n * m → ((List.range' k n).flatMap g)[p]? = (g (k + p / m))[p % m]?
  | k, 0, p, _, h => by simp at h
  | k, n + 1, p, h0, h => by
    rw [List.range'_succ, List.flatMap_cons]
    by_cases hp : p < m
    · rw [List.getElem?_append_left (by rw [hg]; exact hp), Nat.div_eq_of_lt hp, Nat.mod_eq_of_lt hp, Nat.add_zero]
    · have hp : m ≤ p := by omega
      rw [List.getElem?_append_right (by rw [hg]; exact hp), hg, flat_at g m hg (k + 1) n (p - m) h0 (by rw [Nat.add_mul, Nat.one_mul] at h; omega)]
      rw [Nat.mod_eq_sub_mod hp, Nat.div_eq_sub_div h0 hp]
      congr 2
      omega
theorem rws_get {a : Ax} {r : List Ax} (hr : 0 < pr r) {p : Nat} (h : p < a.1 * pr r) : (rws (a :: r))[p]? = ((rws r)[p % pr r]?).map fun b => ((p / pr r : Nat) : Int) :: b := by
  rw [rws_cons, List.range_eq_range', flat_at _ (pr r) (fun x => by rw [List.length_map, rws_len]) 0 a.1 p hr h, List.getElem?_map, Nat.zero_add]
theorem rws_at {a : Ax} {r : List Ax} {x b : Nat} {row : List Int} (hx : x < a.1) (hb : (rws r)[b]? = some row) : (rws (a :: r))[x * pr r + b]? = some ((x : Int) :: row) := by
  have hb' : b < pr r := by rw [← rws_len]; exact (List.getElem?_eq_some_iff.mp hb).1
  have hr : 0 < pr r := by omega
  have hlt : x * pr r + b < a.1 * pr r := by
    have : (x + 1) * pr r ≤ a.1 * pr r := Nat.mul_le_mul_right _ hx
    rw [Nat.add_mul, Nat.one_mul] at this
    omega
  rw [rws_get hr hlt]
  have e1 : (x * pr r + b) % pr r = b := by rw [Nat.add_comm, Nat.add_mul_mod_self_right, Nat.mod_eq_of_lt hb']
  have e2 : (x * pr r + b) / pr r = x := by rw [Nat.add_comm, Nat.add_mul_div_right _ _ hr, Nat.div_eq_of_lt hb', Nat.zero_add]
  rw [e1, e2, hb]
  rfl
theorem rws_cut {a : Ax} {r : List Ax} {p : Nat} {row : List Int} (h : (rws (a :: r))[p]? = some row) : ∃ (x b : Nat) (row' : List Int), x < a.1 ∧ p = x * pr r + b ∧ row = (x : Int) :: row' ∧ (rws r)[b]? = some row' := by
  have hlt : p < a.1 * pr r := by
    have := (List.getElem?_eq_some_iff.mp h).1
    rw [rws_len] at this
    exact this
  have hr : 0 < pr r := by
    rcases Nat.eq_zero_or_pos (pr r) with z | z
    · rw [z, Nat.mul_zero] at hlt; omega
    · exact z
  rw [rws_get hr hlt] at h
  cases e : (rws r)[p % pr r]? with
  | none => rw [e] at h; cases h
  | some row' =>
    rw [e] at h
    refine ⟨p / pr r, p % pr r, row', Nat.div_lt_of_lt_mul (by rw [Nat.mul_comm]; exact hlt), ?_, (Option.some.inj h).symm, e⟩
    rw [Nat.mul_comm]
    exact (Nat.div_add_mod p (pr r)).symm
/-- a row stands at one place alone -/
theorem rws_inj : ∀ {as : List Ax} {p q : Nat} {row : List Int}, (rws as)[p]? = some row → (rws as)[q]? = some row → p = q
  | [], p, q, row, h1, h2 => by
    have h1 := (List.getElem?_eq_some_iff.mp h1).1
    have h2 := (List.getElem?_eq_some_iff.mp h2).1
    simp only [rws, List.length_singleton] at h1 h2
    omega
  | a :: r, p, q, row, h1, h2 => by
    obtain ⟨x, b, r1, _, rfl, rfl, g1⟩ := rws_cut h1
    obtain ⟨y, c, r2, _, rfl, e, g2⟩ := rws_cut h2
    injection e with e1 e2
    have e1 : x = y := by omega
    subst e1 e2
    rw [rws_inj g1 g2]
theorem goes_refl : ∀ (ss : List Int) (xs : List Int), lawGoes ss xs xs = true
  | [], _ => by simp [lawGoes]
  | s :: ss, [] => by simp [lawGoes]
  | s :: ss, x :: xs => by simp [lawGoes, goes_refl ss xs]
theorem goes_trans : ∀ (ss xs ys zs : List Int), (∀ s ∈ ss, s = 1 ∨ s = -1) → ys.length = ss.length → lawGoes ss xs ys = true → lawGoes ss ys zs = true → lawGoes ss xs zs = true
  | [], xs, ys, zs, _, _, _, _ => by simp [lawGoes]
  | s :: ss, [], ys, zs, _, _, _, _ => by simp [lawGoes]
  | s :: ss, x :: xs, [], zs, _, h, _, _ => by simp at h
  | s :: ss, x :: xs, y :: ys, [], _, _, _, _ => by simp [lawGoes]
  | s :: ss, x :: xs, y :: ys, z :: zs, hs, hl, h1, h2 => by
    simp only [lawGoes, Bool.and_eq_true, Bool.not_eq_true', decide_eq_false_iff_not] at h1 h2 ⊢
    refine ⟨?_, goes_trans ss xs ys zs (fun s h => hs s (List.mem_cons_of_mem _ h)) (by simpa using hl) h1.2 h2.2⟩
    have g1 := h1.1
    have g2 := h2.1
    rcases hs s (List.mem_cons_self ..) with e | e <;> (subst e; omega)
/-- monotone between neighbours; between all -/
def Nb : List Ax → (Nat → Int) → Prop
  | [], _ => True
  | a :: r, T => (∀ x b, x + 1 < a.1 → b < pr r → 0 ≤ (T ((x + 1) * pr r + b) - T (x * pr r + b)) * a.2) ∧ ∀ x, x < a.1 → Nb r fun b => T (x * pr r + b)
def Al (as : List Ax) (T : Nat → Int) : Prop := ∀ p q xp xq, (rws as)[p]? = some xp → (rws as)[q]? = some xq → lawGoes (as.map (·.2)) xp xq = true → T p ≤ T q
theorem al_nb : ∀ (as : List Ax), AxOk as → ∀ T : Nat → Int, Al as T ↔ Nb as T
  | [], _, T => by
    refine ⟨fun _ => trivial, fun _ p q xp xq h1 h2 _ => ?_⟩
    have h1 := (List.getElem?_eq_some_iff.mp h1).1
    have h2 := (List.getElem?_eq_some_iff.mp h2).1
    simp only [rws, List.length_singleton] at h1 h2
    rw [show p = q by omega]
    exact Int.le_refl _
  | a :: r, h, T => by
    have ha := h a (List.mem_cons_self ..)
    have hr : AxOk r := fun x hx => h x (List.mem_cons_of_mem _ hx)
    have hp := pr_pos hr
    refine ⟨fun A => ⟨fun x b hx hb => ?_, fun x hx => ?_⟩, fun ⟨N1, N2⟩ p q xp xq h1 h2 g => ?_⟩
    · have hb2 : b < (rws r).length := by rw [rws_len]; exact hb
      have e := List.getElem?_eq_getElem hb2
      have e1 := rws_at (a := a) (r := r) (x := x) (by omega) e
      have e2 := rws_at (a := a) (r := r) (x := x + 1) (by omega) e
      rcases ha.2 with s | s
      · have := A _ _ _ _ e1 e2 (by
          rw [List.map_cons, s]
          simp only [lawGoes, goes_refl, Bool.and_true, Bool.not_eq_true', decide_eq_false_iff_not]
          omega)
        rw [s]
        omega
      · have := A _ _ _ _ e2 e1 (by
          rw [List.map_cons, s]
          simp only [lawGoes, goes_refl, Bool.and_true, Bool.not_eq_true', decide_eq_false_iff_not]
          omega)
        rw [s]
        omega
    · refine (al_nb r hr _).mp fun p q xp xq h1 h2 g => ?_
      refine A _ _ _ _ (rws_at hx h1) (rws_at hx h2) ?_
      rw [List.map_cons]
      simp only [lawGoes, g, Bool.and_true, Bool.not_eq_true', decide_eq_false_iff_not, Int.sub_self, Int.mul_zero]
      omega
    · obtain ⟨x, b, r1, hx, rfl, rfl, g1⟩ := rws_cut h1
      obtain ⟨y, c, r2, hy, rfl, rfl, g2⟩ := rws_cut h2
      rw [List.map_cons] at g
      simp only [lawGoes, Bool.and_eq_true, Bool.not_eq_true', decide_eq_false_iff_not] at g
      have s1 : T (x * pr r + b) ≤ T (x * pr r + c) := (al_nb r hr _).mpr (N2 x hx) b c r1 r2 g1 g2 g.2
      have hc : c < pr r := by rw [← rws_len]; exact (List.getElem?_eq_some_iff.mp g2).1
      refine Int.le_trans s1 ?_
      rcases ha.2 with s | s
      · have hxy : x ≤ y := by
          have := g.1
          rw [s] at this
          omega
        have : ∀ d, x + d < a.1 → T (x * pr r + c) ≤ T ((x + d) * pr r + c) := by
          intro d
          induction d with
          | zero => intro _; exact Int.le_refl _
          | succ d ih =>
            intro hd
            have := N1 (x + d) c (by omega) hc
            rw [s] at this
            have := ih (by omega)
            rw [show x + (d + 1) = x + d + 1 by omega]
            omega
        have := this (y - x) (by omega)
        rw [show x + (y - x) = y by omega] at this
        exact this
      · have hxy : y ≤ x := by
          have := g.1
          rw [s] at this
          omega
        have : ∀ d, y + d < a.1 → T ((y + d) * pr r + c) ≤ T (y * pr r + c) := by
          intro d
          induction d with
          | zero => intro _; exact Int.le_refl _
          | succ d ih =>
            intro hd
            have := N1 (y + d) c (by omega) hc
            rw [s] at this
            have := ih (by omega)
            rw [show y + (d + 1) = y + d + 1 by omega]
            omega
        have := this (x - y) (by omega)
        rw [show y + (x - y) = x by omega] at this
        exact this
def Cn (T : Nat → Int) (n s z : Nat) (sg : Int) : Prop := ∀ p, p < n → p / s % z < z - 1 → 0 ≤ (T (p + s) - T p) * sg
def Ga (T : Nat → Int) (n : Nat) : List Ax → Prop
  | [] => True
  | a :: r => Cn T n (pr r) a.1 a.2 ∧ Ga T n r
theorem ga_nb : ∀ (as : List Ax), AxOk as → ∀ (T : Nat → Int) (k : Nat), Ga T (k * pr as) as ↔ ∀ x, x < k → Nb as fun b => T (x * pr as + b)
  | [], _, T, k => ⟨fun _ _ _ => trivial, fun _ => trivial⟩
  | a :: r, h, T, k => by
    have ha := h a (List.mem_cons_self ..)
    have hr : AxOk r := fun x hx => h x (List.mem_cons_of_mem _ hx)
    have hp := pr_pos hr
    have en : k * pr (a :: r) = k * a.1 * pr r := by rw [pr, Nat.mul_assoc]
    have ee : ∀ x y b : Nat, x * pr (a :: r) + (y * pr r + b) = (x * a.1 + y) * pr r + b := fun x y b => by
      rw [pr, Nat.add_mul, ← Nat.mul_assoc, Nat.add_assoc]
    rw [Ga, en, ga_nb r hr T (k * a.1)]
    constructor
    · rintro ⟨C, N⟩ x hx
      refine ⟨fun y b hy hb => ?_, fun y hy => ?_⟩
      · show 0 ≤ (T (x * pr (a :: r) + ((y + 1) * pr r + b)) - T (x * pr (a :: r) + (y * pr r + b))) * a.2
        rw [ee, ee]
        have hlt : x * a.1 + y < k * a.1 := by
          have : (x + 1) * a.1 ≤ k * a.1 := Nat.mul_le_mul_right _ hx
          rw [Nat.add_mul, Nat.one_mul] at this
          omega
        have d1 : ((x * a.1 + y) * pr r + b) / pr r = x * a.1 + y := by rw [Nat.add_comm, Nat.add_mul_div_right _ _ hp, Nat.div_eq_of_lt hb, Nat.zero_add]
        have d2 : (x * a.1 + y) % a.1 = y := by rw [Nat.add_comm, Nat.add_mul_mod_self_right, Nat.mod_eq_of_lt (by omega)]
        have := C ((x * a.1 + y) * pr r + b) (by
          have : (x * a.1 + y + 1) * pr r ≤ k * a.1 * pr r := Nat.mul_le_mul_right _ hlt
          rw [Nat.add_mul, Nat.one_mul] at this
          omega) (by rw [d1, d2]; omega)
        rw [show (x * a.1 + (y + 1)) * pr r + b = (x * a.1 + y) * pr r + b + pr r by rw [← Nat.add_assoc, Nat.add_mul (x * a.1 + y), Nat.one_mul]; omega]
        exact this
      · have := N (x * a.1 + y) (by
          have : (x + 1) * a.1 ≤ k * a.1 := Nat.mul_le_mul_right _ hx
          rw [Nat.add_mul, Nat.one_mul] at this
          omega)
        have e : (fun b => T (x * pr (a :: r) + (y * pr r + b))) = fun b => T ((x * a.1 + y) * pr r + b) := funext fun b => by rw [ee]
        show Nb r fun b => T (x * pr (a :: r) + (y * pr r + b))
        rw [e]
        exact this
    · intro N
      refine ⟨fun p hpn hd => ?_, fun x' hx' => ?_⟩
      · have e1 : p = p / pr r * pr r + p % pr r := by rw [Nat.mul_comm]; exact (Nat.div_add_mod p (pr r)).symm
        have e2 : p / pr r = p / pr r / a.1 * a.1 + p / pr r % a.1 := by rw [Nat.mul_comm]; exact (Nat.div_add_mod _ a.1).symm
        have c1 : p % pr r < pr r := Nat.mod_lt _ hp
        have c2 : p / pr r < k * a.1 := Nat.div_lt_of_lt_mul (by rw [Nat.mul_comm]; exact hpn)
        have c3 : p / pr r / a.1 < k := Nat.div_lt_of_lt_mul (by rw [Nat.mul_comm]; exact c2)
        obtain ⟨N1, _⟩ := N _ c3
        have := N1 (p / pr r % a.1) (p % pr r) (by omega) c1
        have this : 0 ≤ (T (p / pr r / a.1 * pr (a :: r) + ((p / pr r % a.1 + 1) * pr r + p % pr r)) - T (p / pr r / a.1 * pr (a :: r) + (p / pr r % a.1 * pr r + p % pr r))) * a.2 := this
        rw [ee, ee] at this
        rw [show p / pr r / a.1 * a.1 + (p / pr r % a.1 + 1) = p / pr r + 1 by omega, ← e2, ← e1] at this
        rw [show (p / pr r + 1) * pr r + p % pr r = p + pr r by rw [Nat.add_mul, Nat.one_mul]; omega] at this
        exact this
      · have e2 : x' = x' / a.1 * a.1 + x' % a.1 := by rw [Nat.mul_comm]; exact (Nat.div_add_mod _ a.1).symm
        have c3 : x' / a.1 < k := Nat.div_lt_of_lt_mul (by rw [Nat.mul_comm]; exact hx')
        obtain ⟨_, N2⟩ := N _ c3
        have := N2 (x' % a.1) (Nat.mod_lt _ ha.1)
        have this : Nb r fun b => T (x' / a.1 * pr (a :: r) + (x' % a.1 * pr r + b)) := this
        have e : (fun b => T (x' / a.1 * pr (a :: r) + (x' % a.1 * pr r + b))) = fun b => T (x' * pr r + b) := funext fun b => by rw [ee, ← e2]
        rw [e] at this
        exact this
theorem ga_al {as : List Ax} (h : AxOk as) (T : Nat → Int) : Ga T (pr as) as ↔ Al as T := by
  have := ga_nb as h T 1
  rw [Nat.one_mul] at this
  rw [this, al_nb as h T]
  constructor
  · intro N
    have := N 0 Nat.one_pos
    simpa using this
  · intro N x hx
    have : x = 0 := by omega
    subst this
    simpa using N
theorem goes_cn {tb : List Int} {s z : Nat} {sg : Int} : goesAlong tb s z sg = true ↔ Cn (fun p => tb.getD p 0) tb.length s z sg := by
  unfold goesAlong placesOf Cn
  rw [List.all_eq_true]
  constructor
  · intro h p hp hd
    exact of_decide_eq_true (h p (List.mem_filter.mpr ⟨List.mem_range.mpr hp, decide_eq_true hd⟩))
  · intro h p hp
    obtain ⟨h1, h2⟩ := List.mem_filter.mp hp
    exact decide_eq_true (h p (List.mem_range.mp h1) (of_decide_eq_true h2))
/-- the axes of looks -/
def axes (W : Web) (ls : List (Int × Int)) : List Ax := ls.map fun l => ((topAt W l.1 + 1).toNat, l.2)
theorem pr_prod (W : Web) : ∀ ls : List (Int × Int), pr (axes W ls) = prodOf W ls
  | [] => rfl
  | l :: ls => by
    rw [prod_cons, ← pr_prod W ls]
    rfl
theorem loop_ga {W : Web} {tb : List Int} : ∀ (rs done : List (Int × Int)), (goLoop W tb rs (prodOf W done) = true ∧ Ga (fun p => tb.getD p 0) tb.length (axes W done)) ↔ Ga (fun p => tb.getD p 0) tb.length (axes W (rs.reverse ++ done))
  | [], done => by simp [goLoop]
  | l :: rs, done => by
    rw [List.reverse_cons, List.append_assoc]
    show _ ↔ Ga _ _ (axes W (rs.reverse ++ (l :: done)))
    rw [← loop_ga rs (l :: done), prod_cons, goLoop, Bool.and_eq_true, goes_cn]
    show _ ↔ _ ∧ Ga _ _ (((topAt W l.1 + 1).toNat, l.2) :: axes W done)
    rw [Ga, pr_prod, Nat.mul_comm (topAt W l.1 + 1).toNat]
    constructor
    · rintro ⟨⟨h1, h2⟩, h3⟩
      exact ⟨h2, h1, h3⟩
    · rintro ⟨h2, h1, h3⟩
      exact ⟨⟨h1, h2⟩, h3⟩
theorem axes_ok {W : Web} (ok : W.Ok) (f : Int) : AxOk (axes W (looksOf W f)) := by
  intro a ha
  obtain ⟨l, hl, rfl⟩ := List.mem_map.mp ha
  have h := looksOf_ok ok l hl
  have := topAt_ok ok h.1.1 h.1.2
  exact ⟨by show 0 < (topAt W l.1 + 1).toNat; omega, h.2⟩
/-- what is a table -/
theorem isTable_iff {W : Web} (ok : W.Ok) {f : Int} {tb : List Int} : isTable W f tb = true ↔ tb.length = pr (axes W (looksOf W f)) ∧ (∀ m ∈ tb, 0 ≤ m ∧ m ≤ topAt W f) ∧ Al (axes W (looksOf W f)) fun p => tb.getD p 0 := by
  unfold isTable
  rw [Bool.and_eq_true, Bool.and_eq_true, many_eq ok, decide_eq_true_iff, List.all_eq_true, ← pr_prod]
  have hb : (∀ x ∈ tb, isWhole x 0 (topAt W f) = true) ↔ ∀ m ∈ tb, 0 ≤ m ∧ m ≤ topAt W f := by
    unfold isWhole
    simp only [Bool.and_eq_true, decide_eq_true_iff]
  rw [hb]
  have hl := loop_ga (W := W) (tb := tb) (looksOf W f).reverse []
  rw [List.reverse_reverse, List.append_nil] at hl
  have hl2 : goLoop W tb (looksOf W f).reverse 1 = true ↔ Ga (fun p => tb.getD p 0) tb.length (axes W (looksOf W f)) := by
    rw [← hl]
    exact ⟨fun h => ⟨h, trivial⟩, fun h => h.1⟩
  rw [hl2]
  constructor
  · rintro ⟨⟨h1, h2⟩, h3⟩
    have h1 : tb.length = pr (axes W (looksOf W f)) := by omega
    rw [h1, ga_al (axes_ok ok f)] at h3
    exact ⟨h1, h2, h3⟩
  · rintro ⟨h1, h2, h3⟩
    rw [h1, ga_al (axes_ok ok f)]
    exact ⟨⟨rfl, h2⟩, h3⟩
theorem step_rws (W : Web) : ∀ (ls : List (Int × Int)) (rows : List (List Int)), (ls.map fun l => topAt W l.1).foldl rowsStep rows = rows.flatMap fun q => (rws (axes W ls)).map fun b => q ++ b
  | [], rows => by simp [axes, rws]
  | l :: ls, rows => by
    rw [List.map_cons, List.foldl_cons, step_rws W ls]
    unfold rowsStep
    rw [List.flatMap_assoc]
    congr 1
    funext q
    show _ = List.map _ (rws (((topAt W l.1 + 1).toNat, l.2) :: axes W ls))
    rw [rws_cons]
    unfold moods
    rw [List.map_flatMap, List.flatMap_map, List.flatMap_map]
    congr 1
    funext x
    rw [List.map_map]
    congr 1
    funext b
    simp
theorem rowsAt_rws (W : Web) (f : Int) : rowsAt W f = rws (axes W (looksOf W f)) := by
  unfold rowsAt rowsOf
  rw [step_rws]
  simp
theorem place_step (W : Web) (st : List Int) : ∀ (ls : List (Int × Int)) (p : Int), (∀ l ∈ ls, 0 ≤ topAt W l.1) → ls.foldl (placeStep W st) p = p * (pr (axes W ls) : Nat) + ls.foldl (placeStep W st) 0
  | [], p, _ => by simp [axes, pr]
  | l :: ls, p, h => by
    have h1 := h l (List.mem_cons_self ..)
    have h2 : ∀ l ∈ ls, 0 ≤ topAt W l.1 := fun x hx => h x (List.mem_cons_of_mem _ hx)
    rw [List.foldl_cons, List.foldl_cons, place_step W st ls _ h2, place_step W st ls (placeStep W st 0 l) h2]
    show _ = p * ((((topAt W l.1 + 1).toNat * pr (axes W ls) : Nat)) : Int) + _
    rw [Int.natCast_mul, show (((topAt W l.1 + 1).toNat : Nat) : Int) = topAt W l.1 + 1 by omega]
    unfold placeStep
    rw [Int.zero_mul, Int.zero_add, Int.add_mul, Int.mul_assoc, Int.add_assoc]
/-- the place of a row -/
theorem place_row {W : Web} {st : List Int} : ∀ {ls : List (Int × Int)}, (∀ l ∈ ls, 0 ≤ stAt st l.1 ∧ stAt st l.1 ≤ topAt W l.1) → 0 ≤ ls.foldl (placeStep W st) 0 ∧ (rws (axes W ls))[(ls.foldl (placeStep W st) 0).toNat]? = some (ls.map fun l => stAt st l.1)
  | [], _ => ⟨Int.le_refl _, rfl⟩
  | l :: ls, h => by
    have h1 := h l (List.mem_cons_self ..)
    obtain ⟨i0, i1⟩ := place_row (W := W) (st := st) (ls := ls) fun x hx => h x (List.mem_cons_of_mem _ hx)
    have ht : ∀ l ∈ ls, 0 ≤ topAt W l.1 := fun x hx => by have := h x (List.mem_cons_of_mem _ hx); omega
    rw [List.foldl_cons, place_step W st ls _ ht]
    have e : placeStep W st 0 l = stAt st l.1 := by unfold placeStep; rw [Int.zero_mul, Int.zero_add]
    rw [e]
    have hm : 0 ≤ stAt st l.1 * ((pr (axes W ls) : Nat) : Int) := Int.mul_nonneg h1.1 (Int.natCast_nonneg _)
    refine ⟨by omega, ?_⟩
    have e2 : (stAt st l.1 * ((pr (axes W ls) : Nat) : Int) + ls.foldl (placeStep W st) 0).toNat = (stAt st l.1).toNat * pr (axes W ls) + (ls.foldl (placeStep W st) 0).toNat := by
      rw [Int.toNat_add hm i0, Int.toNat_mul h1.1 (Int.natCast_nonneg _), Int.toNat_natCast]
    rw [e2]
    show (rws (((topAt W l.1 + 1).toNat, l.2) :: axes W ls))[_]? = _
    rw [rws_at (a := ((topAt W l.1 + 1).toNat, l.2)) (x := (stAt st l.1).toNat) (by show _ < (topAt W l.1 + 1).toNat; omega) i1, List.map_cons]
    rw [show (((stAt st l.1).toNat : Nat) : Int) = stAt st l.1 by omega]
theorem max_sub {l m : List Int} (h : ∀ x ∈ l, x ∈ m) : maxOf l ≤ maxOf m := by
  obtain ⟨g1, g2⟩ := foldmax l 0
  obtain ⟨k1, k2⟩ := foldmax m 0
  refine k2 _ ?_
  rcases List.mem_cons.mp g1 with e | e
  · show maxOf l ∈ _
    unfold maxOf
    rw [e]
    exact List.mem_cons_self ..
  · exact List.mem_cons_of_mem _ (h _ e)
/-- a drawn table is one -/
theorem table_ok {W : Web} (ok : W.Ok) {f : Int} (hf : 0 ≤ f ∧ f < W.tops.length) {mks : List Mark} (hm : ∀ mk ∈ mks, mk.1 ∈ rowsAt W f ∧ 0 ≤ mk.2 ∧ mk.2 ≤ topAt W f) : isTable W f (tableOf (signsAt W f) (rowsAt W f) mks) = true := by
  have ht := topAt_ok ok hf.1 hf.2
  rw [isTable_iff ok]
  refine ⟨by unfold tableOf; rw [List.length_map, rowsAt_rws, rws_len], fun m h => ?_, fun p q xp xq h1 h2 g => ?_⟩
  · unfold tableOf at h
    obtain ⟨row, _, rfl⟩ := List.mem_map.mp h
    obtain ⟨g1, g2⟩ := foldmax ((mks.filter fun mk => lawGoes (signsAt W f) mk.1 row).map (·.2)) 0
    refine ⟨g2 0 (List.mem_cons_self ..), ?_⟩
    rcases List.mem_cons.mp g1 with e | e
    · show maxOf _ ≤ _
      unfold maxOf
      rw [e]
      omega
    · obtain ⟨mk, hmk, e⟩ := List.mem_map.mp e
      show maxOf _ ≤ _
      unfold maxOf
      rw [← e]
      exact (hm mk (List.mem_filter.mp hmk).1).2.2
  · rw [← rowsAt_rws] at h1 h2
    have at_ : ∀ {p : Nat} {xp : List Int}, (rowsAt W f)[p]? = some xp → (tableOf (signsAt W f) (rowsAt W f) mks).getD p 0 = maxOf ((mks.filter fun mk => lawGoes (signsAt W f) mk.1 xp).map (·.2)) := fun {p xp} h => by
      unfold tableOf
      rw [List.getD_eq_getElem?_getD, List.getElem?_map, h]
      rfl
    show (tableOf (signsAt W f) (rowsAt W f) mks).getD p 0 ≤ (tableOf (signsAt W f) (rowsAt W f) mks).getD q 0
    rw [at_ h1, at_ h2]
    refine max_sub fun x hx => ?_
    obtain ⟨mk, hmk, rfl⟩ := List.mem_map.mp hx
    obtain ⟨m1, m2⟩ := List.mem_filter.mp hmk
    refine List.mem_map.mpr ⟨mk, List.mem_filter.mpr ⟨m1, ?_⟩, rfl⟩
    have es : (axes W (looksOf W f)).map (·.2) = signsAt W f := by
      unfold axes signsAt
      rw [List.map_map]
      rfl
    rw [es] at g
    refine goes_trans _ _ xp _ (signs_ok ok) ?_ m2 g
    rw [rowsAt_row (List.mem_of_getElem? h1)]
    unfold signsAt
    rw [List.length_map]
end Lk

/-! ## ForW -/
set_option Elab.async false
set_option linter.all false
set_option maxRecDepth 100000
set_option maxHeartbeats 2000000
namespace Lk
open PySem PySem.Spec PyProof.Rows L2 Gx
variable [Own]
/-- a for over any walk -/
theorem for_walk {J : It} {n : Nat} {G : Hp → Prop} {Y : Nat → Hp → V → Hp → Prop} (w : Walk J n G Y) {g : TG} {tb : TS} {D : Ends} {σ : L2.St} {H : Hp} (Pv : Nat → L2.St → Hp → Prop) (h0 : Pv 0 σ H) (hG : ∀ i σ H, i ≤ n → Pv i σ H → G H)
    (hs : ∀ i x σ H H', i < n → Pv i σ H → Y i H x H' → g x σ H' fun σ2 H2 => tb { nx := Pv (i + 1), rt := D.rt, bk := D.nx, ct := Pv (i + 1) } σ2 H2) (hd : ∀ σ H, Pv n σ H → D.nx σ H) :
    ∃ W : Nat → Nat → L2.St → Hp → Prop, (∃ m, W 0 m σ H) ∧ ∀ i m σ H, W i m σ H → J.stop i H ∧ D.nx σ H ∨ J.go i H ∧
      ∃ N : L2.St → Hp → Prop, (∀ σ' H', N σ' H' → ∃ m', m' < m ∧ W (i + 1) m' σ' H') ∧ ∀ x H', J.yld i H x H' → g x σ H' fun σ2 H2 => tb { nx := N, rt := D.rt, bk := D.nx, ct := N } σ2 H2 := by
  refine ⟨fun i m σ H => m = n - i ∧ i ≤ n ∧ Pv i σ H, ⟨n, by simp, Nat.zero_le _, h0⟩, ?_⟩
  rintro i m σ H ⟨rfl, hi, p⟩
  have q := hG i σ H hi p
  by_cases hlt : i < n
  · exact .inr ⟨w.goes i H hlt q, Pv (i + 1), fun σ' H' p' => ⟨n - (i + 1), by omega, rfl, hlt, p'⟩, fun x H' y => hs i x σ H H' hlt p (w.yields i H x H' hlt q y)⟩
  · have e : i = n := by omega
    subst e
    exact .inl ⟨w.stops H q, hd σ H p⟩
end Lk

/-! ## EnumT -/
set_option Elab.async false
set_option linter.all false
set_option maxRecDepth 100000
set_option maxHeartbeats 2000000
/-! enumerate of a tuple. -/
namespace Lk
open PySem PySem.Spec PyProof.Rows L2 Gx
variable [Own]
abbrev enumO (e : Addr) : Obj := { cls := .type "enumerate", data := .fields #[.none, .bool false, .ref e, rawInt 0, .none, .none] }
theorem enum_class (v : Value) : Builtin.SmallTypes.newClass "enumerate" { pos := [.type "enumerate", v] } = pure (.type "enumerate", [v]) := by
  first
  | rfl
  | with_unfolding_all rfl
  | (unfold Builtin.SmallTypes.newClass
     simp only [PySem.F.called_enumerate.sub]
     rfl)
theorem wp_ite {α : Type} {M : Model} {A : Around} {E : Value → Shared → Prop} {s : Shared} {c : Prop} [Decidable c] {X Y : Sem α} {Q : α → Shared → Prop} (h1 : wpAny M A X Q E s) (h2 : wpAny M A Y Q E s) : wpAny M A (if c then X else Y) Q E s := by
  by_cases h : c
  · rw [if_pos h]; exact h1
  · rw [if_neg h]; exact h2
theorem enum_new {prog : Program} {w : World} {A : Around} {E : Value → Shared → Prop} {s : Shared} {v : Value} {o : Obj} {H : Heap → Prop} {Q : PySem.Fin → Shared → Prop} (B : Begins v o H) (h : H s.heap)
    (q : Q (.done (.ret (.ref (s.heap.objs.size + 1)))) { s with heap := (s.heap.push o).push (enumO s.heap.objs.size) }) :
    wpAny (model prog w) A (Builtin.«enumerate.__new__» { pos := [.type "enumerate", v] }) Q E s := by
  unfold Builtin.«enumerate.__new__»
  refine wpAny_bind ?_
  rw [enum_class]
  refine wpAny_pure ?_
  dsimp only
  rw [if_pos (by first | rfl | decide)]
  refine wpAny_bind ?_
  unfold Builtin.SmallTypes.calledThroughType
  refine wpAny_bind (wpAny_stack_any fun st => wpAny_pure ?_)
  have core : wpAny (model prog w) A (do
      let it ← pyIter v
      let r ← Builtin.SmallTypes.newRecord (.type "enumerate") (Builtin.SmallTypes.ownedTupleFields ++ [it, rawInt 0, .none, .none])
      ret r) Q E s := by
    refine wpAny_bind (B.iter prog w A E s _ h ?_)
    refine wpAny_bind ?_
    refine wpAny_newObj_type (T := "enumerate") (data := .fields #[.none, .bool false, .ref s.heap.objs.size, rawInt 0, .none, .none]) ?_
    refine wpAny_pure ?_
    show Q (.done (.ret (.ref (s.heap.push o).objs.size))) _
    rw [Heap.size_push]
    exact q
  refine wp_ite ?_ ?_
  · refine wpAny_bind ?_
    show wpAny _ _ (pure (v, none)) _ _ _
    exact wpAny_pure core
  · refine wpAny_bind ?_
    show wpAny _ _ (pure (v, none)) _ _ _
    exact wpAny_pure core
theorem enum_call {prog : Program} {w : World} {A : Around} {E : Value → Shared → Prop} {s : Shared} {v : Value} {o : Obj} {H : Heap → Prop} {Q : Value → Shared → Prop} (B : Begins v o H) (h : H s.heap)
    (q : Q (.ref (s.heap.objs.size + 1)) { s with heap := (s.heap.push o).push (enumO s.heap.objs.size) }) : wpAny (model prog w) A (call (.type "enumerate") [v]) Q E s := by
  refine callType_codes (Q₁ := fun r s₁ => r = .ref (s.heap.objs.size + 1) ∧ s₁ = { s with heap := (s.heap.push o).push (enumO s.heap.objs.size) }) PySem.F.called_enumerate (PySem.F.typeCall_enumerate_1 v) PySem.F.entry_object_init ?_ ?_
  · refine codeAny_call_builtin PySem.F.called_enumerate.plain PySem.F.entry_enumerate_new ?_
    rw [PySem.F.newCall_enumerate_1]
    refine wpAny_pure ?_
    refine enum_new B h ?_
    exact ⟨rfl, rfl⟩
  · rintro obj s₁ ⟨rfl, rfl⟩
    have g : ((s.heap.push o).push (enumO s.heap.objs.size)).get? (s.heap.objs.size + 1) = some (enumO s.heap.objs.size) := by heap_get
    have ty : ({ s with heap := (s.heap.push o).push (enumO s.heap.objs.size) } : Shared).TypeIs (.ref (s.heap.objs.size + 1)) "enumerate" := by
      first
      | exact ⟨_, g, rfl⟩
      | exact Shared.typeIs_ref g rfl
    refine ⟨ty, PySem.F.args_object_init_2 _ _, ?_⟩
    have M := object_init_meets (T := "enumerate") (newId := "enumerate.__new__") (self := .ref (s.heap.objs.size + 1)) (rest := [v]) (by first | rfl | decide +kernel) PySem.F.called_enumerate.made (by decide)
    exact M prog w A.in1 (wants (fun r s₂ => r = .none ∧ Q (.ref (s.heap.objs.size + 1)) s₂) E) _ ⟨ty, rfl, q⟩
def Iett (a : Addr) : It where
  go i H := ∃ xs : List V, H a = some (.tup xs) ∧ i < xs.length
  yld i H v H' := ∃ T x, v = .ref T ∧ H T = none ∧ H' = upd H T (.tup [.int (i : Nat), x]) ∧ ∀ xs : List V, H a = some (.tup xs) → xs[i]? = some x
  stop i H := ∃ xs : List V, H a = some (.tup xs) ∧ i = xs.length
abbrev tnE (e it a : Addr) : Nat → Heap → Prop := fun i h => (∃ old, IsEnum h e it (0 + (i : Int)) old) ∧ h.IsTupleIter it a i
section
variable {P : Program} {w : World} {K : PySem.W.Frag}
theorem turn_enumT {elts : List Expr} {kk : Nat} {tpos : Pos} {a e it : Addr} (n1 : a ≠ it) (n2 : e ≠ it) (n3 : e ≠ a) : Turn P w K (.Tuple elts kk tpos) (Iett a) [e, it] e (tnE e it a) := by
  refine ⟨List.mem_cons_self .., ?_, ?_, ?_, ?_, ?_⟩
  · rintro i h ⟨⟨old, he⟩, ⟨o1, h1, c1, d1⟩⟩ q hq
    simp only [List.mem_cons, List.mem_nil_iff, or_false] at hq
    rcases hq with rfl | rfl
    · exact ⟨_, he, fun v e => by cases e⟩
    · exact ⟨_, h1, fun v e => by rw [d1] at e; cases e⟩
  · rintro i h h' ⟨⟨old, he⟩, ⟨o1, h1, c1, d1⟩⟩ kp
    exact ⟨⟨old, kp e (by simp) _ he⟩, ⟨o1, kp it (by simp) _ h1, c1, d1⟩⟩
  · rintro X rfl rfl rfl calm i pins s σ H E I hfp ⟨he, h1⟩ ⟨xs, ea, hi⟩
    obtain ⟨its1, v1, g1, s1⟩ := I.tuple (SqT.of ea)
    have hA : X.A.in1.handled = none := I.ok.hd calm
    have G := GoesN.enumFrom (prog := X.prog) (w := X.w) (A := X.A) (elts := elts) (x1 := kk) (pos := tpos) 0 (Draws.tuple hA it a n1 its1.toArray) e n2 (by simp [n2, n3]) (by simp)
    have l1 := paired_len v1
    refine G.goes i s _ E (by simp only [List.size_toArray]; omega) ⟨he, ⟨h1, istup_is g1⟩⟩ ?_
    rintro v h' tk ⟨T, t, x, rfl, hT, p1, hI⟩ ⟨qe, ⟨q1, _⟩⟩ kp ht
    obtain ⟨x', e1, r1⟩ := vals_arr v1 p1
    have hT0 : H T = none := I.hok.fresh hT
    have I2 := I.turnedNew (h' := h') (t' := tk) (ch := [e, it]) (T := T) (ob := .tup [.int (i : Nat), x']) kp (fun q hq => hfp q hq) hT (by
        unfold ObjOk
        refine ⟨by show 2 ≤ sizeLine; decide, [.int (0 + (i : Int)) t, x], .cons ⟨t, by rw [Int.zero_add]⟩ (.cons r1 .nil), hI⟩)
    refine ⟨.ref T, _, I2, rfl, ⟨T, x', rfl, hT0, rfl, ?_⟩, ⟨qe, q1⟩, fun q hq => ?_⟩
    · intro xs' fa
      rw [ea] at fa
      cases fa
      exact e1
    · obtain ⟨hn, _⟩ := hfp q hq
      obtain ⟨o, ho⟩ : ∃ o, s.heap.get? q = some o := by
        obtain ⟨old, he⟩ := he
        obtain ⟨o1, h1, _⟩ := h1
        simp only [List.mem_cons, List.mem_nil_iff, or_false] at hq
        rcases hq with rfl | rfl
        · exact ⟨_, he⟩
        · exact ⟨_, h1⟩
      have : q ≠ T := fun e => by
        rw [e] at ho
        exact absurd (get_lt ho) (Nat.not_lt.mpr hT)
      rw [upd_ne this]
      exact hn
  · rintro X rfl rfl rfl calm i pins s σ H E I hfp ⟨he, h1⟩ ⟨xs, ea, hi⟩
    obtain ⟨its1, v1, g1, s1⟩ := I.tuple (SqT.of ea)
    have hA : X.A.in1.handled = none := I.ok.hd calm
    have G := GoesN.enumFrom (prog := X.prog) (w := X.w) (A := X.A) (elts := elts) (x1 := kk) (pos := tpos) 0 (Draws.tuple hA it a n1 its1.toArray) e n2 (by simp [n2, n3]) (by simp)
    have l1 := paired_len v1
    have en : its1.toArray.size = i := by simp only [List.size_toArray]; omega
    refine G.stops s _ E (by rw [en]; exact ⟨he, ⟨h1, istup_is g1⟩⟩) ?_
    intro h' tk kp ht
    exact I.turnedL (h' := h') (t' := tk) (ch := [e, it]) kp (fun q hq => hfp q hq)
  · rintro A i s Q E ⟨⟨old, he⟩, _⟩ q
    exact wpAny_pyIter_enum he q
def iEnumT (ta : TA) : L2.TI := fun σ H R => ta σ H fun vs H1 => ∃ (a : Addr) (xs : List V), vs = [.ref a] ∧ H1 a = some (.tup xs) ∧ R (Iett a) H1
theorem pi_enumT {X : Cx} {e : Expr} {ta : TA} {p pos tpos : Pos} {elts : List Expr} {kk : Nat} (hg : Gl X "enumerate") (hm : X.mg "enumerate" = none) (ha : PA X [e] ta)
    (hs : starEach [e] X.env = (false, eval e X.env) :: starEach [] X.env := by rfl) (hpl : (backTo pos (starEach [] X.env)).any (·.1) = false := by rfl) :
    PI X (.Tuple elts kk tpos) (.Call (.Name "enumerate" p) [e] [] pos) (iEnumT ta) := by
  refine ⟨fun pins s σ H R I h => ?_⟩
  refine Call_ (ld_blt I hg hm boot_enumerate (PyProof.Rows.callWith_type1 (thn (ha.run pos pins s σ H _ I h) fun us s2 q => ?_) hs hpl))
  obtain ⟨vs, H2, I2, rv, a, xs, rfl, ea, r⟩ := q
  cases rv with
  | cons r1 rv =>
  cases rv
  cases r1
  obtain ⟨its1, v1, g1, s1⟩ := I2.tuple (SqT.of ea)
  have la : a < s2.heap.objs.size := by obtain ⟨o, g, _⟩ := g1; exact get_lt g
  refine enum_call (begins_tuple a its1.toArray) (istup_is g1) ?_
  have kp : ∀ (b : Addr) (o' : Obj), s2.heap.get? b = some o' → ((s2.heap.push { cls := .type "tuple_iterator", data := .fields #[.ref a, .int 0 0] }).push (enumO s2.heap.objs.size)).get? b = some o' := fun b o' h => Heap.get?_push_of_some _ (Heap.get?_push_of_some _ h)
  have ge : ((s2.heap.push { cls := .type "tuple_iterator", data := .fields #[.ref a, .int 0 0] }).push (enumO s2.heap.objs.size)).get? (s2.heap.objs.size + 1) = some (enumO s2.heap.objs.size) := by heap_get
  have gi : ((s2.heap.push { cls := .type "tuple_iterator", data := .fields #[.ref a, .int 0 0] }).push (enumO s2.heap.objs.size)).get? s2.heap.objs.size = some { cls := .type "tuple_iterator", data := .fields #[.ref a, .int 0 0] } := by heap_get
  refine wpAny_pyIter_enum ge ?_
  have I3 : L2.Inv X pins σ H2 { heap := (s2.heap.push { cls := .type "tuple_iterator", data := .fields #[.ref a, .int 0 0] }).push (enumO s2.heap.objs.size), gens := s2.gens, drawn := s2.drawn, toks := s2.toks, os := s2.os } := I2.kept kp
  refine ⟨_, _, _, _, H2, rfl, I3, turn_enumT (a := a) (e := s2.heap.objs.size + 1) (it := s2.heap.objs.size) (Nat.ne_of_lt la) (Nat.succ_ne_self _) (fun e => absurd la (by rw [← e]; exact Nat.not_lt.mpr (Nat.le_succ _))), ⟨⟨_, ge⟩, ⟨_, gi, rfl, rfl⟩⟩, fun q hq => ?_, r⟩
  have hq2 : s2.heap.objs.size ≤ q := by
    simp only [List.mem_cons, List.mem_nil_iff, or_false] at hq
    rcases hq with h | h <;> (rw [h]; simp)
  exact I2.fpOk hq2 (I2.hok.fresh hq2)
theorem walk_enumT {a : Addr} {xs : List V} : Walk (Iett a) xs.length (fun H => H a = some (.tup xs)) (fun i H v H' => ∃ T x, v = .ref T ∧ H T = none ∧ H' = upd H T (.tup [.int (i : Nat), x]) ∧ xs[i]? = some x) := by
  refine ⟨fun i H hi h => ⟨xs, h, hi⟩, fun H h => ⟨xs, h, rfl⟩, fun i H x H' hi h y => ?_⟩
  obtain ⟨T, x', e, h0, e2, q⟩ := y
  exact ⟨T, x', e, h0, e2, q xs h⟩
end
end Lk

/-! ## W41 -/
set_option Elab.async false
set_option linter.all false
set_option maxRecDepth 100000
set_option maxHeartbeats 4000000
namespace Lk
open PySem PySem.Spec PyProof.Rows L2 Gx
variable [Own]
abbrev s_uneasy_folk : Stmt := top 43
theorem sc_uneasy_folk : FnScope ["web", "rules", "state", "folk", "mood"] ["web", "rules", "state"] (defScope s_uneasy_folk) := ⟨rfl, rfl, rfl, by decide +kernel, rfl, by decide +kernel, by decide +kernel⟩
/-- the folk whose mood is not the one told -/
def uneasyL (W : Web) (ru : List (List Int)) (st : List Int) : List Int := ((List.range st.length).map fun f : Nat => (f : Int)).filter fun f => !(moodTold W ru st f == stAt st f)
def spUneasy : Sp := fun vs H Q _ => ∃ (v r z : V) (W : Web) (ru : List (List Int)) (st : List Int), vs = [v, r, z] ∧ WebAt H v W ∧ W.Ok ∧ TT2 H r ru ∧ RuOk W ru ∧ TI H z st ∧ StOk W st ∧ ∀ H' p, Ext H H' → H p = none → H' p = some (.lst (iv (uneasyL W ru st))) → Q (.ref p) H'
section
variable {P : Program} {w : World} {K : PySem.W.Frag} {mg : Str → Option Value} {base : Heap} {Ps : List Addr}
theorem ok_uneasy_folk {f : Addr} {fd : FuncData} (F : Fun K "uneasy_folk" "uneasy_folk" s_uneasy_folk f fd) (B : Blt mg)
    (c_mood_told : Cal P w K mg base CX0 3 "mood_told" ["web", "rules", "state", "folk"] spMoodTold) : FnOk P w K mg base CX0 4 f fd ["web", "rules", "state"] spUneasy := by
  refine F.ok sc_uneasy_folk (fun vs H Q E h => ?_) (fun cdv A outer s0 H vs Q E hr h => ?_)
  · obtain ⟨v, r, z, W, ru, st, rfl, _⟩ := h
    rfl
  · obtain ⟨v, r, z, W, ru, st, rfl, hW, ok, hru, rok, ⟨sa, rfl, hsa⟩, so, k⟩ := h
    refine ⟨_, (pss_one (ps_ret (pe_lc (own := [("folk", 3), ("mood", 4)]) rfl sc_uneasy_folk.nd (pi_enumT (by rfl) B.enum (pa_cons (pv 2) pa_nil)) (blkOk_by (N := ["web", "rules", "state", "folk", "mood"]) (sc := defScope s_uneasy_folk) (by decide +kernel)) (fun _ _ _ _ _ => (pg_tupT (n := 2) rfl (pgs_cons (pg_name (i := 3) sc_uneasy_folk.nd rfl (by first | exact Or.inl rfl | exact Or.inr rfl)) (pgs_cons (pg_name (i := 4) sc_uneasy_folk.nd rfl (by first | exact Or.inl rfl | exact Or.inr rfl)) pgs_nil)))) (fun _ _ _ _ _ => (pts_one (pt_cmpR op_ne (pe_c0 c_mood_told (hr.mono (by decide)) (by rfl) (pa_cons (pv 0) (pa_cons (pv 1) (pa_cons (pv 2) (pa_cons (pv 3) pa_nil))))) (pv 4) (nomark _)))) (fun _ _ _ _ _ => (pv 3))))), ?_⟩
    have h6 := ok.few
    have lst := so.len
    refine ⟨_, rfl, sa, _, rfl, hsa, fun D hD => ?_⟩
    refine lc_walk (walk_enumT (a := sa) (xs := iv st)) (fun i H' => H' D = some (.lst (iv (((List.range i).map fun f : Nat => (f : Int)).filter fun f => !(moodTold W ru st f == stAt st f)))) ∧ Ext H H') ⟨by rw [upd_same]; rfl, Ext.new hD _⟩ (fun i H' _ ⟨_, e⟩ => e.tup hsa) (fun i x H4 H5 hi ⟨h1, e⟩ y => ?_) fun H4 ⟨h4, e4⟩ => ?_
    · obtain ⟨T, y1, rfl, hT, rfl, hy⟩ := y
      obtain ⟨m, hm, rfl⟩ := iv_get hy
      have hi2 : i < st.length := (List.getElem?_eq_some_iff.mp hm).1
      have em : stAt st (i : Int) = m := by unfold stAt; rw [List.getD_eq_getElem?_getD, Int.toNat_natCast, hm]; rfl
      have eT := e.trans (Ext.new hT (.tup [V.int (i : Nat), V.int m]))
      have h2 := (Ext.new hT (.tup [V.int (i : Nat), V.int m])).lst h1
      refine ⟨T, _, rfl, upd_same, rfl, _, _, rfl, _, _, rfl, rfl, rfl, ?_⟩
      refine ⟨_, rfl, _, rfl, _, rfl, _, rfl, _, _, _, W, ru, st, (i : Int), rfl, hW.ext eT, ok, hru.ext eT, rok, ⟨sa, rfl, eT.tup hsa⟩, so, ⟨by omega, by omega⟩, fun H6 e6 => ⟨_, rfl, rfl, _, rfl, ?_⟩⟩
      have eb : (!decide (V.int (moodTold W ru st (i : Int)) = V.int m)) = !(moodTold W ru st (i : Int) == stAt st (i : Int)) := by rw [dec_int, em]
      show if _ = true then _ else _
      rw [eb]
      have h3 := e6.lst h2
      have es : ((List.range (i + 1)).map fun f : Nat => (f : Int)) = ((List.range i).map fun f : Nat => (f : Int)) ++ [(i : Int)] := by rw [List.range_succ, List.map_append] <;> rfl
      refine ite_of (fun hc => ?_) fun hc => ?_
      · refine ⟨_, rfl, _, h3, ?_, ?_, (eT.trans e6).put hD _⟩
        · rw [iv_len]
          refine small1000 (Nat.le_trans (List.length_filter_le _ _) ?_)
          rw [List.length_map, List.length_range]
          omega
        · rw [upd_same, es, List.filter_append, List.filter_cons_of_pos (p := fun f => !(moodTold W ru st f == stAt st f)) (a := (i : Int)) (l := []) hc]
          unfold iv
          rw [List.map_append]
          rfl
      · refine ⟨?_, eT.trans e6⟩
        rw [h3, es, List.filter_append, List.filter_cons_of_neg (p := fun f => !(moodTold W ru st f == stAt st f)) (a := (i : Int)) (l := []) (by rw [hc]; decide), List.filter_nil, List.append_nil]
    · rw [iv_len] at h4
      exact k _ D e4 hD h4
end
end Lk


/-! ## RG -/
set_option Elab.async false
set_option linter.all false
set_option maxRecDepth 100000
set_option maxHeartbeats 2000000
/-! Rules by the looks of a ring: two settled states by an even one, none by an odd one. -/
namespace Lk
open PySem PySem.Spec PyProof.Rows L2 Gx
variable [Own]
/-- all states of the web are rows -/
theorem rows_all : ∀ (tops st p : List Int) (rows : List (List Int)), st.length = tops.length → (∀ i, i < tops.length → 0 ≤ st.getD i 0 ∧ st.getD i 0 ≤ tops.getD i 0) → p ∈ rows → p ++ st ∈ tops.foldl rowsStep rows
  | [], [], p, rows, _, _, h => by simpa using h
  | t :: ts, m :: st, p, rows, hl, hb, h => by
    rw [List.foldl_cons]
    have h0 := hb 0 (by simp)
    simp only [List.getD_cons_zero] at h0
    have := rows_all ts st (p ++ [m]) (rowsStep rows t) (by simpa using hl) (fun i hi => by
      have := hb (i + 1) (by simpa using hi)
      simpa using this) (by
      unfold rowsStep moods
      refine List.mem_flatMap.mpr ⟨p, h, List.mem_map.mpr ⟨m, List.mem_map.mpr ⟨m.toNat, List.mem_range.mpr (by omega), by omega⟩, rfl⟩⟩)
    simpa using this
  | [], _ :: _, _, _, h, _, _ => by simp at h
  | _ :: _, [], _, _, h, _, _ => by simp at h
theorem state_row {W : Web} {st : List Int} (so : StOk W st) : st ∈ rowsOf W.tops := by
  have := rows_all W.tops st [] [[]] so.len (fun i hi => by
    have := so.bd (i : Int) (by omega) (by omega)
    exact this) (by simp)
  unfold rowsOf
  simpa using this
/-- the folk at whom one looks -/
def seenBy (W : Web) (f : Int) : List Int := (looksOf W f).map (·.1)
/-- the mood by a look alone, k the mood seen -/
def byLook (W : Web) (n k : Int) : Int := if (decide (0 < k) == decide (lks W.looks n = 1)) = true then topAt W (lkr W.looks n) else 0
def tableBy (W : Web) (n : Int) : List Int := (rowsAt W (lkr W.looks n)).map fun row => byLook W n (row.getD ((seenBy W (lkr W.looks n)).idxOf (lkd W.looks n)) 0)
/-- which look of the ring is somebody's -/
def ringIx (W : Web) (p : List Int) (f : Int) : Nat := (p.map (lkr W.looks)).idxOf f
def tableRing (W : Web) (p : List Int) (k : Nat) (f : Int) : List Int := if ringIx W p f < k then tableBy W (p.getD (ringIx W p f) 0) else List.replicate (manyRows W f).toNat 0
/-- the rules by the first k looks of a ring -/
def rulesTo (W : Web) (p : List Int) (k : Nat) : List (List Int) := (List.range W.tops.length).map fun f : Nat => tableRing W p k (f : Int)
def rulesBy (W : Web) (p : List Int) : List (List Int) := rulesTo W p p.length
theorem asc_one : ∀ {ls : List Look3}, ls.Pairwise (fun k l => k.1 < l.1 ∨ k.1 = l.1 ∧ k.2.1 < l.2.1) → ∀ {a b : Look3}, a ∈ ls → b ∈ ls → a.1 = b.1 → a.2.1 = b.2.1 → a = b
  | [], _, _, _, h, _, _, _ => by cases h
  | l :: ls, hp, a, b, ha, hb, h1, h2 => by
    obtain ⟨g1, g2⟩ := List.pairwise_cons.mp hp
    rcases List.mem_cons.mp ha with ea | ha
    · rcases List.mem_cons.mp hb with eb | hb
      · rw [ea, eb]
      · have := g1 b hb
        rw [← ea] at this
        omega
    · rcases List.mem_cons.mp hb with eb | hb
      · have := g1 a ha
        rw [← eb] at this
        omega
      · exact asc_one g2 ha hb h1 h2
section
variable {W : Web} {n : Int}
theorem seen_has (h0 : 0 ≤ n) (h1 : n < W.looks.length) : lkd W.looks n ∈ seenBy W (lkr W.looks n) := by
  unfold seenBy looksOf
  rw [List.map_map]
  refine List.mem_map.mpr ⟨lookN W.looks n, List.mem_filter.mpr ⟨lookN_mem h0 h1, beq_self_eq_true _⟩, rfl⟩
/-- the place of the look among its looker's -/
theorem seen_at (ok : W.Ok) (h0 : 0 ≤ n) (h1 : n < W.looks.length) : (looksOf W (lkr W.looks n))[(seenBy W (lkr W.looks n)).idxOf (lkd W.looks n)]? = some (lkd W.looks n, lks W.looks n) := by
  have hlt := List.idxOf_lt_length_of_mem (seen_has h0 h1)
  have hlt2 : (seenBy W (lkr W.looks n)).idxOf (lkd W.looks n) < (looksOf W (lkr W.looks n)).length := by
    have : (seenBy W (lkr W.looks n)).length = (looksOf W (lkr W.looks n)).length := by unfold seenBy; rw [List.length_map]
    omega
  have e0 : (seenBy W (lkr W.looks n))[(seenBy W (lkr W.looks n)).idxOf (lkd W.looks n)]? = some (lkd W.looks n) := by
    rw [List.getElem?_eq_getElem hlt, List.getElem_idxOf hlt]
  generalize (seenBy W (lkr W.looks n)).idxOf (lkd W.looks n) = k at e0 hlt2 ⊢
  unfold seenBy at e0
  rw [List.getElem?_map, List.getElem?_eq_getElem hlt2] at e0
  rw [List.getElem?_eq_getElem hlt2]
  have e1 := Option.some.inj e0
  have hm := List.getElem_mem hlt2
  generalize (looksOf W (lkr W.looks n))[k]'hlt2 = x at e1 hm
  unfold looksOf at hm
  obtain ⟨l, hl, rfl⟩ := List.mem_map.mp hm
  obtain ⟨hl, hf⟩ := List.mem_filter.mp hl
  have hf : l.2.1 = lkr W.looks n := beq_iff_eq.mp hf
  have := asc_one ok.asc hl (lookN_mem h0 h1) e1 hf
  rw [this]
  rfl
theorem goes_ix : ∀ {ss xs ys : List Int} {i : Nat} {s x y : Int}, lawGoes ss xs ys = true → ss[i]? = some s → xs[i]? = some x → ys[i]? = some y → 0 ≤ s * (y - x)
  | [], _, _, _, _, _, _, _, h, _, _ => by simp at h
  | _ :: _, [], _, _, _, _, _, _, _, h, _ => by simp at h
  | _ :: _, _ :: _, [], _, _, _, _, _, _, _, h => by simp at h
  | s :: ss, x :: xs, y :: ys, 0, a, b, c, g, h1, h2, h3 => by
    unfold lawGoes at g
    obtain ⟨g1, _⟩ := Bool.and_eq_true_iff.mp g
    simp only [List.getElem?_cons_zero, Option.some.injEq] at h1 h2 h3
    subst h1 h2 h3
    have : ¬ s * (y - x) < 0 := by simpa using g1
    omega
  | s :: ss, x :: xs, y :: ys, i + 1, a, b, c, g, h1, h2, h3 => by
    unfold lawGoes at g
    obtain ⟨_, g2⟩ := Bool.and_eq_true_iff.mp g
    exact goes_ix g2 (by simpa using h1) (by simpa using h2) (by simpa using h3)
theorem sign_of (ok : W.Ok) (h0 : 0 ≤ n) (h1 : n < W.looks.length) : lks W.looks n = 1 ∨ lks W.looks n = -1 := (ok.look _ (lookN_mem h0 h1)).2.2
theorem looker_ok (ok : W.Ok) (h0 : 0 ≤ n) (h1 : n < W.looks.length) : 0 ≤ lkr W.looks n ∧ lkr W.looks n < W.tops.length := (ok.look _ (lookN_mem h0 h1)).2.1
theorem lookd_ok (ok : W.Ok) (h0 : 0 ≤ n) (h1 : n < W.looks.length) : 0 ≤ lkd W.looks n ∧ lkd W.looks n < W.tops.length := (ok.look _ (lookN_mem h0 h1)).1
theorem tableBy_get {n : Int} {k : Nat} {row : List Int} (h : (rowsAt W (lkr W.looks n))[k]? = some row) : (tableBy W n).getD k 0 = byLook W n (row.getD ((seenBy W (lkr W.looks n)).idxOf (lkd W.looks n)) 0) := by
  unfold tableBy
  rw [List.getD_eq_getElem?_getD, List.getElem?_map, h]
  rfl
theorem tableBy_len (ok : W.Ok) (n : Int) : ((tableBy W n).length : Int) = manyRows W (lkr W.looks n) := by
  unfold tableBy
  rw [List.length_map, rowsAt_rws, rws_len, many_eq ok, pr_prod]
theorem zeros_len (ok : W.Ok) (f : Int) : ((List.replicate (manyRows W f).toNat (0 : Int)).length : Int) = manyRows W f := by
  rw [List.length_replicate, many_eq ok]
  omega
theorem rowsAt_ix {f : Int} {k i : Nat} {row : List Int} {l : Int × Int} (h : (rowsAt W f)[k]? = some row) (hl : (looksOf W f)[i]? = some l) : row[i]? = some (row.getD i 0) := by
  have h1 := rowsAt_row (List.mem_of_getElem? h)
  have h2 := (List.getElem?_eq_some_iff.mp hl).1
  rw [List.getD_eq_getElem?_getD, List.getElem?_eq_getElem (by omega)]
  rfl
theorem tableBy_ok (ok : W.Ok) (h0 : 0 ≤ n) (h1 : n < W.looks.length) : isTable W (lkr W.looks n) (tableBy W n) = true := by
  have hr := looker_ok ok h0 h1
  have ht := topAt_ok ok hr.1 hr.2
  rw [isTable_iff ok]
  refine ⟨?_, fun m hm => ?_, fun p q xp xq g1 g2 g => ?_⟩
  · unfold tableBy
    rw [List.length_map, rowsAt_rws, rws_len]
  · unfold tableBy at hm
    obtain ⟨row, _, rfl⟩ := List.mem_map.mp hm
    unfold byLook
    split <;> omega
  · rw [← rowsAt_rws] at g1 g2
    have hs := seen_at ok h0 h1
    show (tableBy W n).getD p 0 ≤ (tableBy W n).getD q 0
    rw [tableBy_get g1, tableBy_get g2]
    have x1 := rowsAt_ix g1 hs
    have x2 := rowsAt_ix g2 hs
    have g3 : ((axes W (looksOf W (lkr W.looks n))).map (·.2))[(seenBy W (lkr W.looks n)).idxOf (lkd W.looks n)]? = some (lks W.looks n) := by
      unfold axes
      rw [List.map_map, List.getElem?_map, hs]
      rfl
    have hg := goes_ix g g3 x1 x2
    have sgo := sign_of ok h0 h1
    clear g g1 g2 g3 x1 x2 hs
    generalize xp.getD _ 0 = a at hg ⊢
    generalize xq.getD _ 0 = b at hg ⊢
    unfold byLook
    generalize topAt W (lkr W.looks n) = t at ht ⊢
    generalize lks W.looks n = sg at *
    rcases (show sg = 1 ∨ sg = -1 from sgo) with e | e
    · subst e
      by_cases ha : 0 < a <;> by_cases hb : 0 < b <;> simp [ha, hb] <;> omega
    · subst e
      by_cases ha : 0 < a <;> by_cases hb : 0 < b <;> simp [ha, hb] <;> omega
theorem zeros_ok (ok : W.Ok) {f : Int} (hf : 0 ≤ f ∧ f < W.tops.length) : isTable W f (List.replicate (manyRows W f).toNat 0) = true := by
  have ht := topAt_ok ok hf.1 hf.2
  rw [isTable_iff ok]
  refine ⟨?_, fun m hm => ?_, fun p q xp xq g1 g2 g => ?_⟩
  · rw [List.length_replicate, many_eq ok, pr_prod]
    omega
  · rw [List.eq_of_mem_replicate hm]
    omega
  · have z : ∀ k : Nat, (List.replicate (manyRows W f).toNat (0 : Int)).getD k 0 = 0 := fun k => by
      rw [List.getD_eq_getElem?_getD, List.getElem?_replicate]
      split <;> rfl
    show (List.replicate _ _).getD p 0 ≤ (List.replicate _ _).getD q 0
    rw [z, z]
    exact Int.le_refl _
end
end Lk

/-! ## RG2 -/
set_option Elab.async false
set_option linter.all false
set_option maxRecDepth 100000
set_option maxHeartbeats 2000000
namespace Lk
open PySem PySem.Spec PyProof.Rows L2 Gx
variable [Own]
section
variable {W : Web} {p : List Int} {st : List Int}
theorem ruTo_get {k : Nat} {f : Int} (h0 : 0 ≤ f) (h1 : f < W.tops.length) : (rulesTo W p k).getD f.toNat [] = tableRing W p k f := by
  unfold rulesTo
  rw [List.getD_eq_getElem?_getD, List.getElem?_map, List.getElem?_range (by omega)]
  show tableRing W p k ((f.toNat : Nat) : Int) = _
  rw [show ((f.toNat : Nat) : Int) = f by omega]
theorem ringIx_at (pk : PathOk W.looks p) {i : Nat} {a : Int} (h : p[i]? = some a) : ringIx W p (lkr W.looks a) = i := by
  obtain ⟨hi, ha⟩ := List.getElem?_eq_some_iff.mp h
  have := pk.nd.idxOf_getElem i (by rw [List.length_map]; exact hi)
  rw [List.getElem_map, ha] at this
  exact this
theorem ringIx_lt {f : Int} (h : ringIx W p f < p.length) : ∃ a, p[ringIx W p f]? = some a ∧ lkr W.looks a = f := by
  refine ⟨_, List.getElem?_eq_getElem h, ?_⟩
  have h2 : (p.map (lkr W.looks)).idxOf f < (p.map (lkr W.looks)).length := by rw [List.length_map]; exact h
  have := List.getElem_idxOf h2
  rw [List.getElem_map] at this
  exact this
theorem num_at (pk : PathOk W.looks p) {i : Nat} {a : Int} (h : p[i]? = some a) : 0 ≤ a ∧ a < W.looks.length := pk.num a (List.mem_of_getElem? h)
theorem tableRing_ok (ok : W.Ok) (pk : PathOk W.looks p) (k : Nat) {f : Int} (hf : 0 ≤ f ∧ f < W.tops.length) (hk : k ≤ p.length) : isTable W f (tableRing W p k f) = true := by
  unfold tableRing
  split
  · rename_i h
    obtain ⟨a, ha, e⟩ := ringIx_lt (W := W) (p := p) (f := f) (by omega)
    have hn := num_at pk ha
    have e2 : p.getD (ringIx W p f) 0 = a := by rw [List.getD_eq_getElem?_getD, ha] <;> rfl
    rw [e2]
    have := tableBy_ok ok hn.1 hn.2
    rw [e] at this
    exact this
  · exact zeros_ok ok hf
theorem table_len (ok : W.Ok) {f : Int} {tb : List Int} (h : isTable W f tb = true) : (tb.length : Int) = manyRows W f := by
  rw [isTable_iff ok] at h
  rw [h.1, many_eq ok, pr_prod]
theorem many_le (ok : W.Ok) (f : Int) : manyRows W f ≤ 256 := by
  have h := (rowsAt_len ok f).2
  rw [rowsAt_rws, rws_len, pr_prod] at h
  rw [many_eq ok]
  omega
theorem rulesBy_ok (ok : W.Ok) (pk : PathOk W.looks p) : Ru0 W (rulesBy W p) ∧ firstBad W (rulesBy W p) = none := by
  refine ⟨⟨by unfold rulesBy rulesTo; rw [List.length_map, List.length_range], fun t ht => ?_⟩, ?_⟩
  · unfold rulesBy rulesTo at ht
    obtain ⟨f, hf, rfl⟩ := List.mem_map.mp ht
    have hf := List.mem_range.mp hf
    have h1 := table_len ok (tableRing_ok ok pk p.length (f := (f : Int)) ⟨by omega, by omega⟩ (Nat.le_refl _))
    have h2 := many_le ok (f : Int)
    omega
  · unfold firstBad
    rw [List.find?_eq_none]
    intro f hf
    have hf := List.mem_range.mp hf
    have h1 := tableRing_ok ok pk p.length (f := (f : Int)) ⟨by omega, by omega⟩ (Nat.le_refl _)
    have h2 : (rulesBy W p).getD f [] = tableRing W p p.length (f : Int) := ruTo_get (W := W) (p := p) (k := p.length) (f := (f : Int)) (by omega) (by omega)
    rw [h2, h1]
    simp
theorem mood_ring (ok : W.Ok) (pk : PathOk W.looks p) (so : StOk W st) {i : Nat} {a : Int} (h : p[i]? = some a) : moodTold W (rulesBy W p) st (lkr W.looks a) = byLook W a (stAt st (lkd W.looks a)) := by
  have hn := num_at pk h
  have hr := looker_ok ok hn.1 hn.2
  have hi := (List.getElem?_eq_some_iff.mp h).1
  have e1 : tableRing W p p.length (lkr W.looks a) = tableBy W a := by
    unfold tableRing
    rw [ringIx_at pk h, if_pos hi]
    congr 1
    rw [List.getD_eq_getElem?_getD, h] <;> rfl
  unfold moodTold rulesBy
  rw [ruTo_get hr.1 hr.2, e1]
  obtain ⟨_, hp⟩ := place_row (W := W) (st := st) (ls := looksOf W (lkr W.looks a)) fun l hl => so.bd l.1 (looksOf_ok ok l hl).1.1 (looksOf_ok ok l hl).1.2
  rw [← rowsAt_rws] at hp
  unfold placeOf
  rw [tableBy_get hp]
  congr 1
  rw [List.getD_eq_getElem?_getD, List.getElem?_map, seen_at ok hn.1 hn.2]
  rfl
theorem mood_zero {f : Int} (hf : 0 ≤ f ∧ f < W.tops.length) (h : ¬ ringIx W p f < p.length) : moodTold W (rulesBy W p) st f = 0 := by
  unfold moodTold rulesBy
  rw [ruTo_get hf.1 hf.2]
  unfold tableRing
  rw [if_neg h, List.getD_eq_getElem?_getD, List.getElem?_replicate]
  split <;> rfl
/-- above 0 or not, looked along -/
def flipTo (ls : List Look3) : List Int → Bool → Bool
  | [], b => b
  | a :: r, b => flipTo ls r (b == decide (lks ls a = 1))
theorem flip_snoc (ls : List Look3) (a : Int) : ∀ (q : List Int) (b : Bool), flipTo ls (q ++ [a]) b = (flipTo ls q b == decide (lks ls a = 1))
  | [], _ => rfl
  | _ :: q, b => flip_snoc ls a q _
theorem even_cons (ls : List Look3) (a : Int) (r : List Int) : evenP ls (a :: r) = if lks ls a = -1 then !evenP ls r else evenP ls r := by
  unfold evenP
  rw [List.filter_cons]
  by_cases h : lks ls a = -1
  · rw [if_pos h, if_pos (beq_iff_eq.mpr h), List.length_cons]
    generalize (r.filter fun n => lks ls n == -1).length = m
    rw [Bool.eq_iff_iff]
    simp
    omega
  · rw [if_neg h, if_neg (fun z => h (beq_iff_eq.mp z))]
theorem flip_even (ls : List Look3) : ∀ (q : List Int) (b : Bool), (∀ n ∈ q, lks ls n = 1 ∨ lks ls n = -1) → flipTo ls q b = (b == evenP ls q)
  | [], b, _ => by cases b <;> rfl
  | a :: r, b, h => by
    have ih := flip_even ls r (b == decide (lks ls a = 1)) fun n hn => h n (List.mem_cons_of_mem _ hn)
    show flipTo ls r _ = _
    rw [ih, even_cons]
    rcases h a (List.mem_cons_self ..) with e | e
    · rw [e, if_neg (by decide), decide_eq_true rfl]
      cases b <;> rfl
    · rw [e, if_pos rfl, decide_eq_false (by decide)]
      cases b <;> cases evenP ls r <;> rfl
theorem signs_in (ok : W.Ok) (pk : PathOk W.looks p) : ∀ n ∈ p, lks W.looks n = 1 ∨ lks W.looks n = -1 := fun n hn => sign_of ok (pk.num n hn).1 (pk.num n hn).2
theorem above_by (ok : W.Ok) {a : Int} (ha : 0 ≤ a ∧ a < W.looks.length) (m : Int) : decide (0 < byLook W a m) = (decide (0 < m) == decide (lks W.looks a = 1)) := by
  have hr := looker_ok ok ha.1 ha.2
  have ht := topAt_ok ok hr.1 hr.2
  unfold byLook
  cases (decide (0 < m) == decide (lks W.looks a = 1)) with
  | true => rw [if_pos rfl]; exact decide_eq_true (by omega)
  | false => rw [if_neg (by decide)]; rfl
theorem take_one {i : Nat} {a : Int} (h : p[i]? = some a) : p.take (i + 1) = p.take i ++ [a] := by rw [List.take_add_one, h] <;> rfl
theorem last_at (pk : PathOk W.looks p) : p[p.length - 1]? = some (p.getLastD 0) ∧ p.take (p.length - 1 + 1) = p := by
  have : 0 < p.length := List.length_pos_iff.mpr pk.ne
  exact ⟨getLastD_get pk.ne, List.take_of_length_le (by omega)⟩
theorem head_at (pk : PathOk W.looks p) : p[0]? = some (p.headD 0) := by
  have := pk.ne
  cases p with
  | nil => exact absurd rfl this
  | cons a b => rfl
/-- an odd ring: no state is settled -/
theorem odd_none (ok : W.Ok) (pk : PathOk W.looks p) (hc : closesP W.looks p = true) (ho : evenP W.looks p = false) : settledStates W (rulesBy W p) = [] := by
  rw [List.eq_nil_iff_forall_not_mem]
  intro st hs
  obtain ⟨h1, h2⟩ := List.mem_filter.mp hs
  have h2 : stateTold W (rulesBy W p) st = st := of_decide_eq_true h2
  have so := rows_st h1
  have key : ∀ (i : Nat) (a : Int), p[i]? = some a → decide (0 < stAt st (lkr W.looks a)) = (decide (0 < stAt st (lkd W.looks a)) == decide (lks W.looks a = 1)) := fun i a h => by
    have hn := num_at pk h
    have hr := looker_ok ok hn.1 hn.2
    have e := told_at (W := W) (ru := rulesBy W p) (st := st) (f := lkr W.looks a) hr.1 (by rw [so.len]; exact hr.2)
    rw [h2, mood_ring ok pk so h] at e
    rw [e, above_by ok hn]
  have along : ∀ (i : Nat) (a : Int), p[i]? = some a → decide (0 < stAt st (lkr W.looks a)) = flipTo W.looks (p.take (i + 1)) (decide (0 < stAt st (lkd W.looks (p.headD 0)))) := by
    intro i
    induction i with
    | zero =>
      intro a h
      have e := head_at pk
      rw [h] at e
      cases e
      rw [key 0 _ h, take_one h]
      rfl
    | succ j ih =>
      intro a h
      obtain ⟨a', h'⟩ : ∃ a', p[j]? = some a' := ⟨_, List.getElem?_eq_getElem (by have := (List.getElem?_eq_some_iff.mp h).1; omega)⟩
      have hch := pk.chain j a' a h' h
      rw [key _ _ h, take_one h, flip_snoc, ← ih a' h', hch]
  obtain ⟨l1, l2⟩ := last_at pk
  have e := along _ _ l1
  rw [l2, flip_even _ _ _ (signs_in ok pk), ho, show lkr W.looks (p.getLastD 0) = lkd W.looks (p.headD 0) from beq_iff_eq.mp hc] at e
  cases h : decide (0 < stAt st (lkd W.looks (p.headD 0))) <;> rw [h] at e <;> cases e
/-- a state along an even ring -/
def ringMood (W : Web) (p : List Int) (b : Bool) (f : Int) : Int := if (decide (ringIx W p f < p.length) && flipTo W.looks (p.take (ringIx W p f + 1)) b) = true then topAt W f else 0
def ringState (W : Web) (p : List Int) (b : Bool) : List Int := (List.range W.tops.length).map fun f : Nat => ringMood W p b (f : Int)
theorem ringState_at {b : Bool} {f : Int} (h0 : 0 ≤ f) (h1 : f < W.tops.length) : stAt (ringState W p b) f = ringMood W p b f := by
  unfold stAt ringState
  rw [List.getD_eq_getElem?_getD, List.getElem?_map, List.getElem?_range (by omega)]
  show ringMood W p b ((f.toNat : Nat) : Int) = _
  rw [show ((f.toNat : Nat) : Int) = f by omega]
theorem ringState_ok (ok : W.Ok) {b : Bool} : StOk W (ringState W p b) := by
  refine ⟨by unfold ringState; rw [List.length_map, List.length_range], fun f h0 h1 => ?_⟩
  have ht := topAt_ok ok h0 h1
  rw [ringState_at h0 h1]
  unfold ringMood
  split <;> omega
theorem ringMood_at (ok : W.Ok) (pk : PathOk W.looks p) {b : Bool} {i : Nat} {a : Int} (h : p[i]? = some a) : decide (0 < stAt (ringState W p b) (lkr W.looks a)) = flipTo W.looks (p.take (i + 1)) b := by
  have hn := num_at pk h
  have hr := looker_ok ok hn.1 hn.2
  have ht := topAt_ok ok hr.1 hr.2
  rw [ringState_at hr.1 hr.2]
  unfold ringMood
  rw [ringIx_at pk h, decide_eq_true (List.getElem?_eq_some_iff.mp h).1, Bool.true_and]
  cases flipTo W.looks (p.take (i + 1)) b with
  | true => rw [if_pos rfl]; exact decide_eq_true (by omega)
  | false => rw [if_neg (by decide)]; rfl
theorem ringState_set (ok : W.Ok) (pk : PathOk W.looks p) (hc : closesP W.looks p = true) (he : evenP W.looks p = true) (b : Bool) : ringState W p b ∈ settledStates W (rulesBy W p) := by
  have so := ringState_ok (p := p) (b := b) ok
  refine List.mem_filter.mpr ⟨state_row so, decide_eq_true ?_⟩
  have hl := so.len
  conv => rhs; unfold ringState
  unfold stateTold
  rw [hl]
  refine List.map_congr_left fun f hf => ?_
  have hf := List.mem_range.mp hf
  have hff : 0 ≤ (f : Int) ∧ (f : Int) < W.tops.length := ⟨by omega, by omega⟩
  by_cases hi : ringIx W p (f : Int) < p.length
  · obtain ⟨a, ha, e⟩ := ringIx_lt hi
    have hn := num_at pk ha
    have seen : decide (0 < stAt (ringState W p b) (lkd W.looks a)) = flipTo W.looks (p.take (ringIx W p (f : Int))) b := by
      generalize ringIx W p (f : Int) = i at ha
      cases i with
      | zero =>
        have e0 := head_at pk
        rw [ha] at e0
        cases e0
        obtain ⟨l1, l2⟩ := last_at pk
        have hm := ringMood_at ok pk (b := b) l1
        rw [l2, flip_even _ _ _ (signs_in ok pk), he, show lkr W.looks (p.getLastD 0) = lkd W.looks (p.headD 0) from beq_iff_eq.mp hc] at hm
        rw [hm]
        cases b <;> rfl
      | succ j =>
        obtain ⟨a', h'⟩ : ∃ a', p[j]? = some a' := ⟨_, List.getElem?_eq_getElem (by have := (List.getElem?_eq_some_iff.mp ha).1; omega)⟩
        rw [← pk.chain j a' a h' ha]
        exact ringMood_at ok pk h'
    have hm := mood_ring ok pk so ha
    rw [e] at hm
    rw [hm]
    unfold byLook ringMood
    rw [seen, decide_eq_true hi, Bool.true_and, take_one ha, flip_snoc, e]
  · rw [mood_zero hff hi]
    unfold ringMood
    rw [decide_eq_false hi, Bool.false_and, if_neg (by decide)]
theorem two_in {α : Type} {l : List α} {x y : α} (hx : x ∈ l) (hy : y ∈ l) (h : x ≠ y) : 2 ≤ l.length := by
  match l, hx, hy with
  | [z], hx, hy => exact absurd ((List.mem_singleton.mp hx).trans (List.mem_singleton.mp hy).symm) h
  | _ :: _ :: _, _, _ => simp
/-- an even ring: two settled states -/
theorem even_two (ok : W.Ok) (pk : PathOk W.looks p) (hc : closesP W.looks p = true) (he : evenP W.looks p = true) : 2 ≤ (settledStates W (rulesBy W p)).length := by
  refine two_in (ringState_set ok pk hc he true) (ringState_set ok pk hc he false) fun z => ?_
  obtain ⟨l1, l2⟩ := last_at pk
  have h1 := ringMood_at ok pk (b := true) l1
  have h2 := ringMood_at ok pk (b := false) l1
  rw [l2, flip_even _ _ _ (signs_in ok pk), he] at h1 h2
  rw [z, h2] at h1
  cases h1
end
end Lk

/-! ## RC -/
set_option Elab.async false
set_option linter.all false
set_option maxRecDepth 100000
set_option maxHeartbeats 2000000
/-! What is a ring, said without walks; rounds of looks; two settled states want an even ring. -/
namespace Lk
open PySem PySem.Spec PyProof.Rows L2 Gx
variable [Own]
section
variable {ls : List Look3}
theorem path_snoc {q : List Int} {n : Int} (hq : q ≠ []) (pk : PathOk ls (q ++ [n])) : PathOk ls q ∧ goesOnP ls q n = true ∧ q.headD 0 + 1 ≤ n ∧ n < ls.length := by
  have hh : (q ++ [n]).headD 0 = q.headD 0 := headD_app hq
  have nd : (q.map (lkr ls) ++ [lkr ls n]).Nodup := by
    have := pk.nd
    rw [List.map_append] at this
    exact this
  have hnot : lkr ls n ∉ q.map (lkr ls) := fun h => by
    have := List.nodup_append.mp nd
    exact this.2.2 _ h _ (List.mem_singleton.mpr rfl) rfl
  have hn := pk.num n (by simp)
  have hl := pk.least n (by simp)
  rw [hh] at hl
  have hne : n ≠ q.headD 0 := fun z => hnot (by rw [z]; exact List.mem_map.mpr ⟨_, headD_mem hq, rfl⟩)
  refine ⟨⟨hq, fun m hm => pk.num m (List.mem_append_left _ hm), (List.nodup_append.mp nd).1, fun m hm => by rw [← hh]; exact pk.least m (List.mem_append_left _ hm), fun i a b h1 h2 => ?_⟩, ?_, by omega, hn.2⟩
  · have i2 := (List.getElem?_eq_some_iff.mp h2).1
    exact pk.chain i a b (by rw [List.getElem?_append_left (by omega)]; exact h1) (by rw [List.getElem?_append_left (by omega)]; exact h2)
  · have hlen : 0 < q.length := List.length_pos_iff.mpr hq
    have c := pk.chain (q.length - 1) (q.getLastD 0) n (by rw [List.getElem?_append_left (by omega)]; exact getLastD_get hq) (by
      rw [List.getElem?_append_right (by omega), show q.length - 1 + 1 - q.length = 0 by omega]
      rfl)
    unfold goesOnP
    rw [Bool.and_eq_true]
    refine ⟨beq_iff_eq.mpr c.symm, ?_⟩
    rw [Bool.not_eq_true', ← Bool.not_eq_true]
    intro h
    exact hnot (List.contains_iff_mem.mp h)
theorem level_has : ∀ (k : Nat) {p : List Int}, PathOk ls p → p.length = k + 1 → (∀ j, j < k → closesP ls (p.take (j + 1)) = false) → p ∈ level ls k
  | 0, p, pk, hl, _ => by
    match p, hl with
    | [n], _ =>
      have := pk.num n (by simp)
      exact List.mem_map.mpr ⟨n, mem_nums.mpr this, rfl⟩
  | k + 1, p, pk, hl, hc => by
    obtain ⟨q, n, rfl⟩ : ∃ q n, p = q ++ [n] := ⟨p.dropLast, p.getLast pk.ne, (List.dropLast_concat_getLast pk.ne).symm⟩
    have lq : q.length = k + 1 := by simpa using hl
    have hq : q ≠ [] := by
      intro z
      rw [z] at lq
      cases lq
    obtain ⟨pq, g, g1, g2⟩ := path_snoc hq pk
    have tk : ∀ j, j ≤ k → (q ++ [n]).take (j + 1) = q.take (j + 1) := fun j hj => List.take_append_of_le_length (by omega)
    have ih := level_has k pq lq fun j hj => by rw [← tk j (by omega)]; exact hc j (by omega)
    have hcl := hc k (by omega)
    rw [tk k (Nat.le_refl _), List.take_of_length_le (by omega)] at hcl
    refine List.mem_flatMap.mpr ⟨q, ih, ?_⟩
    unfold longer
    rw [if_neg (by rw [hcl]; decide)]
    exact List.mem_map.mpr ⟨n, List.mem_filter.mpr ⟨mem_nums.mpr ⟨g1, g2⟩, g⟩, rfl⟩
theorem found_has {k j : Nat} {p : List Int} (hj : j < k) (h : p ∈ level ls j) (hc : closesP ls p = true) : p ∈ foundN ls k := by
  induction k with
  | zero => omega
  | succ k ih =>
    show p ∈ foundN ls k ++ (level ls k).filter (closesP ls)
    by_cases e : j = k
    · rw [← e]
      exact List.mem_append_right _ (List.mem_filter.mpr ⟨h, hc⟩)
    · exact List.mem_append_left _ (ih (by omega))
/-- lookers of six folk, all unlike -/
theorem few_lookers (six : ∀ l ∈ ls, 0 ≤ l.2.1 ∧ l.2.1 < (6 : Int)) {c : List Int} (num : ∀ n ∈ c, 0 ≤ n ∧ n < ls.length) (nd : (c.map (lkr ls)).Nodup) : c.length ≤ 6 := by
  have := nodup_le (c.map (lkr ls)) (nums 0 6) nd fun x hx => by
    obtain ⟨n, hn, rfl⟩ := List.mem_map.mp hx
    have h := num n hn
    exact mem_nums.mpr (six _ (lookN_mem h.1 h.2))
  rw [List.length_map, nums_len] at this
  exact this
theorem ring_has (six : ∀ l ∈ ls, 0 ≤ l.2.1 ∧ l.2.1 < (6 : Int)) {p : List Int} (pk : PathOk ls p) (hc : closesP ls p = true) : p ∈ ringsRaw ls := by
  have l6 := few_lookers six pk.num pk.nd
  have l0 : 0 < p.length := List.length_pos_iff.mpr pk.ne
  refine found_has (j := p.length - 1) (by omega) (level_has _ pk (by omega) fun j hj => ?_) hc
  rw [← Bool.not_eq_true]
  intro h
  -- the prefix's last looker were the ring's last
  have hjl : j < p.length := by omega
  have t1 : (p.take (j + 1)).headD 0 = p.headD 0 := by
    cases p with
    | nil => rfl
    | cons a b => rfl
  have t2 : (p.take (j + 1)).getLastD 0 = p[j] := by
    rw [List.take_add_one, List.getElem?_eq_getElem hjl]
    exact getLastD_app
  have e1 : lkr ls ((p.take (j + 1)).getLastD 0) = lkd ls ((p.take (j + 1)).headD 0) := beq_iff_eq.mp h
  have e2 : lkr ls (p.getLastD 0) = lkd ls (p.headD 0) := beq_iff_eq.mp hc
  rw [t1, t2, ← e2] at e1
  have hlast := getLastD_get pk.ne
  obtain ⟨hL, hLe⟩ := List.getElem?_eq_some_iff.mp hlast
  have i1 := pk.nd.idxOf_getElem j (by rw [List.length_map]; exact hjl)
  have i2 := pk.nd.idxOf_getElem (p.length - 1) (by rw [List.length_map]; exact hL)
  rw [List.getElem_map] at i1 i2
  rw [hLe] at i2
  rw [e1] at i1
  omega
end
/-- what a ring is -/
theorem mem_rings {W : Web} (ok : W.Ok) {p : List Int} : p ∈ ringsOf W ↔ PathOk W.looks p ∧ closesP W.looks p = true :=
  ⟨fun h => ⟨(raw_ok (sortT_mem.mp h)).1, (raw_ok (sortT_mem.mp h)).2.1⟩, fun h => sortT_mem.mpr (ring_has ok.fewL.six h.1 h.2)⟩
/-- a round: looks one behind the other, through unlike folk, and back; wherever it begins -/
structure Round (ls : List Look3) (c : List Int) : Prop where
  ne : c ≠ []
  num : ∀ n ∈ c, 0 ≤ n ∧ n < ls.length
  nd : (c.map (lkr ls)).Nodup
  chain : ∀ (i : Nat) (a b : Int), c[i]? = some a → c[i + 1]? = some b → lkr ls a = lkd ls b
  close : lkr ls (c.getLastD 0) = lkd ls (c.headD 0)
section
variable {ls : List Look3}
theorem round_turn {a : Int} {r : List Int} (R : Round ls (a :: r)) : Round ls (r ++ [a]) := by
  cases r with
  | nil => exact R
  | cons b r =>
    have hl : ((a :: b :: r) : List Int).getLastD 0 = (b :: r).getLastD 0 := by simp [List.getLastD]
    refine ⟨by simp, fun n hn => R.num n (by
      rcases List.mem_append.mp hn with h | h
      · exact List.mem_cons_of_mem _ h
      · rw [List.mem_singleton.mp h]; exact List.mem_cons_self ..), ?_, fun i x y h1 h2 => ?_, ?_⟩
    · have := R.nd
      rw [List.map_append]
      exact (List.perm_append_comm (l₁ := [lkr ls a]) (l₂ := (b :: r).map (lkr ls))).nodup_iff.mp this
    · by_cases hi : i + 1 < (b :: r).length
      · rw [List.getElem?_append_left (by omega)] at h1 h2
        exact R.chain (i + 1) x y (by simpa using h1) (by simpa using h2)
      · have hi2 : i + 1 = (b :: r).length := by
          have := (List.getElem?_eq_some_iff.mp h2).1
          simp at this hi ⊢
          omega
        rw [List.getElem?_append_right (by omega), show i + 1 - (b :: r).length = 0 by omega] at h2
        rw [List.getElem?_append_left (by omega)] at h1
        have e1 := getLastD_get (p := b :: r) (by simp)
        rw [show (b :: r).length - 1 = i by omega, h1] at e1
        have hy : a = y := by simpa using h2
        have hx := Option.some.inj e1
        rw [hx, ← hy, ← hl]
        exact R.close
    · rw [getLastD_app]
      exact R.chain 0 a b rfl rfl
theorem round_ring : ∀ (k : Nat) {c : List Int} {m : Int}, Round ls c → c[k]? = some m → (∀ n ∈ c, m ≤ n) → ∃ p, PathOk ls p ∧ closesP ls p = true ∧ p.Perm c
  | 0, c, m, R, h, hm => by
    refine ⟨c, ⟨R.ne, R.num, R.nd, fun n hn => ?_, R.chain⟩, beq_iff_eq.mpr R.close, .refl _⟩
    cases c with
    | nil => cases h
    | cons a r =>
      have e : a = m := by simpa using h
      show a ≤ n
      rw [e]
      exact hm n hn
  | k + 1, c, m, R, h, hm => by
    cases c with
    | nil => cases h
    | cons a r =>
      have h' : r[k]? = some m := by simpa using h
      obtain ⟨p, h1, h2, h3⟩ := round_ring k (round_turn R) (by rw [List.getElem?_append_left (List.getElem?_eq_some_iff.mp h').1]; exact h') fun n hn => hm n (by
        rcases List.mem_append.mp hn with h | h
        · exact List.mem_cons_of_mem _ h
        · rw [List.mem_singleton.mp h]; exact List.mem_cons_self ..)
      exact ⟨p, h1, h2, h3.trans (List.perm_append_comm (l₁ := r) (l₂ := [a]))⟩
theorem least_in : ∀ {c : List Int}, c ≠ [] → ∃ m ∈ c, ∀ n ∈ c, m ≤ n
  | [a], _ => ⟨a, List.mem_cons_self .., fun n hn => by rw [List.mem_singleton.mp hn]; exact Int.le_refl _⟩
  | a :: b :: r, _ => by
    obtain ⟨m, h1, h2⟩ := least_in (c := b :: r) (by simp)
    by_cases h : a ≤ m
    · refine ⟨a, List.mem_cons_self .., fun n hn => ?_⟩
      rcases List.mem_cons.mp hn with e | hn
      · rw [e]; exact Int.le_refl _
      · exact Int.le_trans h (h2 n hn)
    · refine ⟨m, List.mem_cons_of_mem _ h1, fun n hn => ?_⟩
      rcases List.mem_cons.mp hn with e | hn
      · rw [e]; omega
      · exact h2 n hn
theorem even_perm {p c : List Int} (h : p.Perm c) : evenP ls p = evenP ls c := by
  unfold evenP
  rw [(h.filter _).length_eq]
end
/-- a round's ring -/
theorem round_has {W : Web} (ok : W.Ok) {c : List Int} (R : Round W.looks c) : ∃ p ∈ ringsOf W, p.Perm c ∧ evenP W.looks p = evenP W.looks c := by
  obtain ⟨m, hm, hl⟩ := least_in R.ne
  obtain ⟨k, hk⟩ := List.getElem?_of_mem hm
  obtain ⟨p, h1, h2, h3⟩ := round_ring k R hk hl
  exact ⟨p, (mem_rings ok).mpr ⟨h1, h2⟩, h3, even_perm h3⟩
end Lk

/-! ## RC2 -/
set_option Elab.async false
set_option linter.all false
set_option maxRecDepth 100000
set_option maxHeartbeats 2000000
/-! Followed back through some folk, looks close a round; two settled states want an even ring. -/
namespace Lk
open PySem PySem.Spec PyProof.Rows L2 Gx
variable [Own]
section
variable {ls : List Look3}
/-- a way that leads to its first looker: looks one behind the other, through unlike folk -/
structure WayOk (ls : List Look3) (c : List Int) : Prop where
  ne : c ≠ []
  num : ∀ n ∈ c, 0 ≤ n ∧ n < ls.length
  nd : (c.map (lkr ls)).Nodup
  chain : ∀ (i : Nat) (a b : Int), c[i]? = some a → c[i + 1]? = some b → lkr ls a = lkd ls b
theorem way_take {c : List Int} (w : WayOk ls c) (k : Nat) : WayOk ls (c.take (k + 1)) := by
  refine ⟨fun z => ?_, fun n hn => w.num n (List.mem_of_mem_take hn), ?_, fun i a b h1 h2 => ?_⟩
  · have := w.ne
    cases c with
    | nil => exact this rfl
    | cons a r => simp at z
  · rw [List.map_take]
    exact w.nd.sublist (List.take_sublist _ _)
  · have i2 := (List.getElem?_eq_some_iff.mp h2).1
    rw [List.length_take] at i2
    rw [List.getElem?_take_of_lt (by omega)] at h1 h2
    exact w.chain i a b h1 h2
/-- whoever is in D has a good look from one in D: then good looks close a round -/
theorem back_round (six : ∀ l ∈ ls, 0 ≤ l.2.1 ∧ l.2.1 < (6 : Int)) {D : Int → Prop} {good : Int → Prop} (back : ∀ f, D f → ∃ n : Int, (0 ≤ n ∧ n < ls.length) ∧ lkr ls n = f ∧ D (lkd ls n) ∧ good n) :
    ∀ (k : Nat) {c : List Int}, c.length + k = 7 → WayOk ls c → D (lkd ls (c.headD 0)) → (∀ n ∈ c, good n) → ∃ r, Round ls r ∧ ∀ n ∈ r, good n
  | 0, c, hk, w, _, _ => by
    have := few_lookers six w.num w.nd
    omega
  | k + 1, c, hk, w, hd, hg => by
    by_cases hm : lkd ls (c.headD 0) ∈ c.map (lkr ls)
    · obtain ⟨j, hj⟩ := List.getElem?_of_mem hm
      rw [List.getElem?_map] at hj
      cases e : c[j]? with
      | none => rw [e] at hj; cases hj
      | some a =>
        rw [e] at hj
        have hj : lkr ls a = lkd ls (c.headD 0) := Option.some.inj hj
        have w2 := way_take w j
        refine ⟨c.take (j + 1), ⟨w2.ne, w2.num, w2.nd, w2.chain, ?_⟩, fun n hn => hg n (List.mem_of_mem_take hn)⟩
        have t1 : (c.take (j + 1)).headD 0 = c.headD 0 := by
          cases c with
          | nil => rfl
          | cons a b => rfl
        have t2 : (c.take (j + 1)).getLastD 0 = a := by
          rw [List.take_add_one, e]
          exact getLastD_app
        rw [t1, t2]
        exact hj
    · obtain ⟨n, hn, h1, h2, h3⟩ := back _ hd
      refine back_round six back k (c := n :: c) (by simp; omega) ⟨by simp, fun m hm => ?_, ?_, fun i a b g1 g2 => ?_⟩ h2 (fun m hm => ?_)
      · rcases List.mem_cons.mp hm with e | hm
        · rw [e]; exact hn
        · exact w.num m hm
      · rw [List.map_cons, List.nodup_cons, h1]
        exact ⟨hm, w.nd⟩
      · cases i with
        | zero =>
          have e1 : n = a := by simpa using g1
          have e2 : c[0]? = some b := by simpa using g2
          have e3 : c.headD 0 = b := by
            cases c with
            | nil => cases e2
            | cons x y => simpa using e2
          rw [← e1, h1, e3]
        | succ i => exact w.chain i a b (by simpa using g1) (by simpa using g2)
      · rcases List.mem_cons.mp hm with e | hm
        · rw [e]; exact h3
        · exact hg m hm
/-- one good look begins it -/
theorem back_some (six : ∀ l ∈ ls, 0 ≤ l.2.1 ∧ l.2.1 < (6 : Int)) {D : Int → Prop} {good : Int → Prop} (back : ∀ f, D f → ∃ n : Int, (0 ≤ n ∧ n < ls.length) ∧ lkr ls n = f ∧ D (lkd ls n) ∧ good n) {f : Int} (hf : D f) : ∃ r, Round ls r ∧ ∀ n ∈ r, good n := by
  obtain ⟨n, hn, _, h2, h3⟩ := back f hf
  exact back_round six back 6 (c := [n]) rfl ⟨by simp, fun m hm => by rw [List.mem_singleton.mp hm]; exact hn, by simp, fun i a b _ g2 => by simp at g2⟩ h2 fun m hm => by rw [List.mem_singleton.mp hm]; exact h3
/-- along a round whose looks go with a side: the round is even -/
theorem round_even {W : Web} (ok : W.Ok) {c : List Int} (R : Round W.looks c) (side : Int → Bool) (hs : ∀ n ∈ c, decide (lks W.looks n = 1) = (side (lkd W.looks n) == side (lkr W.looks n))) : evenP W.looks c = true := by
  have along : ∀ (i : Nat) (a : Int), c[i]? = some a → flipTo W.looks (c.take (i + 1)) (side (lkd W.looks (c.headD 0))) = side (lkr W.looks a) := by
    intro i
    induction i with
    | zero =>
      intro a h
      have e : c.headD 0 = a := by
        cases c with
        | nil => cases h
        | cons x y => simpa using h
      rw [take_one h, e]
      show (_ == _) = _
      rw [hs a (List.mem_of_getElem? h)]
      generalize side (lkd W.looks a) = x
      generalize side (lkr W.looks a) = y
      cases x <;> cases y <;> rfl
    | succ j ih =>
      intro a h
      obtain ⟨a', h'⟩ : ∃ a', c[j]? = some a' := ⟨_, List.getElem?_eq_getElem (by have := (List.getElem?_eq_some_iff.mp h).1; omega)⟩
      rw [take_one h, flip_snoc, ih a' h', R.chain j a' a h' h, hs a (List.mem_of_getElem? h)]
      generalize side (lkd W.looks a) = x
      generalize side (lkr W.looks a) = y
      cases x <;> cases y <;> rfl
  have l1 := getLastD_get R.ne
  have l0 : 0 < c.length := List.length_pos_iff.mpr R.ne
  have e := along _ _ l1
  rw [List.take_of_length_le (by omega), flip_even _ _ _ fun n hn => sign_of ok (R.num n hn).1 (R.num n hn).2, R.close] at e
  revert e
  generalize side (lkd W.looks (c.headD 0)) = x
  cases evenP W.looks c <;> cases x <;> decide
end
/-- a row that doesn't go: one of its places does the other way -/
theorem goes_not : ∀ {ss xs ys : List Int}, lawGoes ss xs ys = false → ∃ (i : Nat) (s x y : Int), ss[i]? = some s ∧ xs[i]? = some x ∧ ys[i]? = some y ∧ s * (y - x) < 0
  | s :: ss, x :: xs, y :: ys, h => by
    unfold lawGoes at h
    by_cases hd : s * (y - x) < 0
    · exact ⟨0, s, x, y, rfl, rfl, rfl, hd⟩
    · rw [decide_eq_false hd] at h
      obtain ⟨i, a, b, c, h1, h2, h3, h4⟩ := goes_not (ss := ss) (xs := xs) (ys := ys) (by simpa using h)
      exact ⟨i + 1, a, b, c, by simpa using h1, by simpa using h2, by simpa using h3, h4⟩
  | [], _, _, h => by simp [lawGoes] at h
  | _ :: _, [], _, h => by simp [lawGoes] at h
  | _ :: _, _ :: _, [], h => by simp [lawGoes] at h
section
variable {W : Web} {ru : List (List Int)} {x y : List Int}
/-- a look of somebody's, by its number -/
theorem look_number {f : Int} {l : Int × Int} (h : l ∈ looksOf W f) : ∃ n : Int, (0 ≤ n ∧ n < W.looks.length) ∧ lkr W.looks n = f ∧ lkd W.looks n = l.1 ∧ lks W.looks n = l.2 := by
  unfold looksOf at h
  obtain ⟨k, hk, rfl⟩ := List.mem_map.mp h
  obtain ⟨hk, hf⟩ := List.mem_filter.mp hk
  obtain ⟨i, hi⟩ := List.getElem?_of_mem hk
  have hlt := (List.getElem?_eq_some_iff.mp hi).1
  have e : lookN W.looks (i : Int) = k := by
    unfold lookN
    rw [Int.toNat_natCast, List.getD_eq_getElem?_getD, hi] <;> rfl
  refine ⟨(i : Int), ⟨by omega, by omega⟩, ?_, ?_, ?_⟩
  · unfold lkr; rw [e]; exact beq_iff_eq.mp hf
  · unfold lkd; rw [e]
  · unfold lks; rw [e]
/-- a mood told higher in one state than in another: some look says why -/
theorem told_why (ok : W.Ok) {f : Int} {tb : List Int} (ht : isTable W f tb = true) (sx : StOk W x) (sy : StOk W y) (h : tb.getD (placeOf W x f).toNat 0 < tb.getD (placeOf W y f).toNat 0) :
    ∃ l ∈ looksOf W f, 0 < l.2 * (stAt y l.1 - stAt x l.1) := by
  have al := ((isTable_iff ok).mp ht).2.2
  obtain ⟨_, px⟩ := place_row (W := W) (st := x) (ls := looksOf W f) fun l hl => sx.bd l.1 (looksOf_ok ok l hl).1.1 (looksOf_ok ok l hl).1.2
  obtain ⟨_, py⟩ := place_row (W := W) (st := y) (ls := looksOf W f) fun l hl => sy.bd l.1 (looksOf_ok ok l hl).1.1 (looksOf_ok ok l hl).1.2
  cases hg : lawGoes ((axes W (looksOf W f)).map (·.2)) ((looksOf W f).map fun l => stAt y l.1) ((looksOf W f).map fun l => stAt x l.1) with
  | true =>
    have h2 : tb.getD (placeOf W y f).toNat 0 ≤ tb.getD (placeOf W x f).toNat 0 := al _ _ _ _ py px hg
    omega
  | false =>
    obtain ⟨i, s, a, b, h1, h2, h3, h4⟩ := goes_not hg
    unfold axes at h1
    rw [List.map_map, List.getElem?_map] at h1
    rw [List.getElem?_map] at h2 h3
    cases e : (looksOf W f)[i]? with
    | none => rw [e] at h1; cases h1
    | some l =>
      rw [e] at h1 h2 h3
      have h1 : l.2 = s := Option.some.inj h1
      have h2 : stAt y l.1 = a := Option.some.inj h2
      have h3 : stAt x l.1 = b := Option.some.inj h3
      refine ⟨l, List.mem_of_getElem? e, ?_⟩
      rw [h1, h2, h3]
      have : s * (a - b) = -(s * (b - a)) := by rw [← Int.mul_neg]; congr 1; omega
      omega
/-- two settled states: then there is an even ring -/
theorem two_even (ok : W.Ok) (r0 : Ru0 W ru) (hb : firstBad W ru = none) (hx : x ∈ settledStates W ru) (hy : y ∈ settledStates W ru) (ne : x ≠ y) : ∃ p ∈ ringsOf W, evenP W.looks p = true := by
  obtain ⟨x1, x2⟩ := List.mem_filter.mp hx
  obtain ⟨y1, y2⟩ := List.mem_filter.mp hy
  have x2 : stateTold W ru x = x := of_decide_eq_true x2
  have y2 : stateTold W ru y = y := of_decide_eq_true y2
  have sx := rows_st x1
  have sy := rows_st y1
  have fx : ∀ f : Int, 0 ≤ f → f < W.tops.length → stAt x f = (ru.getD f.toNat []).getD (placeOf W x f).toNat 0 := fun f h0 h1 => by
    have := told_at (W := W) (ru := ru) (st := x) (f := f) h0 (by rw [sx.len]; exact h1)
    rw [x2] at this
    exact this
  have fy : ∀ f : Int, 0 ≤ f → f < W.tops.length → stAt y f = (ru.getD f.toNat []).getD (placeOf W y f).toNat 0 := fun f h0 h1 => by
    have := told_at (W := W) (ru := ru) (st := y) (f := f) h0 (by rw [sy.len]; exact h1)
    rw [y2] at this
    exact this
  let side : Int → Bool := fun g => decide (stAt x g < stAt y g)
  have back : ∀ f : Int, ((0 ≤ f ∧ f < W.tops.length) ∧ stAt x f ≠ stAt y f) → ∃ n : Int, (0 ≤ n ∧ n < W.looks.length) ∧ lkr W.looks n = f ∧ ((0 ≤ lkd W.looks n ∧ lkd W.looks n < W.tops.length) ∧ stAt x (lkd W.looks n) ≠ stAt y (lkd W.looks n)) ∧ decide (lks W.looks n = 1) = (side (lkd W.looks n) == side (lkr W.looks n)) := by
    rintro f ⟨⟨h0, h1⟩, hne⟩
    have ht := firstBad_none hb f h0 h1
    rcases Int.lt_or_gt_of_ne hne with hlt | hgt
    · have h := told_why ok ht sx sy (by rw [← fx f h0 h1, ← fy f h0 h1]; exact hlt)
      obtain ⟨l, hl, hp⟩ := h
      obtain ⟨n, hn, e1, e2, e3⟩ := look_number hl
      have lo := looksOf_ok ok l hl
      refine ⟨n, hn, e1, ?_, ?_⟩
      · rw [e2]
        refine ⟨lo.1, fun z => ?_⟩
        rw [z, Int.sub_self, Int.mul_zero] at hp
        omega
      · show _ = (decide _ == decide _)
        rw [e1, e2, e3, decide_eq_true hlt]
        rcases lo.2 with s1 | s1
        · rw [s1] at hp ⊢
          rw [decide_eq_true (show stAt x l.1 < stAt y l.1 by omega)]
          rfl
        · rw [s1] at hp ⊢
          rw [decide_eq_false (show ¬ stAt x l.1 < stAt y l.1 by omega)]
          rfl
    · have h := told_why ok ht sy sx (by rw [← fx f h0 h1, ← fy f h0 h1]; exact hgt)
      obtain ⟨l, hl, hp⟩ := h
      obtain ⟨n, hn, e1, e2, e3⟩ := look_number hl
      have lo := looksOf_ok ok l hl
      refine ⟨n, hn, e1, ?_, ?_⟩
      · rw [e2]
        refine ⟨lo.1, fun z => ?_⟩
        rw [z, Int.sub_self, Int.mul_zero] at hp
        omega
      · show _ = (decide _ == decide _)
        rw [e1, e2, e3, decide_eq_false (show ¬ stAt x f < stAt y f by omega)]
        rcases lo.2 with s1 | s1
        · rw [s1] at hp ⊢
          rw [decide_eq_false (show ¬ stAt x l.1 < stAt y l.1 by omega)]
          rfl
        · rw [s1] at hp ⊢
          rw [decide_eq_true (show stAt x l.1 < stAt y l.1 by omega)]
          rfl
  obtain ⟨f, hf⟩ : ∃ f : Int, (0 ≤ f ∧ f < W.tops.length) ∧ stAt x f ≠ stAt y f := by
    refine Classical.byContradiction fun h => ne ?_
    refine List.ext_getElem? fun i => ?_
    by_cases hi : i < W.tops.length
    · have g : ∀ st : List Int, StOk W st → st[i]? = some (stAt st (i : Int)) := fun st so => stAt_get (st := st) (i := (i : Int)) (by omega) (by rw [so.len]; omega)
      rw [g x sx, g y sy]
      congr 1
      exact Classical.byContradiction fun z => h ⟨(i : Int), ⟨by omega, by omega⟩, z⟩
    · rw [List.getElem?_eq_none (by rw [sx.len]; omega), List.getElem?_eq_none (by rw [sy.len]; omega)]
  obtain ⟨c, R, hg⟩ := back_some (D := fun f => (0 ≤ f ∧ f < W.tops.length) ∧ stAt x f ≠ stAt y f) (good := fun n => decide (lks W.looks n = 1) = (side (lkd W.looks n) == side (lkr W.looks n))) ok.fewL.six back hf
  obtain ⟨p, hp, _, e⟩ := round_has ok R
  exact ⟨p, hp, by rw [e]; exact round_even ok R side hg⟩
end
end Lk

/-! ## RC3 -/
set_option Elab.async false
set_option linter.all false
set_option maxRecDepth 100000
set_option maxHeartbeats 2000000
/-! Closed walks of looks: an odd one holds an odd ring. -/
namespace Lk
open PySem PySem.Spec PyProof.Rows L2 Gx
variable [Own]
section
variable {ls : List Look3}
/-- looks one behind the other -/
structure Walk1 (ls : List Look3) (c : List Int) : Prop where
  num : ∀ n ∈ c, 0 ≤ n ∧ n < ls.length
  chain : ∀ (i : Nat) (a b : Int), c[i]? = some a → c[i + 1]? = some b → lkr ls a = lkd ls b
/-- .. and back -/
structure Loop1 (ls : List Look3) (c : List Int) : Prop where
  ne : c ≠ []
  w : Walk1 ls c
  close : lkr ls (c.getLastD 0) = lkd ls (c.headD 0)
theorem odd_app (p q : List Int) : evenP ls (p ++ q) = (evenP ls p == evenP ls q) := by
  unfold evenP
  rw [List.filter_append, List.length_append]
  generalize (p.filter fun n => lks ls n == -1).length = a
  generalize (q.filter fun n => lks ls n == -1).length = b
  rw [Bool.eq_iff_iff]
  simp only [beq_iff_eq]
  have h1 : (a % 2 == 0) = decide (a % 2 = 0) := by by_cases h : a % 2 = 0 <;> simp [h]
  have h2 : (b % 2 == 0) = decide (b % 2 = 0) := by by_cases h : b % 2 = 0 <;> simp [h]
  rw [h1, h2]
  by_cases ha : a % 2 = 0 <;> by_cases hb : b % 2 = 0 <;> simp [ha, hb] <;> omega
theorem walk_left {p q : List Int} (w : Walk1 ls (p ++ q)) : Walk1 ls p := ⟨fun n hn => w.num n (List.mem_append_left _ hn), fun i a b h1 h2 => by
  have := (List.getElem?_eq_some_iff.mp h2).1
  exact w.chain i a b (by rw [List.getElem?_append_left (by omega)]; exact h1) (by rw [List.getElem?_append_left (by omega)]; exact h2)⟩
theorem walk_right {p q : List Int} (w : Walk1 ls (p ++ q)) : Walk1 ls q := ⟨fun n hn => w.num n (List.mem_append_right _ hn), fun i a b h1 h2 => by
  exact w.chain (p.length + i) a b (by rw [List.getElem?_append_right (by omega), Nat.add_sub_cancel_left]; exact h1) (by rw [List.getElem?_append_right (by omega), show p.length + i + 1 - p.length = i + 1 by omega]; exact h2)⟩
theorem walk_join {p q : List Int} (hp : p ≠ []) (hq : q ≠ []) (w1 : Walk1 ls p) (w2 : Walk1 ls q) (h : lkr ls (p.getLastD 0) = lkd ls (q.headD 0)) : Walk1 ls (p ++ q) := by
  have lp : 0 < p.length := List.length_pos_iff.mpr hp
  have lq : 0 < q.length := List.length_pos_iff.mpr hq
  refine ⟨fun n hn => ?_, fun i a b h1 h2 => ?_⟩
  · rcases List.mem_append.mp hn with h | h
    · exact w1.num n h
    · exact w2.num n h
  · by_cases hi : i + 1 < p.length
    · rw [List.getElem?_append_left (by omega)] at h1 h2
      exact w1.chain i a b h1 h2
    · by_cases hi2 : i + 1 = p.length
      · rw [List.getElem?_append_left (by omega)] at h1
        rw [List.getElem?_append_right (by omega), hi2, Nat.sub_self] at h2
        have e1 := getLastD_get hp
        rw [show p.length - 1 = i by omega, h1] at e1
        have e2 : q.headD 0 = b := by
          cases q with
          | nil => cases h2
          | cons x y => simpa using h2
        rw [Option.some.inj e1, h, e2]
      · rw [List.getElem?_append_right (by omega)] at h1 h2
        exact w2.chain (i - p.length) a b h1 (by rw [show i - p.length + 1 = i + 1 - p.length by omega]; exact h2)
theorem join_link {p q : List Int} (hp : p ≠ []) (hq : q ≠ []) (w : Walk1 ls (p ++ q)) : lkr ls (p.getLastD 0) = lkd ls (q.headD 0) := by
  have lp : 0 < p.length := List.length_pos_iff.mpr hp
  have e2 : q[0]? = some (q.headD 0) := by
    cases q with
    | nil => exact absurd rfl hq
    | cons x y => rfl
  exact w.chain (p.length - 1) _ _ (by rw [List.getElem?_append_left (by omega)]; exact getLastD_get hp) (by rw [List.getElem?_append_right (by omega), show p.length - 1 + 1 - p.length = 0 by omega]; exact e2)
theorem last_app {p q : List Int} (hq : q ≠ []) : (p ++ q).getLastD 0 = q.getLastD 0 := by
  rw [List.getLastD_eq_getLast?, List.getLastD_eq_getLast?, List.getLast?_append]
  cases h : q.getLast? with
  | none => exact absurd (List.getLast?_eq_none_iff.mp h) hq
  | some v => rfl
/-- two places with one looker part a loop in two -/
theorem twice_split {c : List Int} (h : ¬ (c.map (lkr ls)).Nodup) : ∃ (p q r : List Int), c = p ++ q ++ r ∧ p ≠ [] ∧ q ≠ [] ∧ lkr ls (p.getLastD 0) = lkr ls (q.getLastD 0) := by
  have h2 : ¬ ∀ (i j : Nat), i < j → ∀ (a b : Int), c[i]? = some a → c[j]? = some b → lkr ls a ≠ lkr ls b := by
    intro z
    refine h ?_
    rw [List.Nodup, List.pairwise_map, List.pairwise_iff_getElem]
    intro i j hi hj hij
    exact z i j hij _ _ (List.getElem?_eq_getElem hi) (List.getElem?_eq_getElem hj)
  have ⟨i, h2⟩ := Classical.not_forall.mp h2
  have ⟨j, h2⟩ := Classical.not_forall.mp h2
  have ⟨hij, h2⟩ := Classical.not_forall.mp h2
  have ⟨a, h2⟩ := Classical.not_forall.mp h2
  have ⟨b, h2⟩ := Classical.not_forall.mp h2
  have ⟨ha, h2⟩ := Classical.not_forall.mp h2
  have ⟨hb, h2⟩ := Classical.not_forall.mp h2
  have e : lkr ls a = lkr ls b := Classical.not_not.mp h2
  have hj := (List.getElem?_eq_some_iff.mp hb).1
  have hi := (List.getElem?_eq_some_iff.mp ha).1
  have ep : (c.take (i + 1)).getLastD 0 = a := by
    rw [List.take_add_one, ha]
    exact getLastD_app
  have eq0 : (c.take (j + 1)).drop (i + 1) ≠ [] := by
    intro z
    have := congrArg List.length z
    simp at this
    omega
  have eq1 : ((c.take (j + 1)).drop (i + 1)).getLastD 0 = b := by
    have e1 : (c.take (j + 1)).take (i + 1) ++ (c.take (j + 1)).drop (i + 1) = c.take (j + 1) := List.take_append_drop ..
    have e2 := last_app (p := (c.take (j + 1)).take (i + 1)) eq0
    rw [e1] at e2
    rw [← e2, List.take_add_one, hb]
    exact getLastD_app
  refine ⟨c.take (i + 1), (c.take (j + 1)).drop (i + 1), c.drop (j + 1), ?_, ?_, eq0, by rw [ep, eq1]; exact e⟩
  · have e1 : c.take (i + 1) = (c.take (j + 1)).take (i + 1) := by rw [List.take_take, Nat.min_eq_left (by omega)]
    rw [e1, List.take_append_drop, List.take_append_drop]
  · intro z
    have := congrArg List.length z
    rw [List.length_take, List.length_nil] at this
    omega
theorem odd_loop : ∀ (k : Nat) {c : List Int}, c.length ≤ k → Loop1 ls c → evenP ls c = false → ∃ r, Round ls r ∧ evenP ls r = false
  | 0, c, hk, L, _ => absurd (List.eq_nil_of_length_eq_zero (Nat.le_zero.mp hk)) L.ne
  | k + 1, c, hk, L, ho => by
    by_cases hn : (c.map (lkr ls)).Nodup
    · exact ⟨c, ⟨L.ne, L.w.num, hn, L.w.chain, L.close⟩, ho⟩
    · obtain ⟨p, q, r, rfl, hp, hq, e⟩ := twice_split hn
      have lp : 0 < p.length := List.length_pos_iff.mpr hp
      have lq : 0 < q.length := List.length_pos_iff.mpr hq
      have hl : (p ++ q ++ r).length = p.length + q.length + r.length := by rw [List.length_append, List.length_append]
      rw [odd_app, odd_app] at ho
      have wpq := walk_left L.w
      have wr := walk_right L.w
      have wp := walk_left wpq
      have wq := walk_right wpq
      have link := join_link hp hq wpq
      -- the inner loop
      have Lq : Loop1 ls q := ⟨hq, wq, by rw [← e]; exact link⟩
      by_cases hoq : evenP ls q = false
      · exact odd_loop k (by omega) Lq hoq
      · have hoq : evenP ls q = true := by simpa using hoq
        by_cases hr : r = []
        · subst hr
          have Lp : Loop1 ls p := by
            refine ⟨hp, wp, ?_⟩
            have := L.close
            rw [List.append_nil, last_app hq, headD_app hp] at this
            rw [e]
            exact this
          refine odd_loop k (by omega) Lp ?_
          rw [hoq] at ho
          have e0 : evenP ls [] = true := rfl
          rw [e0] at ho
          revert ho
          cases evenP ls p <;> decide
        · have link2 := join_link (p := p ++ q) (by simp [hp]) hr L.w
          rw [last_app hq, ← e] at link2
          have Lpr : Loop1 ls (p ++ r) := by
            refine ⟨by simp [hp], walk_join hp hr wp wr link2, ?_⟩
            have := L.close
            rw [last_app hr, List.append_assoc, headD_app hp] at this
            rw [last_app hr, headD_app hp]
            exact this
          refine odd_loop k (by rw [List.length_append]; omega) Lpr ?_
          rw [odd_app]
          rw [hoq] at ho
          revert ho
          cases evenP ls p <;> cases evenP ls r <;> decide
end
/-- where no ring is odd, no loop is -/
theorem loop_even {W : Web} (ok : W.Ok) (h : ∀ p ∈ ringsOf W, evenP W.looks p = true) {c : List Int} (L : Loop1 W.looks c) : evenP W.looks c = true := by
  cases e : evenP W.looks c with
  | true => rfl
  | false =>
    obtain ⟨r, R, ho⟩ := odd_loop c.length (Nat.le_refl _) L e
    obtain ⟨p, hp, _, e2⟩ := round_has ok R
    rw [h p hp] at e2
    rw [← e2] at ho
    cases ho
end Lk

/-! ## RC4 -/
set_option Elab.async false
set_option linter.all false
set_option maxRecDepth 100000
set_option maxHeartbeats 2000000
/-! Where no ring is odd: those who lead to one another have sides. -/
namespace Lk
open PySem PySem.Spec PyProof.Rows L2 Gx
variable [Own]
section
variable {W : Web} {U : Int → Prop}
/-- a way of looks from h to g through folk of U -/
def Way (W : Web) (U : Int → Prop) (h g : Int) (c : List Int) : Prop :=
  (c = [] ∧ h = g) ∨ (c ≠ [] ∧ Walk1 W.looks c ∧ lkd W.looks (c.headD 0) = h ∧ lkr W.looks (c.getLastD 0) = g ∧ ∀ n ∈ c, U (lkd W.looks n) ∧ U (lkr W.looks n))
theorem way_join {h g k : Int} {c d : List Int} (a : Way W U h g c) (b : Way W U g k d) : Way W U h k (c ++ d) := by
  rcases a with ⟨rfl, rfl⟩ | ⟨c0, w1, a1, a2, a3⟩
  · exact b
  · rcases b with ⟨rfl, rfl⟩ | ⟨d0, w2, b1, b2, b3⟩
    · rw [List.append_nil]
      exact .inr ⟨c0, w1, a1, a2, a3⟩
    · refine .inr ⟨by simp [c0], walk_join c0 d0 w1 w2 (a2.trans b1.symm), by rw [headD_app c0]; exact a1, by rw [last_app d0]; exact b2, fun n hn => ?_⟩
      rcases List.mem_append.mp hn with h | h
      · exact a3 n h
      · exact b3 n h
theorem way_loop (ok : W.Ok) (hr : ∀ p ∈ ringsOf W, evenP W.looks p = true) {h : Int} {c : List Int} (a : Way W U h h c) : evenP W.looks c = true := by
  rcases a with ⟨rfl, _⟩ | ⟨c0, w1, a1, a2, _⟩
  · rfl
  · exact loop_even ok hr ⟨c0, w1, a2.trans a1.symm⟩
theorem way_one {n : Int} (hn : 0 ≤ n ∧ n < W.looks.length) (h1 : U (lkd W.looks n)) (h2 : U (lkr W.looks n)) : Way W U (lkd W.looks n) (lkr W.looks n) [n] :=
  .inr ⟨by simp, ⟨fun m hm => by rw [List.mem_singleton.mp hm]; exact hn, fun i a b _ h => by simp at h⟩, rfl, rfl, fun m hm => by rw [List.mem_singleton.mp hm]; exact ⟨h1, h2⟩⟩
theorem even_one (ok : W.Ok) {n : Int} (hn : 0 ≤ n ∧ n < W.looks.length) : evenP W.looks [n] = decide (lks W.looks n = 1) := by
  rw [even_cons]
  rcases sign_of ok hn.1 hn.2 with e | e
  · rw [e, if_neg (by decide)]
    rfl
  · rw [e, if_pos rfl]
    rfl
/-- those of U that lead to f -/
def Anc (W : Web) (U : Int → Prop) (h f : Int) : Prop := U h ∧ ∃ c, Way W U h f c
open Classical in
/-- a side: an even way from f -/
noncomputable def sideOf (W : Web) (U : Int → Prop) (f g : Int) : Bool := decide (∃ c, Way W U f g c ∧ evenP W.looks c = true)
open Classical in
theorem side_way (ok : W.Ok) (hr : ∀ p ∈ ringsOf W, evenP W.looks p = true) {f g : Int} {c b : List Int} (a : Way W U f g c) (back : Way W U g f b) : sideOf W U f g = evenP W.looks c := by
  have key : ∀ d, Way W U f g d → evenP W.looks d = evenP W.looks c := fun d hd => by
    have h1 := way_loop ok hr (way_join a back)
    have h2 := way_loop ok hr (way_join hd back)
    rw [odd_app] at h1 h2
    revert h1 h2
    cases evenP W.looks d <;> cases evenP W.looks c <;> cases evenP W.looks b <;> decide
  unfold sideOf
  cases e : evenP W.looks c with
  | true => exact decide_eq_true ⟨c, a, e⟩
  | false =>
    refine decide_eq_false ?_
    rintro ⟨d, hd, he⟩
    rw [key d hd, e] at he
    cases he
/-- a look between folk that lead to one another goes with their sides -/
theorem side_look (ok : W.Ok) (hr : ∀ p ∈ ringsOf W, evenP W.looks p = true) {f n : Int} (hn : 0 ≤ n ∧ n < W.looks.length) (u1 : U (lkd W.looks n)) (u2 : U (lkr W.looks n))
    (h1 : ∃ c, Way W U f (lkd W.looks n) c) (h2 : ∃ c, Way W U (lkr W.looks n) f c) : decide (lks W.looks n = 1) = (sideOf W U f (lkd W.looks n) == sideOf W U f (lkr W.looks n)) := by
  obtain ⟨c, hc⟩ := h1
  obtain ⟨b, hb⟩ := h2
  have one := way_one hn u1 u2
  rw [side_way ok hr hc (way_join one hb), side_way ok hr (way_join hc one) hb, odd_app, even_one ok hn]
  cases evenP W.looks c <;> cases decide (lks W.looks n = 1) <;> rfl
end
section
variable {W : Web} {ru : List (List Int)}
/-- told the same where those looked at have the same moods -/
theorem place_same {x y : List Int} {f : Int} (h : ∀ l ∈ looksOf W f, stAt x l.1 = stAt y l.1) : placeOf W x f = placeOf W y f := by
  unfold placeOf
  have : ∀ (ls : List (Int × Int)) (a : Int), (∀ l ∈ ls, stAt x l.1 = stAt y l.1) → ls.foldl (placeStep W x) a = ls.foldl (placeStep W y) a := by
    intro ls
    induction ls with
    | nil => exact fun _ _ => rfl
    | cons l ls ih =>
      intro a hl
      rw [List.foldl_cons, List.foldl_cons]
      have e : placeStep W x a l = placeStep W y a l := by unfold placeStep; rw [hl l (List.mem_cons_self ..)]
      rw [e]
      exact ih _ fun m hm => hl m (List.mem_cons_of_mem _ hm)
  exact this _ _ h
theorem mood_same {x y : List Int} {f : Int} (h : ∀ l ∈ looksOf W f, stAt x l.1 = stAt y l.1) : moodTold W ru x f = moodTold W ru y f := by
  unfold moodTold
  rw [place_same h]
open Classical in
/-- a tick of those in A alone -/
noncomputable def tickA (W : Web) (ru : List (List Int)) (A : Int → Prop) (st : List Int) : List Int := (List.range W.tops.length).map fun f : Nat => if A (f : Int) then moodTold W ru st (f : Int) else stAt st (f : Int)
open Classical in
theorem tickA_at {A : Int → Prop} {st : List Int} {f : Int} (h0 : 0 ≤ f) (h1 : f < W.tops.length) : stAt (tickA W ru A st) f = if A f then moodTold W ru st f else stAt st f := by
  unfold tickA
  show List.getD _ _ _ = _
  rw [List.getD_eq_getElem?_getD, List.getElem?_map, List.getElem?_range (by omega)]
  show (if A ((f.toNat : Nat) : Int) then moodTold W ru st ((f.toNat : Nat) : Int) else stAt st ((f.toNat : Nat) : Int)) = _
  rw [show ((f.toNat : Nat) : Int) = f by omega]
theorem mood_bd (ok : W.Ok) (r0 : Ru0 W ru) (hb : firstBad W ru = none) {st : List Int} (so : StOk W st) {f : Int} (h0 : 0 ≤ f) (h1 : f < W.tops.length) : 0 ≤ moodTold W ru st f ∧ moodTold W ru st f ≤ topAt W f := by
  have h := (told_ok ok r0 hb so).bd f h0 h1
  rw [told_at h0 (by rw [so.len]; exact h1)] at h
  exact h
theorem tickA_ok (ok : W.Ok) (r0 : Ru0 W ru) (hb : firstBad W ru = none) {A : Int → Prop} {st : List Int} (so : StOk W st) : StOk W (tickA W ru A st) := by
  refine ⟨by unfold tickA; rw [List.length_map, List.length_range], fun f h0 h1 => ?_⟩
  rw [tickA_at h0 h1]
  split
  · exact mood_bd ok r0 hb so h0 h1
  · exact so.bd f h0 h1
/-- x below y: by sides in A, alike elsewhere -/
def LeA (W : Web) (A : Int → Prop) (side : Int → Bool) (x y : List Int) : Prop := ∀ f : Int, 0 ≤ f → f < W.tops.length → (A f → if side f = true then stAt x f ≤ stAt y f else stAt y f ≤ stAt x f) ∧ (¬ A f → stAt x f = stAt y f)
/-- looks within A go with sides: then ticks of A keep the order -/
theorem tickA_mono (ok : W.Ok) (hb : firstBad W ru = none) {A : Int → Prop} {side : Int → Bool} (hs : ∀ n : Int, 0 ≤ n → n < W.looks.length → A (lkd W.looks n) → A (lkr W.looks n) → decide (lks W.looks n = 1) = (side (lkd W.looks n) == side (lkr W.looks n)))
    {x y : List Int} (sx : StOk W x) (sy : StOk W y) (h : LeA W A side x y) : LeA W A side (tickA W ru A x) (tickA W ru A y) := by
  intro f h0 h1
  rw [tickA_at h0 h1, tickA_at h0 h1]
  refine ⟨fun hA => ?_, fun hA => by rw [if_neg hA, if_neg hA]; exact (h f h0 h1).2 hA⟩
  rw [if_pos hA, if_pos hA]
  have ht := firstBad_none hb f h0 h1
  -- a look that went the other way
  have no : ∀ {a b : List Int}, StOk W a → StOk W b → (∀ l ∈ looksOf W f, ¬ 0 < l.2 * (stAt b l.1 - stAt a l.1)) → moodTold W ru b f ≤ moodTold W ru a f := fun {a b} sa sb hn => by
    refine Int.not_lt.mp fun hlt => ?_
    obtain ⟨l, hl, hp⟩ := told_why ok ht sa sb hlt
    exact hn l hl hp
  have at_ : ∀ l ∈ looksOf W f, (stAt x l.1 = stAt y l.1) ∨ (A l.1 ∧ (decide (l.2 = 1) = (side l.1 == side f)) ∧ (if side l.1 = true then stAt x l.1 ≤ stAt y l.1 else stAt y l.1 ≤ stAt x l.1)) := fun l hl => by
    obtain ⟨n, hn, e1, e2, e3⟩ := look_number hl
    have lo := (looksOf_ok ok l hl).1
    by_cases hg : A l.1
    · have h2 := hs n hn.1 hn.2 (by rw [e2]; exact hg) (by rw [e1]; exact hA)
      rw [e1, e2, e3] at h2
      exact .inr ⟨hg, h2, (h l.1 lo.1 lo.2).1 hg⟩
    · exact .inl ((h l.1 lo.1 lo.2).2 hg)
  by_cases hsf : side f = true
  · rw [if_pos hsf]
    refine no sy sx fun l hl => ?_
    rcases at_ l hl with e | ⟨_, e1, e2⟩
    · rw [e, Int.sub_self, Int.mul_zero]
      omega
    · rw [hsf] at e1
      rcases (looksOf_ok ok l hl).2 with s1 | s1
      · rw [s1] at e1 ⊢
        have : side l.1 = true := by
          revert e1
          cases side l.1 <;> decide
        rw [if_pos this] at e2
        omega
      · rw [s1] at e1 ⊢
        have : side l.1 = false := by
          revert e1
          cases side l.1 <;> decide
        rw [this, if_neg (by decide)] at e2
        omega
  · rw [if_neg hsf]
    have hsf : side f = false := by simpa using hsf
    refine no sx sy fun l hl => ?_
    rcases at_ l hl with e | ⟨_, e1, e2⟩
    · rw [e, Int.sub_self, Int.mul_zero]
      omega
    · rw [hsf] at e1
      rcases (looksOf_ok ok l hl).2 with s1 | s1
      · rw [s1] at e1 ⊢
        have : side l.1 = false := by
          revert e1
          cases side l.1 <;> decide
        rw [this, if_neg (by decide)] at e2
        omega
      · rw [s1] at e1 ⊢
        have : side l.1 = true := by
          revert e1
          cases side l.1 <;> decide
        rw [if_pos this] at e2
        omega
end
end Lk

/-! ## RC5 -/
set_option Elab.async false
set_option linter.all false
set_option maxRecDepth 100000
set_option maxHeartbeats 2000000
/-! Where no ring is odd, some state is settled. -/
namespace Lk
open PySem PySem.Spec PyProof.Rows L2 Gx
variable [Own]
section
variable {W : Web} {ru : List (List Int)}
/-- how far up by sides -/
def upOf (W : Web) (side : Int → Bool) (st : List Int) (f : Int) : Int := if side f = true then stAt st f else topAt W f - stAt st f
open Classical in
noncomputable def risen (W : Web) (A : Int → Prop) (side : Int → Bool) (st : List Int) : Nat → Int
  | 0 => 0
  | n + 1 => risen W A side st n + (if A (n : Int) then upOf W side st (n : Int) else 0)
open Classical in
theorem risen_bd (ok : W.Ok) {A : Int → Prop} {side : Int → Bool} {st : List Int} (so : StOk W st) : ∀ n, n ≤ W.tops.length → 0 ≤ risen W A side st n ∧ risen W A side st n ≤ 3 * (n : Int)
  | 0, _ => ⟨Int.le_refl _, Int.le_refl _⟩
  | n + 1, hn => by
    have ih := risen_bd ok (A := A) (side := side) so n (by omega)
    have hb := so.bd (n : Int) (by omega) (by omega)
    have ht := topAt_ok ok (i := (n : Int)) (by omega) (by omega)
    have hu : 0 ≤ upOf W side st (n : Int) ∧ upOf W side st (n : Int) ≤ 3 := by
      unfold upOf
      split <;> omega
    show 0 ≤ risen W A side st n + _ ∧ risen W A side st n + _ ≤ _
    split <;> omega
open Classical in
theorem risen_le {A : Int → Prop} {side : Int → Bool} {x y : List Int} (h : LeA W A side x y) : ∀ n, n ≤ W.tops.length → risen W A side x n ≤ risen W A side y n ∧ ((∃ f : Int, 0 ≤ f ∧ f < n ∧ stAt x f ≠ stAt y f) → risen W A side x n < risen W A side y n)
  | 0, _ => ⟨Int.le_refl _, fun ⟨f, h0, h1, _⟩ => by omega⟩
  | n + 1, hn => by
    obtain ⟨i1, i2⟩ := risen_le h n (by omega)
    obtain ⟨h1, h2⟩ := h (n : Int) (by omega) (by omega)
    have step : (if A (n : Int) then upOf W side x (n : Int) else 0) ≤ (if A (n : Int) then upOf W side y (n : Int) else 0) ∧ (stAt x (n : Int) ≠ stAt y (n : Int) → (if A (n : Int) then upOf W side x (n : Int) else 0) < (if A (n : Int) then upOf W side y (n : Int) else 0)) := by
      by_cases hA : A (n : Int)
      · have h3 := h1 hA
        rw [if_pos hA, if_pos hA]
        unfold upOf
        by_cases hs : side (n : Int) = true
        · rw [if_pos hs] at h3
          rw [if_pos hs, if_pos hs]
          exact ⟨h3, fun ne => by omega⟩
        · rw [if_neg hs] at h3
          rw [if_neg hs, if_neg hs]
          exact ⟨by omega, fun ne => by omega⟩
      · rw [if_neg hA, if_neg hA]
        exact ⟨Int.le_refl _, fun ne => absurd (h2 hA) ne⟩
    refine ⟨Int.add_le_add i1 step.1, fun ⟨f, f0, f1, ne⟩ => ?_⟩
    show risen W A side x n + _ < risen W A side y n + _
    by_cases e : f = (n : Int)
    · have := step.2 (by rw [← e]; exact ne)
      omega
    · have := i2 ⟨f, f0, by omega, ne⟩
      have := step.1
      omega
theorem same_state {x y : List Int} (sx : StOk W x) (sy : StOk W y) (h : ∀ f : Int, 0 ≤ f → f < W.tops.length → stAt x f = stAt y f) : x = y := by
  refine List.ext_getElem? fun i => ?_
  by_cases hi : i < W.tops.length
  · have g : ∀ st : List Int, StOk W st → st[i]? = some (stAt st (i : Int)) := fun st so => stAt_get (st := st) (i := (i : Int)) (by omega) (by rw [so.len]; omega)
    rw [g x sx, g y sy, h (i : Int) (by omega) (by omega)]
  · rw [List.getElem?_eq_none (by rw [sx.len]; omega), List.getElem?_eq_none (by rw [sy.len]; omega)]
/-- ticks of A from a state that they raise: they come to rest -/
theorem tickA_rest (ok : W.Ok) (r0 : Ru0 W ru) (hb : firstBad W ru = none) {A : Int → Prop} {side : Int → Bool} (hs : ∀ n : Int, 0 ≤ n → n < W.looks.length → A (lkd W.looks n) → A (lkr W.looks n) → decide (lks W.looks n = 1) = (side (lkd W.looks n) == side (lkr W.looks n))) :
    ∀ (k : Nat) {x : List Int}, StOk W x → LeA W A side x (tickA W ru A x) → 19 ≤ risen W A side x W.tops.length + (k : Int) → ∃ z, StOk W z ∧ tickA W ru A z = z ∧ ∀ f : Int, 0 ≤ f → f < W.tops.length → ¬ A f → stAt z f = stAt x f
  | 0, x, sx, _, hk => by
    have := (risen_bd ok (A := A) (side := side) sx W.tops.length (Nat.le_refl _)).2
    have h6 := ok.few
    omega
  | k + 1, x, sx, hle, hk => by
    have sy := tickA_ok (ru := ru) ok r0 hb (A := A) sx
    by_cases e : tickA W ru A x = x
    · exact ⟨x, sx, e, fun _ _ _ _ => rfl⟩
    · have ne : ∃ f : Int, 0 ≤ f ∧ f < W.tops.length ∧ stAt x f ≠ stAt (tickA W ru A x) f := by
        refine Classical.byContradiction fun h => e ?_
        exact same_state sy sx fun f h0 h1 => (Classical.byContradiction fun z => h ⟨f, h0, h1, fun q => z q.symm⟩)
      have up := (risen_le hle W.tops.length (Nat.le_refl _)).2 ne
      obtain ⟨z, z1, z2, z3⟩ := tickA_rest ok r0 hb hs k sy (tickA_mono ok hb hs sx sy hle) (by omega)
      refine ⟨z, z1, z2, fun f h0 h1 hA => ?_⟩
      rw [z3 f h0 h1 hA, ← (hle f h0 h1).2 hA]
open Classical in
/-- the low end of A -/
noncomputable def lowEnd (W : Web) (A : Int → Prop) (side : Int → Bool) (st : List Int) : List Int := (List.range W.tops.length).map fun f : Nat => if A (f : Int) then (if side (f : Int) = true then 0 else topAt W (f : Int)) else stAt st (f : Int)
open Classical in
theorem lowEnd_at {A : Int → Prop} {side : Int → Bool} {st : List Int} {f : Int} (h0 : 0 ≤ f) (h1 : f < W.tops.length) : stAt (lowEnd W A side st) f = if A f then (if side f = true then 0 else topAt W f) else stAt st f := by
  unfold lowEnd
  show List.getD _ _ _ = _
  rw [List.getD_eq_getElem?_getD, List.getElem?_map, List.getElem?_range (by omega)]
  show (if A ((f.toNat : Nat) : Int) then (if side ((f.toNat : Nat) : Int) = true then 0 else topAt W ((f.toNat : Nat) : Int)) else stAt st ((f.toNat : Nat) : Int)) = _
  rw [show ((f.toNat : Nat) : Int) = f by omega]
theorem lowEnd_ok (ok : W.Ok) {A : Int → Prop} {side : Int → Bool} {st : List Int} (so : StOk W st) : StOk W (lowEnd W A side st) := by
  refine ⟨by unfold lowEnd; rw [List.length_map, List.length_range], fun f h0 h1 => ?_⟩
  have ht := topAt_ok ok h0 h1
  have hb := so.bd f h0 h1
  rw [lowEnd_at h0 h1]
  split
  · split <;> omega
  · exact hb
/-- those who lead to one another, all their other looks at decided folk: they can be settled -/
theorem part_rest (ok : W.Ok) (r0 : Ru0 W ru) (hb : firstBad W ru = none) {A : Int → Prop} {side : Int → Bool} (hs : ∀ n : Int, 0 ≤ n → n < W.looks.length → A (lkd W.looks n) → A (lkr W.looks n) → decide (lks W.looks n = 1) = (side (lkd W.looks n) == side (lkr W.looks n))) {st : List Int} (so : StOk W st) :
    ∃ z, StOk W z ∧ (∀ f : Int, 0 ≤ f → f < W.tops.length → A f → moodTold W ru z f = stAt z f) ∧ ∀ f : Int, 0 ≤ f → f < W.tops.length → ¬ A f → stAt z f = stAt st f := by
  have sl := lowEnd_ok (A := A) (side := side) ok so
  have hle : LeA W A side (lowEnd W A side st) (tickA W ru A (lowEnd W A side st)) := fun f h0 h1 => by
    have hm := mood_bd (ru := ru) ok r0 hb sl h0 h1
    rw [tickA_at h0 h1, lowEnd_at h0 h1]
    refine ⟨fun hA => ?_, fun hA => by rw [if_neg hA, if_neg hA]⟩
    rw [if_pos hA, if_pos hA]
    split
    · exact hm.1
    · exact hm.2
  obtain ⟨z, z1, z2, z3⟩ := tickA_rest ok r0 hb hs 19 sl hle (by have := (risen_bd ok (A := A) (side := side) sl W.tops.length (Nat.le_refl _)).1; omega)
  refine ⟨z, z1, fun f h0 h1 hA => ?_, fun f h0 h1 hA => ?_⟩
  · have e := tickA_at (W := W) (ru := ru) (A := A) (st := z) h0 h1
    rw [z2, if_pos hA] at e
    exact e.symm
  · rw [z3 f h0 h1 hA, lowEnd_at h0 h1, if_neg hA]
end
/-- the least by a measure -/
theorem least_by {α : Type} {p : α → Prop} (m : α → Nat) : ∀ (k : Nat) {a : α}, p a → m a ≤ k → ∃ b, p b ∧ ∀ c, p c → m b ≤ m c
  | 0, a, ha, hm => ⟨a, ha, fun c _ => by omega⟩
  | k + 1, a, ha, hm => by
    by_cases h : ∃ c, p c ∧ m c < m a
    · obtain ⟨c, hc, hlt⟩ := h
      exact least_by m k hc (by omega)
    · exact ⟨a, ha, fun c hc => Nat.not_lt.mp fun z => h ⟨c, hc, z⟩⟩
theorem filter_same {α : Type} {p q : α → Bool} : ∀ {l : List α}, (∀ a ∈ l, p a = true → q a = true) → (l.filter q).length ≤ (l.filter p).length → ∀ a ∈ l, q a = true → p a = true
  | [], _, _, _, h, _ => by cases h
  | b :: l, hpq, hl, a, ha, hq => by
    have hpq' : ∀ a ∈ l, p a = true → q a = true := fun a ha => hpq a (List.mem_cons_of_mem _ ha)
    have mono : (l.filter p).length ≤ (l.filter q).length := by
      have : ∀ l : List α, (∀ a ∈ l, p a = true → q a = true) → (l.filter p).length ≤ (l.filter q).length := by
        intro l
        induction l with
        | nil => exact fun _ => Nat.le_refl _
        | cons c l ih =>
          intro h
          have := ih fun a ha => h a (List.mem_cons_of_mem _ ha)
          have hc := h c (List.mem_cons_self ..)
          rw [List.filter_cons, List.filter_cons]
          cases hp : p c with
          | true => rw [hc hp, if_pos rfl, if_pos rfl, List.length_cons, List.length_cons]; omega
          | false =>
            rw [if_neg (by decide)]
            split
            · rw [List.length_cons]; omega
            · exact this
      exact this l hpq'
    rw [List.filter_cons, List.filter_cons] at hl
    have hb := hpq b (List.mem_cons_self ..)
    cases hpb : p b with
    | true =>
      rw [hpb, hb hpb, if_pos rfl, if_pos rfl, List.length_cons, List.length_cons] at hl
      rcases List.mem_cons.mp ha with e | ha
      · rw [e]; exact hpb
      · exact filter_same hpq' (by omega) a ha hq
    | false =>
      rw [hpb, if_neg (show ¬ (false = true) by decide)] at hl
      cases hqb : q b with
      | true =>
        rw [hqb, if_pos rfl, List.length_cons] at hl
        omega
      | false =>
        rw [hqb, if_neg (show ¬ (false = true) by decide)] at hl
        rcases List.mem_cons.mp ha with e | ha
        · rw [e, hqb] at hq
          cases hq
        · exact filter_same hpq' hl a ha hq
end Lk

/-! ## TN -/
set_option Elab.async false
set_option linter.all false
set_option maxRecDepth 100000
set_option maxHeartbeats 2000000
/-! Webs, rules and states with the moods of a lot turned over: no heap in it. -/
namespace Lk
open PySem PySem.Spec PyProof.Rows L2 Gx
variable [Own]
/-- somebody of the lot or not -/
abbrev Lot := Int → Bool
def turnLook (lot : Lot) (l : Look3) : Look3 := (l.1, l.2.1, if lot l.1 = lot l.2.1 then l.2.2 else -l.2.2)
def turnW (lot : Lot) (W : Web) : Web := ⟨W.tops, W.looks.map (turnLook lot)⟩
def turnM (lot : Lot) (W : Web) (f m : Int) : Int := if lot f = true then topAt W f - m else m
def turnS (lot : Lot) (W : Web) (st : List Int) : List Int := (List.range st.length).map fun f : Nat => turnM lot W (f : Int) (stAt st (f : Int))
section
variable {W : Web} {lot : Lot}
theorem turnLook_two (l : Look3) : turnLook lot (turnLook lot l) = l := by
  unfold turnLook
  by_cases h : lot l.1 = lot l.2.1
  · simp [h]
  · simp [h]
theorem turnW_two : turnW lot (turnW lot W) = W := by
  unfold turnW
  simp only [List.map_map]
  have : (turnLook lot ∘ turnLook lot) = id := by
    funext l
    exact turnLook_two l
  rw [this, List.map_id]
theorem turnW_ok (ok : W.Ok) : (turnW lot W).Ok := by
  refine ⟨ok.some_, ok.few, ok.tops, by show (W.looks.map _).length ≤ 14; rw [List.length_map]; exact ok.most, fun l hl => ?_, ?_, fun f => ?_⟩
  · obtain ⟨k, hk, rfl⟩ := List.mem_map.mp hl
    have h := ok.look k hk
    refine ⟨h.1, h.2.1, ?_⟩
    show (if lot k.1 = lot k.2.1 then k.2.2 else -k.2.2) = 1 ∨ (if lot k.1 = lot k.2.1 then k.2.2 else -k.2.2) = -1
    have := h.2.2
    split <;> omega
  · exact List.pairwise_map.mpr ok.asc
  · have h := ok.four f
    show (((W.looks.map (turnLook lot)).map fun l => l.2.1).filter fun o => o == f).length ≤ 4
    rw [List.map_map]
    exact h
theorem topAt_turn (f : Int) : topAt (turnW lot W) f = topAt W f := rfl
/-- the looks of one, turned -/
def turnSee (lot : Lot) (f : Int) (p : Int × Int) : Int × Int := (p.1, if lot p.1 = lot f then p.2 else -p.2)
theorem looksOf_turn (f : Int) : looksOf (turnW lot W) f = (looksOf W f).map (turnSee lot f) := by
  unfold looksOf turnW
  show List.map _ (List.filter _ (List.map _ _)) = _
  rw [List.filter_map, List.map_map, List.map_map]
  refine List.map_congr_left fun l hl => ?_
  have hf : l.2.1 = f := beq_iff_eq.mp (List.mem_filter.mp hl).2
  show ((turnLook lot l).1, (turnLook lot l).2.2) = turnSee lot f (l.1, l.2.2)
  unfold turnLook turnSee
  rw [hf]
theorem lookN_turn {n : Int} : lkd (turnW lot W).looks n = lkd W.looks n ∧ lkr (turnW lot W).looks n = lkr W.looks n := by
  have key : lookN (turnW lot W).looks n = (if n.toNat < W.looks.length then turnLook lot (lookN W.looks n) else (0, 0, 0)) := by
    unfold lookN turnW
    rw [List.getD_eq_getElem?_getD, List.getElem?_map, List.getD_eq_getElem?_getD]
    by_cases h : n.toNat < W.looks.length
    · rw [if_pos h, List.getElem?_eq_getElem h] <;> rfl
    · rw [if_neg h, List.getElem?_eq_none (by omega)] <;> rfl
  unfold lkd lkr
  rw [key]
  by_cases h : n.toNat < W.looks.length
  · rw [if_pos h]
    exact ⟨rfl, rfl⟩
  · rw [if_neg h]
    have : lookN W.looks n = (0, 0, 0) := by
      unfold lookN
      rw [List.getD_eq_getElem?_getD, List.getElem?_eq_none (by omega)] <;> rfl
    rw [this]
    exact ⟨rfl, rfl⟩
theorem closes_turn (p : List Int) : closesP (turnW lot W).looks p = closesP W.looks p := by
  unfold closesP
  rw [lookN_turn.1, lookN_turn.2]
theorem goesOn_turn (p : List Int) (n : Int) : goesOnP (turnW lot W).looks p n = goesOnP W.looks p n := by
  unfold goesOnP
  have : (lkr (turnW lot W).looks) = lkr W.looks := funext fun n => lookN_turn.2
  rw [this, lookN_turn.1]
theorem longer_turn (p : List Int) : longer (turnW lot W).looks p = longer W.looks p := by
  unfold longer
  have e : goesOnP (turnW lot W).looks p = goesOnP W.looks p := funext fun n => goesOn_turn p n
  have l : (turnW lot W).looks.length = W.looks.length := by show (W.looks.map _).length = _; rw [List.length_map]
  rw [closes_turn, e, l]
theorem level_turn : ∀ k, level (turnW lot W).looks k = level W.looks k
  | 0 => by
    have l : (turnW lot W).looks.length = W.looks.length := by show (W.looks.map _).length = _; rw [List.length_map]
    unfold level
    rw [l]
  | k + 1 => by
    unfold level
    rw [level_turn k]
    have e : longer (turnW lot W).looks = longer W.looks := funext fun p => longer_turn p
    rw [e]
theorem found_turn : ∀ k, foundN (turnW lot W).looks k = foundN W.looks k
  | 0 => rfl
  | k + 1 => by
    unfold foundN
    have e : closesP (turnW lot W).looks = closesP W.looks := funext fun p => closes_turn p
    rw [found_turn k, level_turn k, e]
/-- the rings stay -/
theorem rings_turn : ringsOf (turnW lot W) = ringsOf W := by
  unfold ringsOf ringsRaw
  rw [found_turn]
theorem stAt_turn {st : List Int} {f : Int} (h0 : 0 ≤ f) (h1 : f < st.length) : stAt (turnS lot W st) f = turnM lot W f (stAt st f) := by
  unfold turnS
  show List.getD _ _ _ = _
  rw [List.getD_eq_getElem?_getD, List.getElem?_map, List.getElem?_range (by omega)]
  show turnM lot W ((f.toNat : Nat) : Int) (stAt st ((f.toNat : Nat) : Int)) = _
  rw [show ((f.toNat : Nat) : Int) = f by omega]
theorem turnM_two (f m : Int) : turnM lot W f (turnM lot W f m) = m := by
  unfold turnM
  split <;> omega
theorem turnM_bd {f m : Int} (h : 0 ≤ m ∧ m ≤ topAt W f) : 0 ≤ turnM lot W f m ∧ turnM lot W f m ≤ topAt W f := by
  unfold turnM
  split <;> omega
theorem turnS_len (st : List Int) : (turnS lot W st).length = st.length := by unfold turnS; rw [List.length_map, List.length_range]
theorem turnS_ok {st : List Int} (so : StOk W st) : StOk W (turnS lot W st) := by
  refine ⟨by rw [turnS_len, so.len], fun f h0 h1 => ?_⟩
  rw [stAt_turn h0 (by rw [so.len]; exact h1)]
  exact turnM_bd (so.bd f h0 h1)
theorem turnS_two (st : List Int) : turnS lot W (turnS lot W st) = st := by
  refine List.ext_getElem? fun i => ?_
  by_cases h : i < st.length
  · have e1 := stAt_turn (lot := lot) (W := W) (st := turnS lot W st) (f := (i : Int)) (by omega) (by rw [turnS_len]; omega)
    have e2 := stAt_turn (lot := lot) (W := W) (st := st) (f := (i : Int)) (by omega) (by omega)
    rw [e2, turnM_two] at e1
    have g : ∀ l : List Int, i < l.length → l[i]? = some (stAt l (i : Int)) := fun l hl => stAt_get (st := l) (i := (i : Int)) (by omega) (by omega)
    rw [g _ (by rw [turnS_len, turnS_len]; exact h), g _ h, e1]
  · rw [List.getElem?_eq_none (by rw [turnS_len, turnS_len]; omega), List.getElem?_eq_none (by omega)]
end
end Lk

/-! ## TN2 -/
set_option Elab.async false
set_option linter.all false
set_option maxRecDepth 100000
set_option maxHeartbeats 2000000
namespace Lk
open PySem PySem.Spec PyProof.Rows L2 Gx
variable [Own]
section
variable {W : Web} {lot : Lot}
theorem lks_turn (ok : W.Ok) {n : Int} (h0 : 0 ≤ n) (h1 : n < W.looks.length) : decide (lks (turnW lot W).looks n = 1) = (decide (lks W.looks n = 1) == (lot (lkd W.looks n) == lot (lkr W.looks n))) := by
  have e : lks (turnW lot W).looks n = if lot (lkd W.looks n) = lot (lkr W.looks n) then lks W.looks n else -lks W.looks n := by
    unfold lks lookN turnW
    rw [List.getD_eq_getElem?_getD, List.getElem?_map, List.getElem?_eq_getElem (show n.toNat < W.looks.length by omega)]
    show (turnLook lot _).2.2 = _
    unfold turnLook lkd lkr lookN
    rw [List.getD_eq_getElem?_getD, List.getElem?_eq_getElem (show n.toNat < W.looks.length by omega)]
    rfl
  rw [e]
  have hs := sign_of ok h0 h1
  generalize lks W.looks n = s at hs ⊢
  generalize lot (lkd W.looks n) = x
  generalize lot (lkr W.looks n) = y
  rcases hs with rfl | rfl <;> cases x <;> cases y <;> decide
/-- a ring stays even, odd -/
theorem even_turn (ok : W.Ok) {p : List Int} (pk : PathOk W.looks p) (hc : closesP W.looks p = true) : evenP (turnW lot W).looks p = evenP W.looks p := by
  have along : ∀ (i : Nat) (a : Int), p[i]? = some a → flipTo (turnW lot W).looks (p.take (i + 1)) (true ^^ lot (lkd W.looks (p.headD 0))) = (flipTo W.looks (p.take (i + 1)) true ^^ lot (lkr W.looks a)) := by
    intro i
    induction i with
    | zero =>
      intro a h
      have e := head_at pk
      rw [h] at e
      cases e
      have hn := num_at pk h
      rw [take_one h]
      show (_ == _) = ((_ == _) ^^ _)
      rw [lks_turn ok hn.1 hn.2]
      generalize decide (lks W.looks (p.headD 0) = 1) = s
      generalize lot (lkd W.looks (p.headD 0)) = x
      generalize lot (lkr W.looks (p.headD 0)) = y
      cases s <;> cases x <;> cases y <;> rfl
    | succ j ih =>
      intro a h
      obtain ⟨a', h'⟩ : ∃ a', p[j]? = some a' := ⟨_, List.getElem?_eq_getElem (by have := (List.getElem?_eq_some_iff.mp h).1; omega)⟩
      have hn := num_at pk h
      rw [take_one h, flip_snoc, flip_snoc, ih a' h', pk.chain j a' a h' h, lks_turn ok hn.1 hn.2]
      generalize flipTo W.looks (p.take (j + 1)) true = z
      generalize decide (lks W.looks a = 1) = s
      generalize lot (lkd W.looks a) = x
      generalize lot (lkr W.looks a) = y
      cases z <;> cases s <;> cases x <;> cases y <;> rfl
  obtain ⟨l1, l2⟩ := last_at pk
  have e := along _ _ l1
  have pk2 : ∀ n ∈ p, lks (turnW lot W).looks n = 1 ∨ lks (turnW lot W).looks n = -1 := fun n hn => by
    have := pk.num n hn
    exact sign_of (turnW_ok ok) this.1 (by show n < ((W.looks.map _).length : Int); rw [List.length_map]; exact this.2)
  rw [l2, flip_even _ _ _ pk2, flip_even _ _ _ (signs_in ok pk), show lkr W.looks (p.getLastD 0) = lkd W.looks (p.headD 0) from beq_iff_eq.mp hc] at e
  revert e
  generalize lot (lkd W.looks (p.headD 0)) = x
  cases evenP (turnW lot W).looks p <;> cases evenP W.looks p <;> cases x <;> decide
/-- a row of moods seen by f, turned over -/
def turnRow (lot : Lot) (W : Web) : List (Int × Int) → List Int → List Int
  | l :: ls, x :: xs => turnM lot W l.1 x :: turnRow lot W ls xs
  | _, _ => []
theorem turnRow_two : ∀ {ls : List (Int × Int)} {xs : List Int}, xs.length = ls.length → turnRow lot W ls (turnRow lot W ls xs) = xs
  | [], [], _ => rfl
  | l :: ls, x :: xs, h => by
    show turnM lot W l.1 (turnM lot W l.1 x) :: turnRow lot W ls (turnRow lot W ls xs) = _
    rw [turnM_two, turnRow_two (by simpa using h)]
  | [], _ :: _, h => by simp at h
  | _ :: _, [], h => by simp at h
theorem turnRow_st {st : List Int} (so : StOk W st) : ∀ {ls : List (Int × Int)}, (∀ l ∈ ls, 0 ≤ l.1 ∧ l.1 < W.tops.length) → ls.map (fun l => stAt (turnS lot W st) l.1) = turnRow lot W ls (ls.map fun l => stAt st l.1)
  | [], _ => rfl
  | l :: ls, h => by
    have h0 := h l (List.mem_cons_self ..)
    rw [List.map_cons, List.map_cons, stAt_turn h0.1 (by rw [so.len]; exact h0.2), turnRow_st so fun x hx => h x (List.mem_cons_of_mem _ hx)]
    rfl
/-- rows within the tops -/
def RowOk (W : Web) : List (Int × Int) → List Int → Prop
  | [], [] => True
  | l :: ls, x :: xs => (0 ≤ x ∧ x ≤ topAt W l.1) ∧ RowOk W ls xs
  | _, _ => False
theorem rowOk_len : ∀ {ls : List (Int × Int)} {xs : List Int}, RowOk W ls xs → xs.length = ls.length
  | [], [], _ => rfl
  | l :: ls, x :: xs, h => by simp [rowOk_len h.2]
  | [], _ :: _, h => h.elim
  | _ :: _, [], h => h.elim
theorem rowOk_turn : ∀ {ls : List (Int × Int)} {xs : List Int}, RowOk W ls xs → RowOk W ls (turnRow lot W ls xs)
  | [], [], _ => trivial
  | l :: ls, x :: xs, h => ⟨turnM_bd h.1, rowOk_turn h.2⟩
  | [], _ :: _, h => h.elim
  | _ :: _, [], h => h.elim
theorem rowOk_mem : ∀ {ls : List (Int × Int)} {xs : List Int}, (∀ l ∈ ls, 0 ≤ topAt W l.1) → (xs ∈ rws (axes W ls) ↔ RowOk W ls xs)
  | [], xs, _ => by
    unfold axes rws
    cases xs with
    | nil => simp [RowOk]
    | cons x xs => simp [RowOk]
  | l :: ls, xs, ht => by
    have h0 := ht l (List.mem_cons_self ..)
    have ih := fun ys => rowOk_mem (ls := ls) (xs := ys) fun x hx => ht x (List.mem_cons_of_mem _ hx)
    show xs ∈ rws (((topAt W l.1 + 1).toNat, l.2) :: axes W ls) ↔ _
    rw [rws_cons]
    constructor
    · intro h
      obtain ⟨x, hx, h⟩ := List.mem_flatMap.mp h
      obtain ⟨ys, hy, rfl⟩ := List.mem_map.mp h
      have hx := List.mem_range.mp hx
      exact ⟨⟨by omega, by have : x < (topAt W l.1 + 1).toNat := hx; omega⟩, (ih ys).mp hy⟩
    · intro h
      cases xs with
      | nil => exact h.elim
      | cons x ys =>
        obtain ⟨h1, h2⟩ := h
        refine List.mem_flatMap.mpr ⟨x.toNat, List.mem_range.mpr (by show x.toNat < (topAt W l.1 + 1).toNat; omega), List.mem_map.mpr ⟨ys, (ih ys).mpr h2, ?_⟩⟩
        rw [show ((x.toNat : Nat) : Int) = x by omega]
theorem rowsAt_ok (ok : W.Ok) {f : Int} {xs : List Int} : xs ∈ rowsAt W f ↔ RowOk W (looksOf W f) xs := by
  rw [rowsAt_rws]
  refine rowOk_mem fun l hl => ?_
  have h := (looksOf_ok ok l hl).1
  have := topAt_ok ok h.1 h.2
  omega
theorem rowOk_see (f : Int) : ∀ {ls : List (Int × Int)} {xs : List Int}, RowOk (turnW lot W) (ls.map (turnSee lot f)) xs ↔ RowOk W ls xs
  | [], [] => Iff.rfl
  | l :: ls, x :: xs => by
    show (_ ∧ RowOk _ _ _) ↔ _
    rw [rowOk_see f (ls := ls) (xs := xs)]
    exact Iff.rfl
  | [], _ :: _ => Iff.rfl
  | _ :: _, [] => Iff.rfl
end
end Lk

/-! ## TN3 -/
set_option Elab.async false
set_option linter.all false
set_option maxRecDepth 100000
set_option maxHeartbeats 2000000
namespace Lk
open PySem PySem.Spec PyProof.Rows L2 Gx
variable [Own]
/-- a table, turned -/
def tableTurn (lot : Lot) (W : Web) (f : Int) (tb : List Int) : List Int := (rowsAt W f).map fun row => turnM lot W f (tb.getD ((rowsAt W f).idxOf (turnRow lot W (looksOf W f) row)) 0)
def rulesTurn (lot : Lot) (W : Web) (ru : List (List Int)) : List (List Int) := (List.range ru.length).map fun f : Nat => tableTurn lot W (f : Int) (ru.getD f [])
section
variable {W : Web} {lot : Lot} {f : Int} {tb : List Int} {ru : List (List Int)} {st : List Int}
theorem rowsAt_turn : rowsAt (turnW lot W) f = rowsAt W f := by
  unfold rowsAt
  rw [looksOf_turn, List.map_map]
  rfl
theorem idx_row {k : Nat} {row : List Int} (h : (rowsAt W f)[k]? = some row) : (rowsAt W f).idxOf row = k := by
  have hlt := List.idxOf_lt_length_of_mem (List.mem_of_getElem? h)
  have h2 : (rowsAt W f)[(rowsAt W f).idxOf row]? = some row := by rw [List.getElem?_eq_getElem hlt, List.getElem_idxOf hlt]
  rw [rowsAt_rws] at h h2 ⊢
  exact rws_inj h2 h
theorem row_at {row : List Int} (h : row ∈ rowsAt W f) : (rowsAt W f)[(rowsAt W f).idxOf row]? = some row := by
  have hlt := List.idxOf_lt_length_of_mem h
  rw [List.getElem?_eq_getElem hlt, List.getElem_idxOf hlt]
theorem tabT_get {k : Nat} {row : List Int} (h : (rowsAt W f)[k]? = some row) : (tableTurn lot W f tb).getD k 0 = turnM lot W f (tb.getD ((rowsAt W f).idxOf (turnRow lot W (looksOf W f) row)) 0) := by
  unfold tableTurn
  rw [List.getD_eq_getElem?_getD, List.getElem?_map, h]
  rfl
theorem turn_mem (ok : W.Ok) {row : List Int} (h : row ∈ rowsAt W f) : turnRow lot W (looksOf W f) row ∈ rowsAt W f := (rowsAt_ok ok).mpr (rowOk_turn ((rowsAt_ok ok).mp h))
theorem goes_out (hf : lot f = false) : ∀ {ls : List (Int × Int)} {xs ys : List Int}, lawGoes ((ls.map (turnSee lot f)).map (·.2)) xs ys = true → xs.length = ls.length → ys.length = ls.length → lawGoes (ls.map (·.2)) (turnRow lot W ls xs) (turnRow lot W ls ys) = true
  | [], [], [], _, _, _ => rfl
  | l :: ls, x :: xs, y :: ys, g, h1, h2 => by
    obtain ⟨g1, g2⟩ := Bool.and_eq_true_iff.mp (show (_ && _) = true from g)
    have ih := goes_out hf g2 (by simpa using h1) (by simpa using h2)
    refine Bool.and_eq_true_iff.mpr ⟨?_, ih⟩
    have g0 : ¬ (turnSee lot f l).2 * (y - x) < 0 := by simpa using g1
    clear g1
    have g1 : ¬ (if lot l.1 = lot f then l.2 else -l.2) * (y - x) < 0 := g0
    have : ¬ l.2 * (turnM lot W l.1 y - turnM lot W l.1 x) < 0 := by
      unfold turnM
      rw [hf] at g1
      cases hl : lot l.1 with
      | false =>
        rw [hl, if_pos rfl] at g1
        simpa using g1
      | true =>
        rw [hl, if_neg (by decide)] at g1
        rw [if_pos rfl, if_pos rfl, show topAt W l.1 - y - (topAt W l.1 - x) = -(y - x) by omega, Int.mul_neg]
        rw [Int.neg_mul] at g1
        exact g1
    simpa using this
  | [], _ :: _, _, _, h, _ => by simp at h
  | [], [], _ :: _, _, _, h => by simp at h
  | _ :: _, [], _, _, h, _ => by simp at h
  | _ :: _, _ :: _, [], _, _, h => by simp at h
theorem goes_in (hf : lot f = true) : ∀ {ls : List (Int × Int)} {xs ys : List Int}, lawGoes ((ls.map (turnSee lot f)).map (·.2)) xs ys = true → xs.length = ls.length → ys.length = ls.length → lawGoes (ls.map (·.2)) (turnRow lot W ls ys) (turnRow lot W ls xs) = true
  | [], [], [], _, _, _ => rfl
  | l :: ls, x :: xs, y :: ys, g, h1, h2 => by
    obtain ⟨g1, g2⟩ := Bool.and_eq_true_iff.mp (show (_ && _) = true from g)
    have ih := goes_in hf g2 (by simpa using h1) (by simpa using h2)
    refine Bool.and_eq_true_iff.mpr ⟨?_, ih⟩
    have g0 : ¬ (turnSee lot f l).2 * (y - x) < 0 := by simpa using g1
    clear g1
    have g1 : ¬ (if lot l.1 = lot f then l.2 else -l.2) * (y - x) < 0 := g0
    have : ¬ l.2 * (turnM lot W l.1 x - turnM lot W l.1 y) < 0 := by
      unfold turnM
      rw [hf] at g1
      cases hl : lot l.1 with
      | true =>
        rw [hl, if_pos rfl] at g1
        rw [if_pos rfl, if_pos rfl, show topAt W l.1 - x - (topAt W l.1 - y) = y - x by omega]
        exact g1
      | false =>
        rw [hl, if_neg (by decide), Int.neg_mul] at g1
        rw [if_neg (by decide), if_neg (by decide), show x - y = -(y - x) by omega, Int.mul_neg]
        exact g1
    simpa using this
  | [], _ :: _, _, _, h, _ => by simp at h
  | [], [], _ :: _, _, _, h => by simp at h
  | _ :: _, [], _, _, h, _ => by simp at h
  | _ :: _, _ :: _, [], _, _, h => by simp at h
theorem tab_in (ok : W.Ok) (h : isTable W f tb = true) {row : List Int} (hr : row ∈ rowsAt W f) : 0 ≤ tb.getD ((rowsAt W f).idxOf row) 0 ∧ tb.getD ((rowsAt W f).idxOf row) 0 ≤ topAt W f := by
  have h' := h
  rw [isTable_iff ok] at h
  have hlt := List.idxOf_lt_length_of_mem hr
  have hl : tb.length = (rowsAt W f).length := by rw [h.1, rowsAt_rws, rws_len]
  refine h.2.1 _ ?_
  rw [List.getD_eq_getElem?_getD, List.getElem?_eq_getElem (by omega)]
  exact List.getElem_mem _
/-- a turned table is one of the turned web -/
theorem table_turn (ok : W.Ok) (h : isTable W f tb = true) : isTable (turnW lot W) f (tableTurn lot W f tb) = true := by
  have al := ((isTable_iff ok).mp h).2.2
  have ok2 := turnW_ok (lot := lot) ok
  rw [isTable_iff ok2]
  have ea : rws (axes (turnW lot W) (looksOf (turnW lot W) f)) = rowsAt W f := by rw [← rowsAt_rws, rowsAt_turn]
  refine ⟨?_, fun m hm => ?_, fun p q xp xq h1 h2 g => ?_⟩
  · rw [← rws_len, ea]
    unfold tableTurn
    rw [List.length_map]
  · unfold tableTurn at hm
    obtain ⟨row, hr, rfl⟩ := List.mem_map.mp hm
    exact turnM_bd (tab_in ok h (turn_mem ok hr))
  · rw [ea] at h1 h2
    show (tableTurn lot W f tb).getD p 0 ≤ (tableTurn lot W f tb).getD q 0
    rw [tabT_get h1, tabT_get h2]
    have m1 := turn_mem (lot := lot) ok (List.mem_of_getElem? h1)
    have m2 := turn_mem (lot := lot) ok (List.mem_of_getElem? h2)
    have r1 := row_at m1
    have r2 := row_at m2
    have l1 := rowsAt_row (List.mem_of_getElem? h1)
    have l2 := rowsAt_row (List.mem_of_getElem? h2)
    have eg : (axes (turnW lot W) (looksOf (turnW lot W) f)).map (·.2) = ((looksOf W f).map (turnSee lot f)).map (·.2) := by
      rw [looksOf_turn]
      unfold axes
      rw [List.map_map]
      rfl
    have eg2 : (axes W (looksOf W f)).map (·.2) = (looksOf W f).map (·.2) := by
      unfold axes
      rw [List.map_map]
      rfl
    rw [eg] at g
    unfold turnM
    cases hf : lot f with
    | true =>
      rw [if_pos rfl, if_pos rfl]
      have := al _ _ _ _ (by rw [← rowsAt_rws]; exact r2) (by rw [← rowsAt_rws]; exact r1) (by rw [eg2]; exact goes_in hf g l1 l2)
      show topAt W f - _ ≤ topAt W f - _
      have this : tb.getD _ 0 ≤ tb.getD _ 0 := this
      omega
    | false =>
      rw [if_neg (by decide), if_neg (by decide)]
      exact al _ _ _ _ (by rw [← rowsAt_rws]; exact r1) (by rw [← rowsAt_rws]; exact r2) (by rw [eg2]; exact goes_out hf g l1 l2)
theorem turnRow_see : ∀ {ls : List (Int × Int)} {xs : List Int}, turnRow lot (turnW lot W) (ls.map (turnSee lot f)) xs = turnRow lot W ls xs
  | [], _ => rfl
  | _ :: _, [] => rfl
  | l :: ls, x :: xs => by
    show turnM lot (turnW lot W) l.1 x :: turnRow lot (turnW lot W) (ls.map (turnSee lot f)) xs = turnM lot W l.1 x :: _
    rw [turnRow_see (ls := ls) (xs := xs)]
    rfl
/-- turned twice: the table again -/
theorem table_two (ok : W.Ok) (hl : tb.length = (rowsAt W f).length) : tableTurn lot (turnW lot W) f (tableTurn lot W f tb) = tb := by
  refine List.ext_getElem? fun k => ?_
  have l1 : (tableTurn lot (turnW lot W) f (tableTurn lot W f tb)).length = (rowsAt W f).length := by
    unfold tableTurn
    rw [List.length_map, rowsAt_turn]
  by_cases hk : k < (rowsAt W f).length
  · have g : ∀ l : List Int, k < l.length → l[k]? = some (l.getD k 0) := fun l h => by rw [List.getD_eq_getElem?_getD, List.getElem?_eq_getElem h] <;> rfl
    rw [g _ (by omega), g _ (by omega)]
    congr 1
    have hrow := List.getElem?_eq_getElem hk
    generalize (rowsAt W f)[k] = row at hrow
    have hm := List.mem_of_getElem? hrow
    rw [tabT_get (W := turnW lot W) (row := row) (by rw [rowsAt_turn]; exact hrow), rowsAt_turn, looksOf_turn, turnRow_see, tabT_get (row_at (turn_mem ok hm)), turnRow_two (rowsAt_row hm), idx_row hrow]
    exact turnM_two (W := W) f _
  · rw [List.getElem?_eq_none (by omega), List.getElem?_eq_none (by omega)]
/-- what a turned table tells in a turned state -/
theorem mood_turn (ok : W.Ok) (rok : RuOk W ru) (so : StOk W st) (h0 : 0 ≤ f) (h1 : f < W.tops.length) : moodTold (turnW lot W) (rulesTurn lot W ru) (turnS lot W st) f = turnM lot W f (moodTold W ru st f) := by
  have bd := fun l hl => so.bd (l : Int × Int).1 (looksOf_ok (f := f) ok l hl).1.1 (looksOf_ok (f := f) ok l hl).1.2
  obtain ⟨_, hp⟩ := place_row (W := W) (st := st) (ls := looksOf W f) bd
  have so2 := turnS_ok (lot := lot) so
  obtain ⟨_, hp2⟩ := place_row (W := turnW lot W) (st := turnS lot W st) (ls := looksOf (turnW lot W) f) fun l hl => so2.bd l.1 (looksOf_ok (turnW_ok ok) l hl).1.1 (looksOf_ok (turnW_ok ok) l hl).1.2
  rw [← rowsAt_rws] at hp hp2
  have er : ((looksOf (turnW lot W) f).map fun l => stAt (turnS lot W st) l.1) = turnRow lot W (looksOf W f) ((looksOf W f).map fun l => stAt st l.1) := by
    rw [looksOf_turn, List.map_map, ← turnRow_st so fun l hl => (looksOf_ok ok l hl).1]
    rfl
  rw [er, rowsAt_turn] at hp2
  have eg : (rulesTurn lot W ru).getD f.toNat [] = tableTurn lot W f (ru.getD f.toNat []) := by
    unfold rulesTurn
    rw [List.getD_eq_getElem?_getD, List.getElem?_map, List.getElem?_range (by rw [rok.len]; omega)]
    show tableTurn lot W ((f.toNat : Nat) : Int) _ = _
    rw [show ((f.toNat : Nat) : Int) = f by omega]
  unfold moodTold
  rw [eg]
  unfold placeOf
  rw [tabT_get hp2, turnRow_two (by rw [List.length_map]), idx_row hp]
theorem told_turn (ok : W.Ok) (rok : RuOk W ru) (so : StOk W st) : stateTold (turnW lot W) (rulesTurn lot W ru) (turnS lot W st) = turnS lot W (stateTold W ru st) := by
  unfold stateTold
  rw [turnS_len]
  unfold turnS
  rw [List.length_map, List.length_range]
  refine List.map_congr_left fun f hf => ?_
  have hf := List.mem_range.mp hf
  have hl := so.len
  rw [show (List.range st.length).map (fun f : Nat => turnM lot W (f : Int) (stAt st (f : Int))) = turnS lot W st from rfl, mood_turn ok rok so (by omega) (by omega)]
  congr 1
  exact (told_at (W := W) (ru := ru) (st := st) (f := (f : Int)) (by omega) (by omega)).symm
end
end Lk

/-! ## TN4 -/
set_option Elab.async false
set_option linter.all false
set_option maxRecDepth 100000
set_option maxHeartbeats 2000000
namespace Lk
open PySem PySem.Spec PyProof.Rows L2 Gx
variable [Own]
section
variable {W : Web} {lot : Lot} {ru : List (List Int)} {st : List Int}
theorem rulesT_get {f : Nat} (h : f < ru.length) : (rulesTurn lot W ru).getD f [] = tableTurn lot W (f : Int) (ru.getD f []) := by
  unfold rulesTurn
  rw [List.getD_eq_getElem?_getD, List.getElem?_map, List.getElem?_range h]
  rfl
theorem rulesT_len : (rulesTurn lot W ru).length = ru.length := by unfold rulesTurn; rw [List.length_map, List.length_range]
theorem tableT_len (f : Int) (tb : List Int) : (tableTurn lot W f tb).length = (rowsAt W f).length := by unfold tableTurn; rw [List.length_map]
/-- turned rules are rules of the turned web -/
theorem rulesT_ok (ok : W.Ok) (r0 : Ru0 W ru) (hb : firstBad W ru = none) : Ru0 (turnW lot W) (rulesTurn lot W ru) ∧ firstBad (turnW lot W) (rulesTurn lot W ru) = none := by
  refine ⟨⟨by rw [rulesT_len]; exact r0.len, fun t ht => ?_⟩, ?_⟩
  · unfold rulesTurn at ht
    obtain ⟨f, _, rfl⟩ := List.mem_map.mp ht
    rw [tableT_len]
    have := (rowsAt_len ok (f : Int)).2
    omega
  · unfold firstBad
    rw [List.find?_eq_none]
    intro f hf
    have hf : f < W.tops.length := List.mem_range.mp hf
    rw [rulesT_get (by rw [r0.len]; exact hf)]
    have h := firstBad_none hb (f : Int) (by omega) (by omega)
    have h : isTable W (f : Int) (ru.getD f []) = true := h
    rw [table_turn ok h]
    simp
theorem rules_two (ok : W.Ok) (r0 : Ru0 W ru) (hb : firstBad W ru = none) : rulesTurn lot (turnW lot W) (rulesTurn lot W ru) = ru := by
  refine List.ext_getElem? fun f => ?_
  by_cases hf : f < ru.length
  · have g : ∀ l : List (List Int), f < l.length → l[f]? = some (l.getD f []) := fun l h => by rw [List.getD_eq_getElem?_getD, List.getElem?_eq_getElem h] <;> rfl
    rw [g _ (by rw [rulesT_len, rulesT_len]; exact hf), g _ hf, rulesT_get (by rw [rulesT_len]; exact hf), rulesT_get hf]
    congr 1
    refine table_two ok ?_
    have hf2 : f < W.tops.length := by rw [← r0.len]; exact hf
    have h : isTable W (f : Int) (ru.getD f []) = true := firstBad_none hb (f : Int) (by omega) (by omega)
    rw [((isTable_iff ok).mp h).1, rowsAt_rws, rws_len]
  · rw [List.getElem?_eq_none (by rw [rulesT_len, rulesT_len]; omega), List.getElem?_eq_none (by omega)]
theorem ticks_turn (ok : W.Ok) (r0 : Ru0 W ru) (hb : firstBad W ru = none) (so : StOk W st) : ∀ n, ticks (turnW lot W) (rulesTurn lot W ru) (turnS lot W st) n = turnS lot W (ticks W ru st n)
  | 0 => rfl
  | n + 1 => by
    show stateTold _ _ (ticks _ _ _ n) = _
    rw [ticks_turn ok r0 hb so n, told_turn ok (rules_ok r0 hb) (ticks_ok ok r0 hb so n)]
    rfl
/-- a state is settled exactly if it is, turned, in the turned web -/
theorem settled_turn (ok : W.Ok) (r0 : Ru0 W ru) (hb : firstBad W ru = none) (so : StOk W st) : (turnS lot W st ∈ settledStates (turnW lot W) (rulesTurn lot W ru)) ↔ st ∈ settledStates W ru := by
  have row : ∀ {s : List Int}, StOk W s → s ∈ rowsOf W.tops := fun h => state_row h
  have so2 := turnS_ok (lot := lot) so
  unfold settledStates
  rw [List.mem_filter, List.mem_filter, decide_eq_true_iff, decide_eq_true_iff, told_turn ok (rules_ok r0 hb) so]
  constructor
  · rintro ⟨_, h⟩
    refine ⟨row so, ?_⟩
    have := congrArg (turnS lot W) h
    rw [turnS_two, turnS_two] at this
    exact this
  · rintro ⟨_, h⟩
    exact ⟨row so2, by rw [h]⟩
theorem turn_inj {a b : List Int} (h : turnS lot W a = turnS lot W b) : a = b := by
  have := congrArg (turnS lot W) h
  rwa [turnS_two, turnS_two] at this
end
/-- rows up to tops: ascending -/
theorem moods_asc (t : Int) : (moods t).Pairwise (· < ·) := by
  unfold moods
  refine List.pairwise_map.mpr ?_
  refine List.Pairwise.imp (fun {a b} h => ?_) List.pairwise_lt_range
  exact Int.ofNat_lt.mpr h
/-- before, as rows stand -/
def rowLt : List Int → List Int → Prop
  | a :: p, b :: q => a < b ∨ a = b ∧ rowLt p q
  | _, _ => False
theorem rowLt_snoc {p q : List Int} (x y : Int) (h : rowLt p q) : rowLt (p ++ [x]) (q ++ [y]) := by
  induction p generalizing q with
  | nil => cases q <;> exact h.elim
  | cons a p ih =>
    cases q with
    | nil => exact h.elim
    | cons b q =>
      rcases h with h | ⟨e, h⟩
      · exact .inl h
      · exact .inr ⟨e, ih h⟩
theorem rowLt_last {x y : Int} (h : x < y) : ∀ p : List Int, rowLt (p ++ [x]) (p ++ [y])
  | [] => .inl h
  | _ :: p => .inr ⟨rfl, rowLt_last h p⟩
theorem step_asc {rows : List (List Int)} (h : rows.Pairwise rowLt) (t : Int) : (rowsStep rows t).Pairwise rowLt := by
  unfold rowsStep
  induction rows with
  | nil => exact .nil
  | cons r rows ih =>
    obtain ⟨h1, h2⟩ := List.pairwise_cons.mp h
    rw [List.flatMap_cons, List.pairwise_append]
    refine ⟨List.pairwise_map.mpr ((moods_asc t).imp fun {a b} h => rowLt_last h r), ih h2, fun a ha b hb => ?_⟩
    obtain ⟨x, _, rfl⟩ := List.mem_map.mp ha
    obtain ⟨r2, hr2, hb⟩ := List.mem_flatMap.mp hb
    obtain ⟨y, _, rfl⟩ := List.mem_map.mp hb
    exact rowLt_snoc x y (h1 r2 hr2)
theorem rows_asc (tops : List Int) : (rowsOf tops).Pairwise rowLt := by
  unfold rowsOf
  have : ∀ (ts : List Int) (rows : List (List Int)), rows.Pairwise rowLt → (ts.foldl rowsStep rows).Pairwise rowLt := by
    intro ts
    induction ts with
    | nil => exact fun _ h => h
    | cons t ts ih => exact fun rows h => ih _ (step_asc h t)
  exact this tops [[]] (List.pairwise_singleton ..)
theorem settled_asc (W : Web) (ru : List (List Int)) : (settledStates W ru).Pairwise rowLt := (rows_asc W.tops).filter _
end Lk

/-! ## TN5 -/
set_option Elab.async false
set_option linter.all false
set_option maxRecDepth 100000
set_option maxHeartbeats 2000000
namespace Lk
open PySem PySem.Spec PyProof.Rows L2 Gx
variable [Own]
theorem toks_lt : ∀ {a b : List Int}, rowLt a b → PyProof.Rows.lexLt PyProof.Rows.itemOrd (PySem.W.keyToksAll (a.map PyData.int)) (PySem.W.keyToksAll (b.map PyData.int)) = true
  | x :: a, y :: b, h => by
    show PyProof.Rows.lexLt PyProof.Rows.itemOrd (.inl 1 :: .inl x :: PySem.W.keyToksAll (a.map PyData.int)) (.inl 1 :: .inl y :: PySem.W.keyToksAll (b.map PyData.int)) = true
    refine PyProof.Rows.lex_true.mpr (.inr ⟨rfl, PyProof.Rows.lex_true.mpr ?_⟩)
    rcases h with h | ⟨e, h⟩
    · exact .inl (show decide (x < y) = true from decide_eq_true h)
    · exact .inr ⟨show decide (y < x) = false from decide_eq_false (by omega), toks_lt h⟩
  | [], _, h => h.elim
  | _ :: _, [], h => h.elim
theorem toks_inj : ∀ {a b : List Int}, PySem.W.keyToksAll (a.map PyData.int) = PySem.W.keyToksAll (b.map PyData.int) → a = b
  | [], [], _ => rfl
  | x :: a, y :: b, h => by
    have h : (Sum.inl 1 :: Sum.inl x :: PySem.W.keyToksAll (a.map PyData.int) : List (Int ⊕ List Nat)) = .inl 1 :: .inl y :: PySem.W.keyToksAll (b.map PyData.int) := h
    have h1 := (List.cons.inj (List.cons.inj h).2)
    rw [Sum.inl.inj h1.1, toks_inj h1.2]
  | [], _ :: _, h => by
    have h : (Sum.inl 0 :: [] : List (Int ⊕ List Nat)) = .inl 1 :: _ := h
    cases h
  | _ :: _, [], h => by
    have h : (Sum.inl 1 :: _ : List (Int ⊕ List Nat)) = .inl 0 :: [] := h
    cases h
theorem le_row {a b : List Int} (h : rowLt a b) : PySem.W.dataLe false dI a b = true := by
  show (!PyProof.Rows.lexLt PyProof.Rows.itemOrd (PySem.W.keyToksAll (b.map PyData.int)) (PySem.W.keyToksAll (a.map PyData.int))) = true
  rw [Bool.not_eq_true', ← Bool.not_eq_true]
  intro z
  have := PyProof.Rows.lex_trans _ _ _ z (toks_lt h)
  rw [PyProof.Rows.lex_irrefl] at this
  cases this
theorem le_anti {a b : List Int} (h1 : PySem.W.dataLe false dI a b = true) (h2 : PySem.W.dataLe false dI b a = true) : a = b := by
  have h1 : (!PyProof.Rows.lexLt PyProof.Rows.itemOrd (PySem.W.keyToksAll (b.map PyData.int)) (PySem.W.keyToksAll (a.map PyData.int))) = true := h1
  have h2 : (!PyProof.Rows.lexLt PyProof.Rows.itemOrd (PySem.W.keyToksAll (a.map PyData.int)) (PySem.W.keyToksAll (b.map PyData.int))) = true := h2
  rw [Bool.not_eq_true'] at h1 h2
  exact toks_inj (PyProof.Rows.lex_total _ _ h2 h1)
/-- rows sorted are the ascending row of the same things -/
theorem sortT_asc {rows asc : List (List Int)} (h : asc.Pairwise rowLt) (p : rows.Perm asc) : sortT rows = asc :=
  List.Perm.eq_of_pairwise (le := fun a b => PySem.W.dataLe false dI a b = true) (fun a b _ _ h1 h2 => le_anti h1 h2) (PySem.W.sort_pairwise (PySem.W.sortLe_total _ _ _) rows) (h.imp le_row) ((sortT_perm rows).trans p)
theorem rowLt_irrefl : ∀ a : List Int, ¬ rowLt a a
  | [], h => h
  | x :: a, h => by
    rcases h with h | ⟨_, h⟩
    · omega
    · exact rowLt_irrefl a h
theorem asc_nodup {l : List (List Int)} (h : l.Pairwise rowLt) : l.Nodup := h.imp fun {a b} (hh : rowLt a b) (e : a = b) => rowLt_irrefl b (by rw [e] at hh; exact hh)
section
variable {W : Web} {lot : Lot} {ru : List (List Int)}
/-- the settled states, turned and sorted -/
theorem settled_turned (ok : W.Ok) (r0 : Ru0 W ru) (hb : firstBad W ru = none) : sortT ((settledStates W ru).map (turnS lot W)) = settledStates (turnW lot W) (rulesTurn lot W ru) := by
  refine sortT_asc (settled_asc _ _) ?_
  have n1 : ((settledStates W ru).map (turnS lot W)).Nodup := List.pairwise_map.mpr ((asc_nodup (settled_asc W ru)).imp fun {a b} h e => h (turn_inj e))
  refine (List.perm_ext_iff_of_nodup n1 (asc_nodup (settled_asc _ _))).mpr fun s => ?_
  constructor
  · intro h
    obtain ⟨st, hst, rfl⟩ := List.mem_map.mp h
    have so := rows_st (List.mem_filter.mp hst).1
    exact (settled_turn ok r0 hb so).mpr hst
  · intro h
    have so : StOk W s := rows_st (W := W) (List.mem_filter.mp h).1
    refine List.mem_map.mpr ⟨turnS lot W s, ?_, turnS_two s⟩
    rw [← turnS_two (W := W) (lot := lot) s] at h
    exact (settled_turn ok r0 hb (turnS_ok so)).mp h
end
end Lk

/-! ## RC6 -/
set_option Elab.async false
set_option linter.all false
set_option maxRecDepth 100000
set_option maxHeartbeats 2000000
/-! Where no ring is odd, some state is settled: part by part. -/
namespace Lk
open PySem PySem.Spec PyProof.Rows L2 Gx
variable [Own]
section
variable {W : Web} {ru : List (List Int)}
theorem anc_up {U : Int → Prop} {h g f : Int} (a : Anc W U h g) (b : Anc W U g f) : Anc W U h f := by
  obtain ⟨u, c, hc⟩ := a
  obtain ⟨_, d, hd⟩ := b
  exact ⟨u, c ++ d, way_join hc hd⟩
open Classical in
theorem parts_rest (ok : W.Ok) (hr : ∀ p ∈ ringsOf W, evenP W.looks p = true) (r0 : Ru0 W ru) (hb : firstBad W ru = none) :
    ∀ (k : Nat) {S : Int → Prop} {st : List Int}, StOk W st → (∀ n : Int, 0 ≤ n → n < W.looks.length → S (lkr W.looks n) → S (lkd W.looks n)) → (∀ f : Int, 0 ≤ f → f < W.tops.length → S f → moodTold W ru st f = stAt st f) →
      ((List.range W.tops.length).filter fun f : Nat => decide (¬ S (f : Int))).length ≤ k → ∃ z, StOk W z ∧ ∀ f : Int, 0 ≤ f → f < W.tops.length → moodTold W ru z f = stAt z f := by
  intro k
  induction k with
  | zero =>
    intro S st so hcl hm hk
    refine ⟨st, so, fun f h0 h1 => hm f h0 h1 ?_⟩
    refine Classical.byContradiction fun z => ?_
    have : f.toNat ∈ (List.range W.tops.length).filter fun f : Nat => decide (¬ S (f : Int)) := List.mem_filter.mpr ⟨List.mem_range.mpr (by omega), decide_eq_true (by rw [show ((f.toNat : Nat) : Int) = f by omega]; exact z)⟩
    rw [List.eq_nil_of_length_eq_zero (Nat.le_zero.mp hk)] at this
    cases this
  | succ k ih =>
    intro S st so hcl hm hk
    by_cases hall : ∀ f : Int, 0 ≤ f → f < W.tops.length → S f
    · exact ⟨st, so, fun f h0 h1 => hm f h0 h1 (hall f h0 h1)⟩
    · obtain ⟨f1, hf1⟩ := Classical.not_forall.mp hall
      obtain ⟨h01, hf1⟩ := Classical.not_forall.mp hf1
      obtain ⟨h11, hf1⟩ := Classical.not_forall.mp hf1
      let U : Int → Prop := fun g => (0 ≤ g ∧ g < W.tops.length) ∧ ¬ S g
      -- whoever has the fewest behind them
      obtain ⟨f, hf, least⟩ := least_by (p := U) (fun g => ((List.range W.tops.length).filter fun h : Nat => decide (Anc W U (h : Int) g)).length) _ (a := f1) ⟨⟨h01, h11⟩, hf1⟩ (Nat.le_refl _)
      let A : Int → Prop := fun h => Anc W U h f
      have selfA : A f := ⟨hf, [], .inl ⟨rfl, rfl⟩⟩
      have back : ∀ g, A g → ∃ c, Way W U f g c := fun g hg => by
        have hsub : ∀ a ∈ List.range W.tops.length, decide (Anc W U (a : Int) g) = true → decide (Anc W U (a : Int) f) = true := fun a _ h => decide_eq_true (anc_up (of_decide_eq_true h) hg)
        have h := filter_same hsub (least g hg.1) f.toNat (List.mem_range.mpr (by have := hf.1; omega)) (decide_eq_true (by rw [show ((f.toNat : Nat) : Int) = f by have := hf.1; omega]; exact selfA))
        have h := of_decide_eq_true h
        rw [show ((f.toNat : Nat) : Int) = f by have := hf.1; omega] at h
        exact h.2
      have sides : ∀ n : Int, 0 ≤ n → n < W.looks.length → A (lkd W.looks n) → A (lkr W.looks n) → decide (lks W.looks n = 1) = (sideOf W U f (lkd W.looks n) == sideOf W U f (lkr W.looks n)) := fun n h0 h1 a b => side_look ok hr ⟨h0, h1⟩ a.1 b.1 (back _ a) b.2
      obtain ⟨z, z1, z2, z3⟩ := part_rest ok r0 hb sides so
      obtain ⟨S2, hS2⟩ : ∃ S2 : Int → Prop, ∀ h, S2 h ↔ S h ∨ A h := ⟨fun h => S h ∨ A h, fun _ => Iff.rfl⟩
      refine ih (S := S2) z1 (fun n h0 h1 h => ?_) (fun g h0 h1 h => ?_) ?_
      · rw [hS2] at h ⊢
        rcases h with h | h
        · exact .inl (hcl n h0 h1 h)
        · by_cases hS : S (lkd W.looks n)
          · exact .inl hS
          · have hd := lookd_ok ok h0 h1
            have u : U (lkd W.looks n) := ⟨hd, hS⟩
            exact .inr (anc_up ⟨u, _, way_one ⟨h0, h1⟩ u h.1⟩ h)
      · by_cases hA : A g
        · exact z2 g h0 h1 hA
        · have hS : S g := ((hS2 g).mp h).resolve_right hA
          have e : moodTold W ru z g = moodTold W ru st g := mood_same fun l hl => by
            obtain ⟨n, hn, e1, e2, _⟩ := look_number hl
            have hd := lookd_ok ok hn.1 hn.2
            have hSl := hcl n hn.1 hn.2 (by rw [e1]; exact hS)
            rw [e2] at hSl hd
            exact z3 l.1 hd.1 hd.2 fun q => q.1.2 hSl
          rw [e, hm g h0 h1 hS, z3 g h0 h1 hA]
      · refine Nat.le_of_lt_succ (Nat.lt_of_lt_of_le ?_ hk)
        refine Nat.lt_of_not_le fun q => ?_
        have hsub : ∀ a ∈ List.range W.tops.length, decide (¬ S2 (a : Int)) = true → decide (¬ S (a : Int)) = true := fun a _ h => decide_eq_true fun s => of_decide_eq_true h ((hS2 _).mpr (.inl s))
        have h := filter_same hsub q f.toNat (List.mem_range.mpr (by have := hf.1; omega)) (decide_eq_true (by rw [show ((f.toNat : Nat) : Int) = f by have := hf.1; omega]; exact hf.2))
        have h := of_decide_eq_true h
        rw [show ((f.toNat : Nat) : Int) = f by have := hf.1; omega] at h
        exact h ((hS2 f).mpr (.inr selfA))
/-- a state that all tables tell is settled -/
theorem told_settled (ok : W.Ok) (r0 : Ru0 W ru) (hb : firstBad W ru = none) {z : List Int} (so : StOk W z) (h : ∀ f : Int, 0 ≤ f → f < W.tops.length → moodTold W ru z f = stAt z f) : z ∈ settledStates W ru := by
  refine List.mem_filter.mpr ⟨state_row so, decide_eq_true (same_state (told_ok ok r0 hb so) so fun f h0 h1 => ?_)⟩
  rw [told_at h0 (by rw [so.len]; exact h1)]
  exact h f h0 h1
/-- no odd ring: some state is settled -/
theorem one_settled (ok : W.Ok) (hr : ∀ p ∈ ringsOf W, evenP W.looks p = true) (r0 : Ru0 W ru) (hb : firstBad W ru = none) : settledStates W ru ≠ [] := by
  have so : StOk W (W.tops.map fun _ => 0) := by
    refine ⟨by rw [List.length_map], fun f h0 h1 => ?_⟩
    have ht := topAt_ok ok h0 h1
    have : stAt (W.tops.map fun _ => 0) f = 0 := by
      unfold stAt
      rw [List.getD_eq_getElem?_getD, List.getElem?_map]
      cases W.tops[f.toNat]? <;> rfl
    omega
  obtain ⟨z, z1, z2⟩ := parts_rest ok hr r0 hb _ (S := fun _ => False) so (fun _ _ _ h => h) (fun _ _ _ h => h.elim) (Nat.le_refl _)
  intro e
  have := told_settled ok r0 hb z1 z2
  rw [e] at this
  cases this
/-- no even ring: at most one state is settled -/
theorem most_one (ok : W.Ok) (hr : ∀ p ∈ ringsOf W, evenP W.looks p = false) (r0 : Ru0 W ru) (hb : firstBad W ru = none) : (settledStates W ru).length ≤ 1 := by
  match h : settledStates W ru with
  | [] => exact Nat.zero_le _
  | [_] => exact Nat.le_refl _
  | x :: y :: r =>
    have nd : (settledStates W ru).Nodup := by
      unfold settledStates
      exact List.Pairwise.filter _ (asc_nodup (rows_asc W.tops))
    rw [h] at nd
    have ne : x ≠ y := fun e => by
      have := (List.nodup_cons.mp nd).1
      exact this (by rw [e]; exact List.mem_cons_self ..)
    obtain ⟨p, hp, e⟩ := two_even ok r0 hb (by rw [h]; simp) (by rw [h]; simp) ne
    rw [hr p hp] at e
    cases e
end
end Lk

/-! ## RC11 -/
set_option Elab.async false
set_option linter.all false
set_option maxRecDepth 100000
set_option maxHeartbeats 2000000
/-! A part's rest from its low end is the lowest one. -/
namespace Lk
open PySem PySem.Spec PyProof.Rows L2 Gx
variable [Own]
section
variable {W : Web} {ru : List (List Int)}
theorem leA_trans {A : Int → Prop} {side : Int → Bool} {x y z : List Int} (h1 : LeA W A side x y) (h2 : LeA W A side y z) : LeA W A side x z := fun f h0 hl => by
  obtain ⟨a1, a2⟩ := h1 f h0 hl
  obtain ⟨b1, b2⟩ := h2 f h0 hl
  refine ⟨fun hA => ?_, fun hA => (a2 hA).trans (b2 hA)⟩
  have a := a1 hA
  have b := b1 hA
  by_cases hs : side f = true
  · rw [if_pos hs] at a b ⊢
    omega
  · rw [if_neg hs] at a b ⊢
    omega
theorem leA_refl {A : Int → Prop} {side : Int → Bool} (x : List Int) : LeA W A side x x := fun f _ _ => ⟨fun _ => by split <;> exact Int.le_refl _, fun _ => rfl⟩
/-- ticks of A, so many -/
noncomputable def tickN (W : Web) (ru : List (List Int)) (A : Int → Prop) (x : List Int) : Nat → List Int
  | 0 => x
  | k + 1 => tickA W ru A (tickN W ru A x k)
theorem tickN_ok (ok : W.Ok) (r0 : Ru0 W ru) (hb : firstBad W ru = none) {A : Int → Prop} {x : List Int} (sx : StOk W x) : ∀ k, StOk W (tickN W ru A x k)
  | 0 => sx
  | k + 1 => tickA_ok ok r0 hb (tickN_ok ok r0 hb sx k)
section
variable {A : Int → Prop} {side : Int → Bool} (ok : W.Ok) (r0 : Ru0 W ru) (hb : firstBad W ru = none) (hs : ∀ n : Int, 0 ≤ n → n < W.looks.length → A (lkd W.looks n) → A (lkr W.looks n) → decide (lks W.looks n = 1) = (side (lkd W.looks n) == side (lkr W.looks n)))
include ok r0 hb hs
/-- each tick moves away from the beginning, or nobody moves -/
theorem tickN_up {x : List Int} (sx : StOk W x) (h : LeA W A side x (tickA W ru A x)) : ∀ k, LeA W A side (tickN W ru A x k) (tickN W ru A x (k + 1))
  | 0 => h
  | k + 1 => tickA_mono ok hb hs (tickN_ok ok r0 hb sx k) (tickN_ok ok r0 hb sx (k + 1)) (tickN_up sx h k)
theorem tickN_le {x y : List Int} (sx : StOk W x) (h : LeA W A side x (tickA W ru A x)) : ∀ k, LeA W A side x (tickN W ru A x k)
  | 0 => leA_refl x
  | k + 1 => leA_trans (tickN_le (y := y) sx h k) (tickN_up ok r0 hb hs sx h k)
/-- below whatever rests above the beginning -/
theorem tickN_below {x s : List Int} (sx : StOk W x) (ss : StOk W s) (hr : tickA W ru A s = s) (h : LeA W A side x s) : ∀ k, LeA W A side (tickN W ru A x k) s
  | 0 => h
  | k + 1 => by
    have := tickA_mono ok hb hs (tickN_ok ok r0 hb sx k) ss (tickN_below sx ss hr h k)
    rw [hr] at this
    exact this
/-- by 19 ticks at rest -/
theorem tickN_rest {x : List Int} (sx : StOk W x) (h : LeA W A side x (tickA W ru A x)) : tickA W ru A (tickN W ru A x 19) = tickN W ru A x 19 := by
  refine Classical.byContradiction fun ne => ?_
  -- then none of the ticks ahead was at rest, and all went up
  have moving : ∀ k, k ≤ 19 → tickA W ru A (tickN W ru A x k) ≠ tickN W ru A x k := fun k hk e => by
    have still : ∀ j, tickN W ru A x (k + j) = tickN W ru A x k := by
      intro j
      induction j with
      | zero => rfl
      | succ j ih =>
        show tickA W ru A (tickN W ru A x (k + j)) = _
        rw [ih, e]
    have := still (19 - k)
    rw [show k + (19 - k) = 19 by omega] at this
    rw [this] at ne
    exact ne e
  have up : ∀ k : Nat, k ≤ 20 → (k : Int) ≤ risen W A side (tickN W ru A x k) W.tops.length := by
    intro k
    induction k with
    | zero => exact fun _ => (risen_bd ok sx W.tops.length (Nat.le_refl _)).1
    | succ k ih =>
      intro hk
      have h1 := ih (by omega)
      have sk := tickN_ok (A := A) ok r0 hb sx k
      have nk : ∃ f : Int, 0 ≤ f ∧ f < W.tops.length ∧ stAt (tickN W ru A x k) f ≠ stAt (tickN W ru A x (k + 1)) f := by
        refine Classical.byContradiction fun z => moving k (by omega) ?_
        exact same_state (tickN_ok ok r0 hb sx (k + 1)) sk fun f h0 hl => Classical.byContradiction fun q => z ⟨f, h0, hl, fun e => q e.symm⟩
      have h2 := (risen_le (tickN_up ok r0 hb hs sx h k) W.tops.length (Nat.le_refl _)).2 nk
      omega
  have h20 := up 20 (by decide)
  have hb20 := (risen_bd ok (A := A) (side := side) (tickN_ok (A := A) ok r0 hb sx 20) W.tops.length (Nat.le_refl _)).2
  have := ok.few
  omega
end
/-- the low end of A is below all -/
theorem lowEnd_le {A : Int → Prop} {side : Int → Bool} {st s : List Int} (ss : StOk W s) (h : ∀ f : Int, 0 ≤ f → f < W.tops.length → ¬ A f → stAt s f = stAt st f) : LeA W A side (lowEnd W A side st) s := fun f h0 h1 => by
  have hb := ss.bd f h0 h1
  rw [lowEnd_at h0 h1]
  refine ⟨fun hA => ?_, fun hA => by rw [if_neg hA]; exact (h f h0 h1 hA).symm⟩
  rw [if_pos hA]
  by_cases hs : side f = true
  · rw [if_pos hs, if_pos hs]
    exact hb.1
  · rw [if_neg hs, if_neg hs]
    exact hb.2
end
end Lk

/-! ## RC13 -/
set_option Elab.async false
set_option linter.all false
set_option maxRecDepth 100000
set_option maxHeartbeats 2000000
/-! One by one: where no ring is odd, looks again lead from each state to a settled one. -/
namespace Lk
open PySem PySem.Spec PyProof.Rows L2 Gx
variable [Own]
section
variable {W : Web} {ru : List (List Int)}
/-- a state behind a look again of one -/
def lookOne (W : Web) (ru : List (List Int)) (f : Int) (x : List Int) : List Int := (List.range W.tops.length).map fun g : Nat => if (g : Int) = f then moodTold W ru x f else stAt x (g : Int)
theorem lookOne_at {x : List Int} {f g : Int} (h0 : 0 ≤ g) (h1 : g < W.tops.length) : stAt (lookOne W ru f x) g = if g = f then moodTold W ru x f else stAt x g := by
  unfold lookOne
  show List.getD _ _ _ = _
  rw [List.getD_eq_getElem?_getD, List.getElem?_map, List.getElem?_range (by omega)]
  show (if ((g.toNat : Nat) : Int) = f then _ else stAt x ((g.toNat : Nat) : Int)) = _
  rw [show ((g.toNat : Nat) : Int) = g by omega]
theorem lookOne_ok (ok : W.Ok) (r0 : Ru0 W ru) (hb : firstBad W ru = none) {x : List Int} (sx : StOk W x) (f : Int) : StOk W (lookOne W ru f x) := by
  refine ⟨by unfold lookOne; rw [List.length_map, List.length_range], fun g h0 h1 => ?_⟩
  rw [lookOne_at h0 h1]
  split
  · rename_i e
    rw [← e]
    exact mood_bd ok r0 hb sx h0 h1
  · exact sx.bd g h0 h1
/-- looks again, one behind another -/
inductive Come (W : Web) (ru : List (List Int)) : List Int → List Int → Prop where
  | here (x : List Int) : Come W ru x x
  | more {x y : List Int} (f : Int) (hf : 0 ≤ f ∧ f < W.tops.length) (h : Come W ru (lookOne W ru f x) y) : Come W ru x y
theorem come_trans {x y z : List Int} (a : Come W ru x y) (b : Come W ru y z) : Come W ru x z := by
  induction a with
  | here => exact b
  | more f hf _ ih => exact .more f hf (ih b)
theorem come_ok (ok : W.Ok) (r0 : Ru0 W ru) (hb : firstBad W ru = none) {x y : List Int} (c : Come W ru x y) (sx : StOk W x) : StOk W y := by
  induction c with
  | here => exact sx
  | more f hf _ ih => exact ih (lookOne_ok ok r0 hb sx f)
section
variable {A : Int → Prop} {side : Int → Bool} (ok : W.Ok) (r0 : Ru0 W ru) (hb : firstBad W ru = none) (hs : ∀ n : Int, 0 ≤ n → n < W.looks.length → A (lkd W.looks n) → A (lkr W.looks n) → decide (lks W.looks n = 1) = (side (lkd W.looks n) == side (lkr W.looks n)))
include ok r0 hb hs
/-- looks of A from a state that they raise lead to rest -/
theorem raise_rest : ∀ (k : Nat) {x : List Int}, StOk W x → LeA W A side x (tickA W ru A x) → 19 ≤ risen W A side x W.tops.length + (k : Int) → ∃ z, Come W ru x z ∧ StOk W z ∧ tickA W ru A z = z ∧ ∀ f : Int, 0 ≤ f → f < W.tops.length → ¬ A f → stAt z f = stAt x f
  | 0, x, sx, _, hk => by
    have := (risen_bd ok (A := A) (side := side) sx W.tops.length (Nat.le_refl _)).2
    have h6 := ok.few
    omega
  | k + 1, x, sx, hle, hk => by
    by_cases e : tickA W ru A x = x
    · exact ⟨x, .here x, sx, e, fun _ _ _ _ => rfl⟩
    · obtain ⟨f, h0, h1, ne⟩ : ∃ f : Int, 0 ≤ f ∧ f < W.tops.length ∧ stAt x f ≠ stAt (tickA W ru A x) f := by
        refine Classical.byContradiction fun h => e ?_
        exact same_state (tickA_ok (A := A) ok r0 hb sx) sx fun f h0 h1 => (Classical.byContradiction fun z => h ⟨f, h0, h1, fun q => z q.symm⟩)
      have hA : A f := Classical.byContradiction fun z => ne ((hle f h0 h1).2 z)
      have sy := lookOne_ok ok r0 hb sx f
      have et : stAt (tickA W ru A x) f = moodTold W ru x f := by rw [tickA_at h0 h1, if_pos hA]
      -- one of them moved
      have l1 : LeA W A side x (lookOne W ru f x) := fun g g0 g1 => by
        rw [lookOne_at g0 g1]
        by_cases eg : g = f
        · have := hle g g0 g1
          rw [eg, et] at this
          rw [if_pos eg, eg]
          exact this
        · rw [if_neg eg]
          exact leA_refl (A := A) (side := side) x g g0 g1
      have l2 : LeA W A side (lookOne W ru f x) (tickA W ru A x) := fun g g0 g1 => by
        rw [lookOne_at g0 g1]
        by_cases eg : g = f
        · rw [if_pos eg, eg, et]
          exact ⟨fun _ => by split <;> exact Int.le_refl _, fun _ => rfl⟩
        · rw [if_neg eg]
          exact hle g g0 g1
      have l3 := leA_trans l2 (tickA_mono ok hb hs sx sy l1)
      have up := (risen_le l1 W.tops.length (Nat.le_refl _)).2 ⟨f, h0, h1, by rw [lookOne_at h0 h1, if_pos rfl, ← et]; exact ne⟩
      obtain ⟨z, z1, z2, z3, z4⟩ := raise_rest k sy l3 (by omega)
      refine ⟨z, .more f ⟨h0, h1⟩ z1, z2, z3, fun g g0 g1 hg => ?_⟩
      rw [z4 g g0 g1 hg, lookOne_at g0 g1, if_neg (fun eg => hg (by rw [eg]; exact hA))]
/-- looks of A that lower lead to a state that no look lowers -/
theorem lower_rest : ∀ (k : Nat) {x : List Int}, StOk W x → risen W A side x W.tops.length ≤ (k : Int) → ∃ z, Come W ru x z ∧ StOk W z ∧ LeA W A side z (tickA W ru A z) ∧ ∀ f : Int, 0 ≤ f → f < W.tops.length → ¬ A f → stAt z f = stAt x f := by
  intro k
  induction k with
  | zero =>
    intro x sx hk
    by_cases hle : LeA W A side x (tickA W ru A x)
    · exact ⟨x, .here x, sx, hle, fun _ _ _ _ => rfl⟩
    · exact absurd hk (lower_step_bd sx hle)
  | succ k ih =>
    intro x sx hk
    by_cases hle : LeA W A side x (tickA W ru A x)
    · exact ⟨x, .here x, sx, hle, fun _ _ _ _ => rfl⟩
    · obtain ⟨f, h0, h1, hA, sy, dn⟩ := lower_step sx hle
      obtain ⟨z, z1, z2, z3, z4⟩ := ih sy (by omega)
      refine ⟨z, .more f ⟨h0, h1⟩ z1, z2, z3, fun g g0 g1 hg => ?_⟩
      rw [z4 g g0 g1 hg, lookOne_at g0 g1, if_neg (fun eg => hg (by rw [eg]; exact hA))]
where
  lower_step {x : List Int} (sx : StOk W x) (hle : ¬ LeA W A side x (tickA W ru A x)) : ∃ f : Int, 0 ≤ f ∧ f < W.tops.length ∧ A f ∧ StOk W (lookOne W ru f x) ∧ risen W A side (lookOne W ru f x) W.tops.length < risen W A side x W.tops.length := by
    obtain ⟨f, hf⟩ := Classical.not_forall.mp hle
    obtain ⟨h0, hf⟩ := Classical.not_forall.mp hf
    obtain ⟨h1, hf⟩ := Classical.not_forall.mp hf
    have hA : A f := Classical.byContradiction fun z => hf ⟨fun q => absurd q z, fun _ => by rw [tickA_at h0 h1, if_neg z]⟩
    have et : stAt (tickA W ru A x) f = moodTold W ru x f := by rw [tickA_at h0 h1, if_pos hA]
    have hlt : ¬ (if side f = true then stAt x f ≤ moodTold W ru x f else moodTold W ru x f ≤ stAt x f) := fun q => hf ⟨fun _ => by rw [et]; exact q, fun z => absurd hA z⟩
    have l1 : LeA W A side (lookOne W ru f x) x := fun g g0 g1 => by
      rw [lookOne_at g0 g1]
      by_cases eg : g = f
      · rw [if_pos eg, eg]
        refine ⟨fun _ => ?_, fun z => absurd hA z⟩
        by_cases hsf : side f = true
        · rw [if_pos hsf] at hlt ⊢
          omega
        · rw [if_neg hsf] at hlt ⊢
          omega
      · rw [if_neg eg]
        exact leA_refl (A := A) (side := side) x g g0 g1
    refine ⟨f, h0, h1, hA, lookOne_ok ok r0 hb sx f, (risen_le l1 W.tops.length (Nat.le_refl _)).2 ⟨f, h0, h1, ?_⟩⟩
    rw [lookOne_at h0 h1, if_pos rfl]
    intro q
    rw [q] at hlt
    refine hlt ?_
    split <;> exact Int.le_refl _
  lower_step_bd {x : List Int} (sx : StOk W x) (hle : ¬ LeA W A side x (tickA W ru A x)) : ¬ risen W A side x W.tops.length ≤ ((0 : Nat) : Int) := fun hk => by
    obtain ⟨f, _, _, _, sy, dn⟩ := lower_step sx hle
    have := (risen_bd ok (A := A) (side := side) sy W.tops.length (Nat.le_refl _)).1
    omega
/-- a part comes to rest by looks of its own, from whatever state -/
theorem part_come {x : List Int} (sx : StOk W x) : ∃ z, Come W ru x z ∧ StOk W z ∧ (∀ f : Int, 0 ≤ f → f < W.tops.length → A f → moodTold W ru z f = stAt z f) ∧ ∀ f : Int, 0 ≤ f → f < W.tops.length → ¬ A f → stAt z f = stAt x f := by
  have hbd := risen_bd ok (A := A) (side := side) sx W.tops.length (Nat.le_refl _)
  obtain ⟨y, y1, y2, y3, y4⟩ := lower_rest ok r0 hb hs (risen W A side x W.tops.length).toNat sx (by omega)
  obtain ⟨z, z1, z2, z3, z4⟩ := raise_rest ok r0 hb hs 19 y2 y3 (by have := (risen_bd ok (A := A) (side := side) y2 W.tops.length (Nat.le_refl _)).1; omega)
  refine ⟨z, come_trans y1 z1, z2, fun f h0 h1 hA => ?_, fun f h0 h1 hA => by rw [z4 f h0 h1 hA, y4 f h0 h1 hA]⟩
  have e := tickA_at (W := W) (ru := ru) (A := A) (st := z) h0 h1
  rw [z3, if_pos hA] at e
  exact e.symm
end
end
end Lk

/-! ## DcS -/
set_option Elab.async false
set_option linter.all false
set_option maxRecDepth 100000
set_option maxHeartbeats 2000000
/-! d[t] = v by a comprehension, t a tuple of ints. -/
namespace Lk
open PySem PySem.Spec PyProof.Rows L2
variable [Own]
theorem dT_dictSet {X : Cx} {pins : List (Addr × Obj)} {σ : L2.St} {H : Hp} {s : Shared} {E : Value → Shared → Prop} {D b : Addr} {kvs : List (List L2.Key × V)} {k : List L2.Key} {v : V} {u r : Value} {Q : Unit → Shared → Prop} (hu : X.A.units + 1 < cLine) (I : Inv X pins σ H s) (hD : H D = some (.dT kvs)) (hb : H b = some (.tup (k.map kV))) (hz : kvs.length < sizeLine)
    (ry : RelV (.ref b) u) (rv : RelV v r) (h : ∀ s', Inv X pins σ (upd H D (.dT (putK kvs k v))) s' → Q () s') : wpAny (model X.prog X.w) X.A (dictSet D u r) Q E s := by
  cases (show u = Value.ref b from ry)
  obtain ⟨_, hd, xs, rel, dd⟩ := dt_of I.hok hD
  have hl : (putK kvs k v).length ≤ sizeLine := by have := length_putK kvs k v; omega
  refine wpAny_dictSet_heap (hsz := by rw [← Paired.length rel]; omega) (show X.A.units < cLine by omega) (key_of I.hok hb) dd fun h' dd' hs => h _ ?_
  obtain ⟨q, es, ep, hq, h2, h3, h4, _, h5⟩ := dd'
  refine d_write I (by rw [hD]; exact True.intro) hs ⟨q, hq⟩ ⟨hl, hd, _, (rel.put k hb rv).keeps fun c ys ec => ?_, q, es, ep, hq, h2, h3, h4, h5⟩
  rw [upd_ne (L2.ne_of ec hD (fun z => nomatch z))]
  exact ec
end Lk

/-! ## Dct -/
set_option Elab.async false
set_option linter.all false
set_option maxRecDepth 100000
set_option maxHeartbeats 2000000
/-! {t: v for ..}, the keys tuples: the dict told as .dT. -/
namespace Lk
open PySem PySem.Spec PyProof.Rows L2
variable [Own]
/-- a block of names, its iterator's objects untracked, ahead of turn i -/
structure Ahead (Y : Cx) (tn : Nat → Heap → Prop) (τ : L2.St) (i : Nat) (H : Hp) (s : Shared) : Prop where
  inv : Inv Y [] τ H s
  at_ : tn i s.heap
  off : ∀ b ∈ Y.ex, H b = none
theorem Ahead.fps {Y : Cx} {tn : Nat → Heap → Prop} {τ : L2.St} {i : Nat} {H : Hp} {s : Shared} (a : Ahead Y tn τ i H s) (hp : Y.pn = []) : ∀ b ∈ Y.ex, FpOk Y [] H b := by
  intro b hb
  have e1 := a.inv.ok.exf b hb
  refine ⟨a.off b hb, e1.1, a.inv.ok.exfs b hb, Or.inl hb, fun x c q => e1.2 x c q, ?_⟩
  rw [hp]
  intro p hm
  simp at hm
/-- a turn is over: the slots that the block's names had are forgotten -/
theorem Ahead.next {Y : Cx} {K : PySem.W.Frag} {tg : Expr} {J : It} {it : Addr} {tn : Nat → Heap → Prop} {τ τ2 : L2.St} {vs : List Nat} {i : Nat} {H : Hp} {s0 s : Shared} (T : Turn Y.prog Y.w K tg J Y.ex it tn)
    (I : Inv Y ([] ++ pinsAt Y.ex s0.heap) τ2 H s) (at0 : tn (i + 1) s0.heap) (hw : wipe τ2 vs = wipe τ vs) : Ahead Y tn (wipe τ vs) (i + 1) H s := by
  have same : ∀ b ∈ Y.ex, ∀ o, s0.heap.get? b = some o → s.heap.get? b = some o ∧ H b = none := by
    intro b hb o e
    have h := I.pin (b, o) (List.mem_append.mpr (.inr (List.mem_append.mpr (.inr (mem_pinsAt hb e)))))
    exact ⟨h.1, h.2.1⟩
  have I0 : Inv Y [] τ2 H s := Inv.unpinned I
  refine ⟨I0.weak (by rw [← hw]; exact wipe_length τ2 vs) (fun j v e => ?_), T.keep (i + 1) s0.heap s.heap at0 (fun b hb o e => (same b hb o e).1), fun b hb => ?_⟩
  · rw [← hw] at e
    exact (wipe_some e).1
  · obtain ⟨o, e, _⟩ := T.obj (i + 1) s0.heap at0 b hb
    exact (same b hb o e).2
/-- keys tuples of ints or texts: D the new dict -/
def tDct (wi : L2.TI) (g : TG) (tt : TT) (tk tv : TE) (vs : List Nat) : TE := fun σ H Q => wi σ H fun J H1 => ∀ D, H1 D = none → ∃ W : Nat → Nat → Hp → Prop, (∃ m, W 0 m (upd H1 D (.dT []))) ∧ ∀ i m H, W i m H →
  J.stop i H ∧ Q (.ref D) H ∨ J.go i H ∧ ∃ N : Hp → Prop, (∀ H', N H' → ∃ m', m' < m ∧ W (i + 1) m' H') ∧ ∀ x H', J.yld i H x H' → g x (wipe σ vs) H' fun τ H2 => wipe τ vs = wipe σ vs ∧ tt τ H2 fun b H3 =>
    if b = true then tk τ H3 fun y H4 => tv τ H4 fun z H5 => ∃ b kvs k, y = .ref b ∧ H5 b = some (.tup (k.map kV)) ∧ H5 D = some (.dT kvs) ∧ kvs.length < sizeLine ∧ N (upd H5 D (.dT (putK kvs k z))) else N H3
section
variable {X : Cx} {kx vx tg iter : Expr} {ifs : List Expr} {scope : Scope} {own : List (Str × Nat)} {pos : Pos} {wi : L2.TI} {g : TG} {tt : TT} {tk tv : TE}
theorem dct_any {pins : List (Addr × Obj)} {s : Shared} {σ : L2.St} {H : Hp} {Q : VK} {pos' : Pos} {use : Option (Value → Sem Unit)} {Qf : Value → Shared → Prop} (hc : X.calm = true) (hu : X.A.units + 1 < cLine) (hN : X.N.Nodup) (I : Inv X pins σ H s) (hi : PI X tg iter wi) (ok : BlkOk X.N X.env.scope scope own)
    (hg : ∀ (s : Shared) (H : Hp) (C : Addr) (cl : List (Str × Addr)) (fp : List Addr), PG (X.blk s H scope (compEnvC scope cl C X.env) fp) tg g)
    (ht : ∀ (s : Shared) (H : Hp) (C : Addr) (cl : List (Str × Addr)) (fp : List Addr), PTs (X.blk s H scope (compEnvC scope cl C X.env) fp) ifs tt)
    (hk : ∀ (s : Shared) (H : Hp) (C : Addr) (cl : List (Str × Addr)) (fp : List Addr), PE (X.blk s H scope (compEnvC scope cl C X.env) fp) kx tk)
    (hv : ∀ (s : Shared) (H : Hp) (C : Addr) (cl : List (Str × Addr)) (fp : List Addr), PE (X.blk s H scope (compEnvC scope cl C X.env) fp) vx tv)
    (hs : ∀ x, foldedSetIterable iter X.env x = pure x) (h : tDct wi g tt tk tv (own.map (·.2)) σ H Q)
    (hEnd : ∀ (D C : Addr) (s' : Shared) (m : Str → Option Value) (H' : Hp), Inv X pins σ H' s' → Q (.ref D) H' → s'.heap.Ns C m → FpOk X pins H' C → compPost (model X.prog X.w) X.A X.xe use Qf (.ref D) C (.ok .next) s') :
    wpAny (model X.prog X.w) X.A (comprehension (.DictComp kx vx [⟨tg, iter, ifs, 0⟩] scope pos) scope X.env pos' newDict false (eval iter X.env) use) Qf X.xe s := by
  have hfr : ∀ y ∈ scope.names, y.2 = .free → ∃ c, X.env.cells.lookup y.1 = some c := by
    intro y hy e
    exact I.ok.has _ (ok.free y hy e)
  have loc : ∀ y ∈ scope.names, y.2 = .local → scope.names.lookup y.1 = some .local := by
    intro y hy e
    rw [ok.uniq y hy, e]
  refine wpAny_comprehension_free (use := use) rfl hs (closure_ok hfr) ok.kind loc ?_
  refine thn (hi.run pins s σ H _ I h) fun v s1 h1 => thn h1 fun itv s2 ⟨it, fp, tn, J, H2, hit, I2, T, at2, f2, q⟩ => ?_
  subst hit
  refine wpAny_newObj_type ?_
  refine newEnv_comp ?_
  have dn : H2 s2.heap.objs.size = none := I2.hok.fresh (Nat.le_refl _)
  obtain ⟨W, ⟨m0, w0⟩, turn⟩ := q _ dn
  have I3 := I2.laid (h' := s2.heap.push { cls := .type "dict", data := .dict #[] }) (o := .dT []) (t' := s2.toks) (fun b u e => Heap.get?_push_of_some _ e) (Nat.le_refl _) (dt_empty s2.heap I2.big)
  generalize eH : upd H2 s2.heap.objs.size (.dT []) = H3 at I3 w0
  generalize es : ({ s2 with heap := s2.heap.push { cls := .type "dict", data := .dict #[] }, toks := s2.toks } : Shared) = s3 at I3
  have es2 : s3.heap = s2.heap.push { cls := .type "dict", data := .dict #[] } := by rw [← es]
  generalize eD : s2.heap.objs.size = D at turn dn eH
  have lt2 : ∀ b ∈ fp, b < D := by
    intro b hb
    obtain ⟨o, e, _⟩ := T.obj 0 s2.heap at2 b hb
    rw [← eD]
    exact Heap.lt_size e
  have f3 : ∀ b ∈ fp, FpOk X pins H3 b ∧ b < s3.heap.objs.size := by
    intro b hb
    refine ⟨⟨?_, (f2 b hb).2⟩, ?_⟩
    · rw [← eH, upd_ne (Nat.ne_of_lt (lt2 b hb))]
      exact (f2 b hb).1
    · rw [es2, Heap.size_push, eD]
      exact Nat.lt_succ_of_lt (lt2 b hb)
  have I4 := block_start I3 ok hN f3
  have G := hg s3 H3 s3.heap.objs.size (cellsFrom (s3.heap.objs.size + 1) scope.names (cloFrom X.env.cells scope.names [])) fp
  have Ts := ht s3 H3 s3.heap.objs.size (cellsFrom (s3.heap.objs.size + 1) scope.names (cloFrom X.env.cells scope.names [])) fp
  have Ek := hk s3 H3 s3.heap.objs.size (cellsFrom (s3.heap.objs.size + 1) scope.names (cloFrom X.env.cells scope.names [])) fp
  have Ev := hv s3 H3 s3.heap.objs.size (cellsFrom (s3.heap.objs.size + 1) scope.names (cloFrom X.env.cells scope.names [])) fp
  have loc3 : (compEnvC scope (cellsFrom (s3.heap.objs.size + 1) scope.names (cloFrom X.env.cells scope.names [])) s3.heap.objs.size X.env).locals = s3.heap.objs.size := rfl
  have grown : ∀ b o, s2.heap.get? b = some o → (pushCells (s3.heap.push { cls := .type "dict", data := .dict #[] }) scope.names).get? b = some o := by
    intro b o e
    refine pushCells_keeps _ _ _ _ (Heap.get?_push_of_some _ ?_)
    rw [es2]
    exact Heap.get?_push_of_some _ e
  have at4 := T.keep 0 s2.heap _ at2 fun b _ o e => grown b o e
  generalize e4 : ({ s3 with heap := pushCells (s3.heap.push { cls := .type "dict", data := .dict #[] }) scope.names } : Shared) = s4 at I4
  have e4h : s4.heap = pushCells (s3.heap.push { cls := .type "dict", data := .dict #[] }) scope.names := by rw [← e4]
  rw [← e4h] at at4
  have a0 : Ahead (X.blk s3 H3 scope (compEnvC scope (cellsFrom (s3.heap.objs.size + 1) scope.names (cloFrom X.env.cells scope.names [])) s3.heap.objs.size X.env) fp) tn (wipe σ (own.map (·.2))) 0 H3 s4 := ⟨I4, at4, fun b hb => (f3 b hb).1.1⟩
  suffices L : codeAny (model X.prog X.w) X.A (.compLoop (.DictComp kx vx [⟨tg, iter, ifs, 0⟩] scope pos) 0 (.ref it) (.ref D) (compEnvC scope (cellsFrom (s3.heap.objs.size + 1) scope.names (cloFrom X.env.cells scope.names [])) s3.heap.objs.size X.env)) (compPost (model X.prog X.w) X.A X.xe use Qf (.ref D) s3.heap.objs.size) s4 by
    exact codeAny_compStart_dict L (T.self X.A 0 s4 _ _ at4 L)
  generalize eY : X.blk s3 H3 scope (compEnvC scope (cellsFrom (s3.heap.objs.size + 1) scope.names (cloFrom X.env.cells scope.names [])) s3.heap.objs.size X.env) fp = Y at a0 G Ts Ek Ev
  generalize ec : compEnvC scope (cellsFrom (s3.heap.objs.size + 1) scope.names (cloFrom X.env.cells scope.names [])) s3.heap.objs.size X.env = ce at eY loc3
  have y1 : Y.prog = X.prog := by rw [← eY]
  have y2 : Y.w = X.w := by rw [← eY]
  have y3 : Y.A = X.A := by rw [← eY]
  have y4 : Y.env = ce := by rw [← eY]
  have y5 : Y.ex = fp := by rw [← eY]
  have y6 : Y.pn = [] := by rw [← eY]
  have y7 : Y.K = X.K := by rw [← eY]
  have y8 : Y.calm = true := by rw [← eY]; exact hc
  have y9 : Y.xe = fun _ _ => False := by rw [← eY]
  have TY : Turn Y.prog Y.w X.K tg J Y.ex it tn := by rw [y1, y2, y5]; exact T
  refine compLoop_anyD (fun n s' => ∃ i H', Ahead Y tn (wipe σ (own.map (·.2))) i H' s' ∧ W i n H') ?_ m0 ⟨0, H3, a0, w0⟩
  rintro n s5 ⟨i, H5, a5, w5⟩
  have fps := a5.fps y6
  rcases turn i n H5 w5 with ⟨st, qq⟩ | ⟨go, N, hN', step⟩
  · have fin := TY.done Y rfl rfl y7 y8 i [] s5 _ H5 (fun _ _ => False) a5.inv fps a5.at_ st
    rw [y3] at fin
    rw [y1, y2] at fin
    refine thnF fin fun r s6 ⟨hr, I6⟩ => ?_
    subst hr
    have nC : H5 s3.heap.objs.size = none := by
      have z := I6.free
      rw [y4, loc3] at z
      exact z
    obtain ⟨m, hm, _⟩ := I6.loc
    rw [y4, loc3] at hm
    have u6 := I6.base
    have h6 := I6.hok
    have o6 := I6.os
    rw [← eY] at u6 h6 o6
    have I7 : Inv X pins σ H5 s6 := I3.call' (ch := fp) o6 u6 h6 I6.bare fun b hb => by
      have z := (f3 b hb).1.2
      exact ⟨z.2.2.1, z.1, z.2.2.2.1, z.2.2.2.2⟩
    have F := I3.fpOk (H' := H5) (Nat.le_refl _) nC
    exact hEnd D s3.heap.objs.size s6 m H5 I7 qq hm F
  · have one := TY.item Y rfl rfl y7 y8 i [] s5 _ H5 (fun _ _ => False) a5.inv fps a5.at_ go
    rw [y3] at one
    rw [y1, y2] at one
    refine thnF one fun r s6 ⟨u, hr, h6⟩ => ?_
    subst hr
    refine thnF h6 fun _ s7 ⟨x, H7, I7, r7, yy, at7, off7⟩ => ?_
    have p7 := I7.pinned (Ahead.fps ⟨I7, at7, off7⟩ y6) (TY.obj _ _ at7)
    have done : ∀ {τ : L2.St} {H' : Hp} {s' : Shared}, Inv Y ([] ++ pinsAt Y.ex s7.heap) τ H' s' → wipe τ (own.map (·.2)) = wipe σ (own.map (·.2)) → N H' → ∃ m, m < n ∧ ∃ i H', Ahead Y tn (wipe σ (own.map (·.2))) i H' s' ∧ W i m H' := by
      intro τ H' s' I' hw nx
      obtain ⟨m', hlt, w'⟩ := hN' H' nx
      exact ⟨m', hlt, i + 1, H', Ahead.next TY I' at7 hw, w'⟩
    have gg := G.run _ s7 _ H7 x u _ p7 r7 (step x H7 yy)
    rw [y1, y2, y3, y4, y9] at gg
    refine thnF gg fun _ s8 ⟨τ, H8, I8, hw, q8⟩ => ?_
    have tr := Ts.run _ s8 τ H8 _ I8 q8
    rw [y1, y2, y3, y4, y9] at tr
    refine thnF tr fun b s9 ⟨H9, I9, q9⟩ => ?_
    cases b with
    | false => exact done I9 hw q9
    | true =>
      have kr := Ek.run _ s9 τ H9 _ I9 q9
      rw [y1, y2, y3, y4, y9] at kr
      refine thnF kr fun kv s10 ⟨yk, H10, I10, r10, q10⟩ => ?_
      have vr := Ev.run _ s10 τ H10 _ I10 q10
      rw [y1, y2, y3, y4, y9] at vr
      refine thnF vr fun vv s11 ⟨yv, H11, I11, r11, bb, kvs, k, ek, hb, hD, hz, nx⟩ => ?_
      subst ek
      have set_ := dT_dictSet (X := Y) (E := notedBy (model X.prog X.w) X.A ce fun e s' => compPost (model X.prog X.w) X.A X.xe use Qf (.ref D) s3.heap.objs.size (.error e) s') (Q := fun _ s' => ∃ m, m < n ∧ ∃ i H', Ahead Y tn (wipe σ (own.map (·.2))) i H' s' ∧ W i m H') (by rw [y3]; exact hu) I11 hD hb hz r10 r11 fun s12 I12 => done I12 hw nx
      rw [y1, y2, y3] at set_
      exact set_
theorem pe_dct (hc : X.calm = true) (hu : X.A.units + 1 < cLine) (hN : X.N.Nodup) (hi : PI X tg iter wi) (ok : BlkOk X.N X.env.scope scope own)
    (hg : ∀ (s : Shared) (H : Hp) (C : Addr) (cl : List (Str × Addr)) (fp : List Addr), PG (X.blk s H scope (compEnvC scope cl C X.env) fp) tg g)
    (ht : ∀ (s : Shared) (H : Hp) (C : Addr) (cl : List (Str × Addr)) (fp : List Addr), PTs (X.blk s H scope (compEnvC scope cl C X.env) fp) ifs tt)
    (hk : ∀ (s : Shared) (H : Hp) (C : Addr) (cl : List (Str × Addr)) (fp : List Addr), PE (X.blk s H scope (compEnvC scope cl C X.env) fp) kx tk)
    (hv : ∀ (s : Shared) (H : Hp) (C : Addr) (cl : List (Str × Addr)) (fp : List Addr), PE (X.blk s H scope (compEnvC scope cl C X.env) fp) vx tv)
    (hs : ∀ x, foldedSetIterable iter X.env x = pure x := by intro _; rfl) : PE X (.DictComp kx vx [⟨tg, iter, ifs, 0⟩] scope pos) (tDct wi g tt tk tv (own.map (·.2))) := by
  constructor
  intro pins s σ H Q I h
  rw [arm_eval_DictComp]
  exact dct_any hc hu hN I hi ok hg ht hk hv hs h fun D C s' m H' I' q hn F => ⟨m, hn, fun h'' sb => ⟨.ref D, H', I'.turned (t' := s'.toks) (fun b o hb e => (sb.2 b hb).trans e) F.1 F.2.1 F.2.2.2.1 F.2.2.2.2.1 F.2.2.2.2.2, rfl, q⟩⟩
/-- the model's other statement for a dict that a name takes -/
theorem sw_dct {gs : List Comprehension} {py : Pos} {y : Str} {l : Nat} {env : Env} (hk : env.scope.kind = .function) (hy : env.scope.names.lookup y = some .local) (hl : (py.line == pos.line) = true)
    (ha : (scope.names.any fun (n, k) => n == y && (k == .local || k == .cell)) = false) : swapsWith (.DictComp kx vx gs scope pos) (some (.Name y py)) l env = pure true := by
  have h1 : env.blockKind = .function := by
    unfold Env.blockKind
    rw [hk]
    rfl
  have h2 : env.kindOf y = some .local := hy
  simp only [swapsWith, h1, h2, ha, Expr.pos, hl]
  rfl
/-- name = {..} -/
theorem ps_setDct {i : Nat} {y : Str} {py spos : Pos} (hc : X.calm = true) (hu : X.A.units + 1 < cLine) (hN : X.N.Nodup) (hy : X.N[i]? = some y) (hyl : X.env.scope.names.lookup y = some .local)
    (hsw : swapsWith (.DictComp kx vx [⟨tg, iter, ifs, 0⟩] scope pos) (some (.Name y py)) spos.line X.env = pure true) (hi : PI X tg iter wi) (ok : BlkOk X.N X.env.scope scope own)
    (hg : ∀ (s : Shared) (H : Hp) (C : Addr) (cl : List (Str × Addr)) (fp : List Addr), PG (X.blk s H scope (compEnvC scope cl C X.env) fp) tg g)
    (ht : ∀ (s : Shared) (H : Hp) (C : Addr) (cl : List (Str × Addr)) (fp : List Addr), PTs (X.blk s H scope (compEnvC scope cl C X.env) fp) ifs tt)
    (hk : ∀ (s : Shared) (H : Hp) (C : Addr) (cl : List (Str × Addr)) (fp : List Addr), PE (X.blk s H scope (compEnvC scope cl C X.env) fp) kx tk)
    (hv : ∀ (s : Shared) (H : Hp) (C : Addr) (cl : List (Str × Addr)) (fp : List Addr), PE (X.blk s H scope (compEnvC scope cl C X.env) fp) vx tv)
    (hs : ∀ x, foldedSetIterable iter X.env x = pure x := by intro _; rfl) : PS X (.Assign [.Name y py] (.DictComp kx vx [⟨tg, iter, ifs, 0⟩] scope pos) spos) (tAsg (tDct wi g tt tk tv (own.map (·.2))) (gName i)) := by
  constructor
  intro pins s σ H D I h
  rw [exec_Assign_Name_used _ _ _ _ hsw]
  apply wpAny_bind
  apply wpAny_standAt
  apply wpAny_bind
  show wpAny _ X.A (do let _ ← comprehension (.DictComp kx vx [⟨tg, iter, ifs, 0⟩] scope pos) scope X.env (firstIterPos [⟨tg, iter, ifs, 0⟩] pos) newDict false (eval iter X.env) (some (assign (.Name y py) X.env))) _ _ s
  apply wpAny_bind
  have run := dct_any (Q := fun x H1 => gName i x σ H1 D.nx) (use := some (assign (.Name y py) X.env)) (Qf := fun _ s' => SP X pins D .next s') (pos' := firstIterPos [⟨tg, iter, ifs, 0⟩] pos) (pos := pos) hc hu hN I hi ok hg ht hk hv hs h fun L C s' m H' I' q hn F => by
    show wpAny _ _ (assign (.Name y py) X.env (.ref L)) _ _ _
    apply wpAny_assign_Name
    refine store_ok2 (v := V.ref L) I' hN hy (Or.inl hyl) rfl (fun s2 I2 ⟨a, sb, ha⟩ => ?_) (Or.inr hyl)
    have ne : C ≠ a := by
      rcases ha with z | z
      · exact fun e => F.2.1 (e.trans z)
      · exact fun e => F.2.2.2.2.1 y a z e.symm
    exact ⟨m, hn.sameBut sb ne, fun h3 sb3 => ⟨_, H', I2.turned (t' := s2.toks) (fun b o hb e => (sb3.2 b hb).trans e) F.1 F.2.1 F.2.2.2.1 F.2.2.2.2.1 F.2.2.2.2.2, q⟩⟩
  exact thn run fun _ s' hq => wpAny_pure (wpAny_pure hq)
end
end Lk
namespace Lk
open PySem PySem.Spec PyProof.Rows L2
variable [Own]
/-- over any walk -/
theorem dct_walk {J : It} {n : Nat} {G : Hp → Prop} {Y : Nat → Hp → V → Hp → Prop} (w : Walk J n G Y) {g : TG} {tt : TT} {tk tv : TE} {vs : List Nat} {σ : L2.St} {H1 : Hp} {D : Addr} {Qd : Hp → Prop} (Pv : Nat → Hp → Prop) (h0 : Pv 0 (upd H1 D (.dT []))) (hG : ∀ i H, i ≤ n → Pv i H → G H)
    (hs : ∀ i x H H', i < n → Pv i H → Y i H x H' → g x (wipe σ vs) H' fun τ H2 => wipe τ vs = wipe σ vs ∧ tt τ H2 fun b H3 =>
      if b = true then tk τ H3 fun y H4 => tv τ H4 fun z H5 => ∃ b kvs k, y = .ref b ∧ H5 b = some (.tup (k.map kV)) ∧ H5 D = some (.dT kvs) ∧ kvs.length < sizeLine ∧ Pv (i + 1) (upd H5 D (.dT (putK kvs k z))) else Pv (i + 1) H3) (hd : ∀ H, Pv n H → Qd H) :
    ∃ W : Nat → Nat → Hp → Prop, (∃ m, W 0 m (upd H1 D (.dT []))) ∧ ∀ i m H, W i m H →
      J.stop i H ∧ Qd H ∨ J.go i H ∧ ∃ N : Hp → Prop, (∀ H', N H' → ∃ m', m' < m ∧ W (i + 1) m' H') ∧ ∀ x H', J.yld i H x H' → g x (wipe σ vs) H' fun τ H2 => wipe τ vs = wipe σ vs ∧ tt τ H2 fun b H3 =>
        if b = true then tk τ H3 fun y H4 => tv τ H4 fun z H5 => ∃ b kvs k, y = .ref b ∧ H5 b = some (.tup (k.map kV)) ∧ H5 D = some (.dT kvs) ∧ kvs.length < sizeLine ∧ N (upd H5 D (.dT (putK kvs k z))) else N H3 := by
  refine ⟨fun i m H => (m = n - i ∧ i ≤ n) ∧ Pv i H, ⟨n, ⟨by omega, Nat.zero_le n⟩, h0⟩, ?_⟩
  rintro i m H ⟨⟨hm, hi⟩, p⟩
  have q := hG i H hi p
  rcases Nat.lt_or_ge i n with lt | ge
  · exact .inr ⟨w.goes i H lt q, Pv (i + 1), fun H' p' => ⟨n - (i + 1), by omega, ⟨rfl, lt⟩, p'⟩, fun x H' y => hs i x H H' lt p (w.yields i H x H' lt q y)⟩
  · obtain rfl : i = n := Nat.le_antisymm hi ge
    exact .inl ⟨w.stops H q, hd H p⟩
end Lk

/-! ## KvF -/
set_option Elab.async false
set_option linter.all false
set_option maxRecDepth 100000
set_option maxHeartbeats 2000000
/-! Dicts with rows of ints as keys, told by a function. -/
namespace Lk
open PySem PySem.Spec PyProof.Rows L2 Gx
variable [Own]
def kR (r : List Int) : List Key := r.map Sum.inl
theorem kR_inj {a b : List Int} (h : kR a = kR b) : a = b := by
  unfold kR at h
  exact (List.map_inj_right (fun x y e => Sum.inl.inj e)).mp h
theorem kR_kV (r : List Int) : (kR r).map kV = iv r := by
  unfold kR iv
  rw [List.map_map]
  rfl
def kvF (rows : List (List Int)) (g : List Int → V) : List (List Key × V) := rows.map fun r => (kR r, g r)
theorem kvF_in {g : List Int → V} {k : List Int} : ∀ {rows : List (List Int)}, k ∈ rows → valV (kvF rows g) (kR k) = some (g k)
  | [], h => by cases h
  | r :: rows, h => by
    show valV ((kR r, g r) :: kvF rows g) (kR k) = _
    by_cases e : r = k
    · rw [valV_pos (p := (kR r, g r)) (by rw [e]), e]
    · rw [valV_neg (p := (kR r, g r)) (fun z => e (kR_inj z))]
      exact kvF_in ((List.mem_cons.mp h).resolve_left fun z => e z.symm)
theorem kvF_out {g : List Int → V} {k : List Int} : ∀ {rows : List (List Int)}, k ∉ rows → valV (kvF rows g) (kR k) = none
  | [], h => rfl
  | r :: rows, h => by
    show valV ((kR r, g r) :: kvF rows g) (kR k) = _
    rw [valV_neg (p := (kR r, g r)) (fun z => h (by rw [kR_inj z]; exact List.mem_cons_self ..))]
    exact kvF_out fun z => h (List.mem_cons_of_mem _ z)
theorem kvF_snoc {g : List Int → V} {rows : List (List Int)} {k : List Int} (h : k ∉ rows) : putK (kvF rows g) (kR k) (g k) = kvF (rows ++ [k]) g := by
  rw [putK_new _ (kvF_out h)]
  unfold kvF
  rw [List.map_append]
  rfl
theorem kvF_len (rows : List (List Int)) (g : List Int → V) : (kvF rows g).length = rows.length := List.length_map ..
theorem nodup_at {rows : List (List Int)} (nd : rows.Nodup) {i : Nat} {k : List Int} (h : rows[i]? = some k) : k ∉ rows.take i := by
  intro hm
  obtain ⟨j, hj⟩ := List.getElem?_of_mem hm
  have hlt : j < i := by
    have := (List.getElem?_eq_some_iff.mp hj).1
    rw [List.length_take] at this
    omega
  rw [List.getElem?_take, if_pos hlt] at hj
  have h1 := (List.getElem?_eq_some_iff.mp h).1
  have := (List.getElem?_inj h1 nd).mp (h.trans hj.symm)
  omega
theorem ud {k : Nat} {A : Around} (h : Room k A) : A.units + 1 < cLine := by
  have := h.un
  omega
theorem DGet.row {H : Hp} {a b : Addr} {rows : List (List Int)} {g : List Int → V} {k : List Int} (e : H a = some (.dT (kvF rows g))) (hb : H b = some (.tup (iv k))) (hm : k ∈ rows) : DGet H a (.ref b) (some (g k)) := by
  have := DGet.t (k := kR k) e (by rw [kR_kV]; exact hb)
  rw [kvF_in hm] at this
  exact this
theorem DGet.noRow {H : Hp} {a b : Addr} {rows : List (List Int)} {g : List Int → V} {k : List Int} (e : H a = some (.dT (kvF rows g))) (hb : H b = some (.tup (iv k))) (hm : k ∉ rows) : DGet H a (.ref b) none := by
  have := DGet.t (k := kR k) e (by rw [kR_kV]; exact hb)
  rw [kvF_out hm] at this
  exact this
end Lk

/-! ## BF -/
set_option Elab.async false
set_option linter.all false
set_option maxRecDepth 100000
set_option maxHeartbeats 2000000
/-! Looks again by breadth, as data: a row of states with ways to them; layers. -/
namespace Lk
open PySem PySem.Spec PyProof.Rows L2 Gx
variable [Own]
section
variable {W : Web} {ru : List (List Int)} {x : List Int}
/-- led by looks again of these folk -/
def ledBy (W : Web) (ru : List (List Int)) (x : List Int) (w : List Int) : List Int := w.foldl (fun s f => lookOne W ru f s) x
theorem led_snoc (w : List Int) (f : Int) : ledBy W ru x (w ++ [f]) = lookOne W ru f (ledBy W ru x w) := by
  unfold ledBy
  rw [List.foldl_append]
  rfl
/-- folk of the web -/
def Folks (W : Web) (w : List Int) : Prop := ∀ f ∈ w, 0 ≤ f ∧ f < (W.tops.length : Int)
theorem led_ok (ok : W.Ok) (r0 : Ru0 W ru) (hb : firstBad W ru = none) (sx : StOk W x) : ∀ w : List Int, StOk W (ledBy W ru x w) := by
  intro w
  unfold ledBy
  induction w generalizing x with
  | nil => exact sx
  | cons f w ih => exact ih (lookOne_ok ok r0 hb sx f)
/-- the last one apart -/
theorem snoc_of : ∀ {w : List Int}, w ≠ [] → ∃ u f, w = u ++ [f] := fun {w} h => ⟨w.dropLast, w.getLast h, (List.dropLast_concat_getLast h).symm⟩
/-! ### a row of states, each with a way to it -/
/-- F found, g the ways; the first p done -/
structure Bfs (W : Web) (ru : List (List Int)) (x : List Int) (F : List (List Int)) (g : List Int → List Int) (p : Nat) : Prop where
  nd : F.Nodup
  first : F[0]? = some x
  zero : g x = []
  way : ∀ y ∈ F, Folks W (g y) ∧ ledBy W ru x (g y) = y
  done : ∀ i y, i < p → F[i]? = some y → ∀ f : Int, 0 ≤ f → f < (W.tops.length : Int) → lookOne W ru f y ∈ F ∧ (g (lookOne W ru f y)).length ≤ (g y).length + 1
  up : ∀ (i j : Nat) (y z : List Int), i ≤ j → F[i]? = some y → F[j]? = some z → (g y).length ≤ (g z).length
  near : ∀ y, F[p]? = some y → ∀ z ∈ F, (g z).length ≤ (g y).length + 1
  short : ∀ (i : Nat) (y : List Int), F[i]? = some y → (g y).length ≤ i
/-- within a turn: of the p-th the first k folk done -/
structure BfsIn (W : Web) (ru : List (List Int)) (x : List Int) (F : List (List Int)) (g : List Int → List Int) (p k : Nat) (now : List Int) : Prop extends Bfs W ru x F g p where
  here : F[p]? = some now
  some_ : ∀ f : Int, 0 ≤ f → f < (k : Int) → lookOne W ru f now ∈ F ∧ (g (lookOne W ru f now)).length ≤ (g now).length + 1
theorem Bfs.init : Bfs W ru x [x] (fun _ => []) 0 := by
  refine ⟨by simp, rfl, rfl, fun y hy => ⟨(fun f hf => by cases hf), ?_⟩, fun i y hi => by omega, fun i j y z _ _ _ => Nat.le_refl _, fun y _ z _ => Nat.zero_le _, fun i y _ => Nat.zero_le _⟩
  rw [List.mem_singleton.mp hy]
  rfl
theorem Bfs.begin {F : List (List Int)} {g : List Int → List Int} {p : Nat} {now : List Int} (b : Bfs W ru x F g p) (h : F[p]? = some now) : BfsIn W ru x F g p 0 now := ⟨b, h, fun f h0 h1 => by omega⟩
theorem BfsIn.old {F : List (List Int)} {g : List Int → List Int} {p k : Nat} {now : List Int} (b : BfsIn W ru x F g p k now) (h : lookOne W ru (k : Int) now ∈ F) : BfsIn W ru x F g p (k + 1) now := by
  refine ⟨b.toBfs, b.here, fun f h0 h1 => ?_⟩
  by_cases e : f = (k : Int)
  · rw [e]
    exact ⟨h, b.near now b.here _ h⟩
  · exact b.some_ f h0 (by omega)
theorem BfsIn.new {F : List (List Int)} {g : List Int → List Int} {p k : Nat} {now : List Int} (b : BfsIn W ru x F g p k now) (hk : k < W.tops.length) (h : lookOne W ru (k : Int) now ∉ F) :
    BfsIn W ru x (F ++ [lookOne W ru (k : Int) now]) (fun y => if y = lookOne W ru (k : Int) now then g now ++ [(k : Int)] else g y) p (k + 1) now := by
  have hnow : now ∈ F := List.mem_of_getElem? b.here
  have keep : ∀ y ∈ F, (if y = lookOne W ru (k : Int) now then g now ++ [(k : Int)] else g y) = g y := fun y hy => if_neg fun e => h (by rw [← e]; exact hy)
  have hp : p < F.length := (List.getElem?_eq_some_iff.mp b.here).1
  have at_ : ∀ {i : Nat} {y : List Int}, (F ++ [lookOne W ru (k : Int) now])[i]? = some y → (i < F.length ∧ F[i]? = some y) ∨ (i = F.length ∧ y = lookOne W ru (k : Int) now) := fun {i y} e => by
    by_cases hi : i < F.length
    · rw [List.getElem?_append_left hi] at e
      exact .inl ⟨hi, e⟩
    · have hl := (List.getElem?_eq_some_iff.mp e).1
      rw [List.length_append, List.length_singleton] at hl
      have : i = F.length := by omega
      subst this
      rw [List.getElem?_append_right (Nat.le_refl _), Nat.sub_self] at e
      exact .inr ⟨rfl, (Option.some.inj e).symm⟩
  have near' : ∀ z ∈ F ++ [lookOne W ru (k : Int) now], (if z = lookOne W ru (k : Int) now then g now ++ [(k : Int)] else g z).length ≤ (g now).length + 1 := fun z hz => by
    rcases List.mem_append.mp hz with hz | hz
    · rw [keep z hz]
      exact b.near now b.here z hz
    · rw [List.mem_singleton.mp hz, if_pos rfl, List.length_append]
      exact Nat.le_refl _
  refine ⟨⟨?_, ?_, (keep x (List.mem_of_getElem? b.first)).trans b.zero, fun y hy => ?_, fun i y hi hy f h0 h1 => ?_, fun i j y z hij hy hz => ?_, fun y hy z hz => ?_, fun i y hy => ?_⟩, ?_, fun f h0 h1 => ?_⟩
  · exact List.nodup_append.mpr ⟨b.nd, by simp, fun a ha c hc e => h (by rw [← List.mem_singleton.mp hc, ← e]; exact ha)⟩
  · rw [List.getElem?_append_left (by omega)]
    exact b.first
  · rcases List.mem_append.mp hy with hy | hy
    · rw [keep y hy]
      exact b.way y hy
    · rw [List.mem_singleton.mp hy, if_pos rfl]
      obtain ⟨w1, w2⟩ := b.way now hnow
      refine ⟨fun f hf => ?_, by rw [led_snoc, w2]⟩
      rcases List.mem_append.mp hf with hf | hf
      · exact w1 f hf
      · rw [List.mem_singleton.mp hf]
        omega
  · rw [List.getElem?_append_left (by omega)] at hy
    obtain ⟨d1, d2⟩ := b.done i y hi hy f h0 h1
    refine ⟨List.mem_append_left _ d1, ?_⟩
    rw [keep _ d1, keep y (List.mem_of_getElem? hy)]
    exact d2
  · rcases at_ hz with ⟨hj, hz⟩ | ⟨hj, hz⟩
    · rw [List.getElem?_append_left (by omega)] at hy
      rw [keep y (List.mem_of_getElem? hy), keep z (List.mem_of_getElem? hz)]
      exact b.up i j y z hij hy hz
    · subst hz
      rw [if_pos rfl, List.length_append]
      exact near' y (List.mem_of_getElem? hy)
  · rw [List.getElem?_append_left hp, b.here] at hy
    cases hy
    rw [keep now hnow]
    exact near' z hz
  · rcases at_ hy with ⟨hi, hy⟩ | ⟨hi, ey⟩
    · rw [keep y (List.mem_of_getElem? hy)]
      exact b.short i y hy
    · rw [hi, ey, if_pos rfl, List.length_append]
      have := b.short p now b.here
      show (g now).length + 1 ≤ F.length
      omega
  · rw [List.getElem?_append_left hp]
    exact b.here
  · rw [keep now hnow]
    by_cases e : f = (k : Int)
    · rw [e]
      exact ⟨List.mem_append_right _ (List.mem_singleton.mpr rfl), near' _ (List.mem_append_right _ (List.mem_singleton.mpr rfl))⟩
    · obtain ⟨d1, d2⟩ := b.some_ f h0 (by omega)
      exact ⟨List.mem_append_left _ d1, near' _ (List.mem_append_left _ d1)⟩
theorem BfsIn.next {F : List (List Int)} {g : List Int → List Int} {p : Nat} {now : List Int} (b : BfsIn W ru x F g p W.tops.length now) : Bfs W ru x F g (p + 1) := by
  refine ⟨b.nd, b.first, b.zero, b.way, fun i y hi hy f h0 h1 => ?_, b.up, fun y hy z hz => ?_, b.short⟩
  · by_cases e : i = p
    · subst e
      rw [b.here] at hy
      cases hy
      exact b.some_ f h0 h1
    · exact b.done i y (by omega) hy f h0 h1
  · have h1 := b.near now b.here z hz
    have h2 := b.up p (p + 1) now y (by omega) b.here hy
    omega
/-- all done: each way's end is there, by as few as can be -/
theorem Bfs.least {F : List (List Int)} {g : List Int → List Int} (b : Bfs W ru x F g F.length) : ∀ (k : Nat) (w : List Int), w.length = k → Folks W w → ledBy W ru x w ∈ F ∧ (g (ledBy W ru x w)).length ≤ w.length
  | 0, w, hl, hw => by
    have e := List.eq_nil_of_length_eq_zero hl
    subst e
    have hx : x ∈ F := List.mem_of_getElem? b.first
    exact ⟨hx, by show (g x).length ≤ 0; rw [b.zero]; exact Nat.le_refl _⟩
  | k + 1, w, hl, hw => by
    obtain ⟨u, f, rfl⟩ := snoc_of (w := w) (fun e => by rw [e] at hl; cases hl)
    rw [List.length_append, List.length_singleton] at hl
    obtain ⟨h1, h2⟩ := Bfs.least b k u (by omega) fun f hf => hw f (List.mem_append_left _ hf)
    rw [led_snoc, List.length_append, List.length_singleton]
    obtain ⟨i, hi⟩ := List.getElem?_of_mem h1
    have hf := hw f (List.mem_append_right _ (List.mem_singleton.mpr rfl))
    obtain ⟨d1, d2⟩ := b.done i _ (List.getElem?_eq_some_iff.mp hi).1 hi f hf.1 hf.2
    exact ⟨d1, by omega⟩
/-! ### layers -/
/-- found with how many looks that takes, all of up to m looks there -/
structure Lay (W : Web) (ru : List (List Int)) (x : List Int) (F : List (List Int)) (v : List Int → Nat) (m : Nat) : Prop where
  nd : F.Nodup
  way : ∀ y ∈ F, ∃ w, Folks W w ∧ w.length = v y ∧ ledBy W ru x w = y
  all : ∀ w, Folks W w → w.length ≤ m → ledBy W ru x w ∈ F ∧ v (ledBy W ru x w) ≤ w.length
  most : ∀ y ∈ F, v y ≤ m
theorem Lay.init : Lay W ru x [x] (fun _ => 0) 0 := by
  refine ⟨by simp, fun y hy => ⟨[], (fun f hf => by cases hf), rfl, by rw [List.mem_singleton.mp hy]; rfl⟩, fun w hw hl => ?_, fun y _ => Nat.le_refl _⟩
  rw [List.eq_nil_of_length_eq_zero (Nat.le_zero.mp hl)]
  exact ⟨List.mem_singleton.mpr rfl, Nat.le_refl _⟩
/-- a layer empty: all is found -/
theorem Lay.least {F : List (List Int)} {v : List Int → Nat} {m : Nat} (b : Lay W ru x F v m) (he : ∀ y ∈ F, v y ≠ m) : ∀ (k : Nat) (w : List Int), w.length = k → Folks W w → ledBy W ru x w ∈ F ∧ v (ledBy W ru x w) ≤ w.length
  | 0, w, hl, hw => b.all w hw (by omega)
  | k + 1, w, hl, hw => by
    obtain ⟨u, f, rfl⟩ := snoc_of (w := w) (fun e => by rw [e] at hl; cases hl)
    rw [List.length_append, List.length_singleton] at hl ⊢
    obtain ⟨h1, h2⟩ := Lay.least b he k u (by omega) fun f hf => hw f (List.mem_append_left _ hf)
    obtain ⟨u', hu1, hu2, hu3⟩ := b.way _ h1
    have h3 := b.most _ h1
    have h4 := he _ h1
    have hw' : Folks W (u' ++ [f]) := fun g hg => by
      rcases List.mem_append.mp hg with h | h
      · exact hu1 g h
      · exact hw g (List.mem_append_right _ h)
    have e : ledBy W ru x (u' ++ [f]) = ledBy W ru x (u ++ [f]) := by rw [led_snoc, led_snoc, hu3]
    obtain ⟨a1, a2⟩ := b.all (u' ++ [f]) hw' (by rw [List.length_append, List.length_singleton]; omega)
    rw [e, List.length_append, List.length_singleton] at a2
    rw [e] at a1
    exact ⟨a1, by omega⟩
/-- the next layer under way: of the layer L the first i done, of the next of it the first k folk -/
structure LayIn (W : Web) (ru : List (List Int)) (x : List Int) (F0 F : List (List Int)) (v : List Int → Nat) (m : Nat) (New : List (List Int)) (Done : List Int → Prop) : Prop where
  nd : F.Nodup
  old : ∀ y ∈ F0, y ∈ F
  parts : ∀ y, y ∈ F ↔ y ∈ F0 ∨ y ∈ New
  low : ∀ y ∈ F0, v y ≤ m
  high : ∀ y ∈ New, v y = m + 1
  way : ∀ y ∈ F, ∃ w, Folks W w ∧ w.length = v y ∧ ledBy W ru x w = y
  got : ∀ y, Done y → y ∈ F ∧ v y ≤ m + 1
theorem Lay.begin {F : List (List Int)} {v : List Int → Nat} {m : Nat} (b : Lay W ru x F v m) : LayIn W ru x F F v m [] (fun _ => False) :=
  ⟨b.nd, fun y h => h, fun y => ⟨.inl, fun h => h.elim id fun z => by cases z⟩, b.most, fun y h => (by cases h), b.way, fun y h => h.elim⟩
theorem LayIn.oldD {F0 F New : List (List Int)} {v : List Int → Nat} {m : Nat} {Done : List Int → Prop} {z : List Int} (b : LayIn W ru x F0 F v m New Done) (h : z ∈ F) : LayIn W ru x F0 F v m New (fun y => Done y ∨ y = z) := by
  refine ⟨b.nd, b.old, b.parts, b.low, b.high, b.way, fun y hy => ?_⟩
  rcases hy with hy | rfl
  · exact b.got y hy
  · refine ⟨h, ?_⟩
    rcases (b.parts y).mp h with q | q
    · have := b.low y q
      omega
    · rw [b.high y q]
      exact Nat.le_refl _
theorem LayIn.newD {F0 F New : List (List Int)} {v : List Int → Nat} {m : Nat} {Done : List Int → Prop} {here : List Int} {f : Int} (b : LayIn W ru x F0 F v m New Done) (hh : here ∈ F0) (hv : v here = m) (hf : 0 ≤ f ∧ f < (W.tops.length : Int)) (h : lookOne W ru f here ∉ F) :
    LayIn W ru x F0 (F ++ [lookOne W ru f here]) (fun y => if y = lookOne W ru f here then m + 1 else v y) m (New ++ [lookOne W ru f here]) (fun y => Done y ∨ y = lookOne W ru f here) := by
  have keep : ∀ y ∈ F, (if y = lookOne W ru f here then m + 1 else v y) = v y := fun y hy => if_neg fun e => h (by rw [← e]; exact hy)
  refine ⟨List.nodup_append.mpr ⟨b.nd, by simp, fun a ha c hc e => h (by rw [← List.mem_singleton.mp hc, ← e]; exact ha)⟩, fun y hy => List.mem_append_left _ (b.old y hy), fun y => ?_, fun y hy => by rw [keep y (b.old y hy)]; exact b.low y hy, fun y hy => ?_, fun y hy => ?_, fun y hy => ?_⟩
  · rw [List.mem_append, List.mem_append, b.parts y, or_assoc]
  · rcases List.mem_append.mp hy with hy | hy
    · rw [keep y ((b.parts y).mpr (.inr hy))]
      exact b.high y hy
    · exact if_pos (List.mem_singleton.mp hy)
  · rcases List.mem_append.mp hy with hy | hy
    · rw [keep y hy]
      exact b.way y hy
    · rw [List.mem_singleton.mp hy, if_pos rfl]
      obtain ⟨w, w1, w2, w3⟩ := b.way here (b.old here hh)
      refine ⟨w ++ [f], fun g hg => ?_, by rw [List.length_append, w2, hv]; rfl, by rw [led_snoc, w3]⟩
      rcases List.mem_append.mp hg with hg | hg
      · exact w1 g hg
      · rw [List.mem_singleton.mp hg]
        exact hf
  · rcases hy with hy | rfl
    · obtain ⟨g1, g2⟩ := b.got y hy
      exact ⟨List.mem_append_left _ g1, by rw [keep y g1]; exact g2⟩
    · exact ⟨List.mem_append_right _ (List.mem_singleton.mpr rfl), by rw [if_pos rfl]; exact Nat.le_refl _⟩
theorem LayIn.mono {F0 F New : List (List Int)} {v : List Int → Nat} {m : Nat} {Done Done' : List Int → Prop} (b : LayIn W ru x F0 F v m New Done) (h : ∀ y, Done' y → Done y) : LayIn W ru x F0 F v m New Done' :=
  ⟨b.nd, b.old, b.parts, b.low, b.high, b.way, fun y hy => b.got y (h y hy)⟩
/-- all of the layer done -/
theorem LayIn.next {F0 F New : List (List Int)} {v v0 : List Int → Nat} {m : Nat} {Done : List Int → Prop} (b0 : Lay W ru x F0 v0 m) (b : LayIn W ru x F0 F v m New Done) (hv : ∀ y ∈ F0, v y = v0 y) (hd : ∀ y ∈ F0, v0 y = m → ∀ f : Int, 0 ≤ f → f < (W.tops.length : Int) → Done (lookOne W ru f y)) : Lay W ru x F v (m + 1) := by
  refine ⟨b.nd, b.way, fun w hw hl => ?_, fun y hy => ?_⟩
  · by_cases hs : w.length ≤ m
    · obtain ⟨a1, a2⟩ := b0.all w hw hs
      exact ⟨b.old _ a1, by rw [hv _ a1]; exact a2⟩
    · have hl : w.length = m + 1 := by omega
      obtain ⟨u, f, rfl⟩ := snoc_of (w := w) (fun e => by rw [e] at hl; cases hl)
      rw [List.length_append, List.length_singleton] at hl
      have hu : Folks W u := fun f hf => hw f (List.mem_append_left _ hf)
      have hf := hw f (List.mem_append_right _ (List.mem_singleton.mpr rfl))
      obtain ⟨a1, a2⟩ := b0.all u hu (by omega)
      by_cases he : v0 (ledBy W ru x u) = m
      · obtain ⟨g1, g2⟩ := b.got _ (hd _ a1 he f hf.1 hf.2)
        rw [led_snoc, List.length_append, List.length_singleton]
        exact ⟨g1, by omega⟩
      · obtain ⟨u', hu1, hu2, hu3⟩ := b0.way _ a1
        have hw' : Folks W (u' ++ [f]) := fun g hg => by
          rcases List.mem_append.mp hg with h | h
          · exact hu1 g h
          · rw [List.mem_singleton.mp h]; exact hf
        have e : ledBy W ru x (u' ++ [f]) = ledBy W ru x (u ++ [f]) := by rw [led_snoc, led_snoc, hu3]
        have h5 := b0.most _ a1
        obtain ⟨c1, c2⟩ := b0.all (u' ++ [f]) hw' (by rw [List.length_append, List.length_singleton]; omega)
        rw [e] at c1 c2
        rw [List.length_append, List.length_singleton] at c2 ⊢
        exact ⟨b.old _ c1, by rw [hv _ c1]; omega⟩
  · rcases (b.parts y).mp hy with h | h
    · have := b.low y h
      omega
    · rw [b.high y h]
      exact Nat.le_refl _
end
end Lk

/-! ## DctP -/
set_option Elab.async false
set_option linter.all false
set_option maxRecDepth 100000
set_option maxHeartbeats 4000000
/-! dict(xs), xs a list of pairs (row, value), no row twice. -/
namespace Lk
open PySem PySem.Spec PyProof.Rows L2 Gx
variable [Own]
theorem stored_all {K : Type} [DecidableEq K] : ∀ (ps xs : List (K × Addr × Value)), ((xs ++ ps).map (·.1)).Nodup → storedAllH xs ps = xs ++ ps
  | [], xs, _ => (List.append_nil xs).symm
  | p :: ps, xs, nd => by
    have hn : atKey xs p.1 = none := by
      unfold atKey
      rw [Option.map_eq_none_iff, List.find?_eq_none]
      intro x hx e
      rw [List.map_append, List.nodup_append] at nd
      exact nd.2.2 x.1 (List.mem_map.mpr ⟨x, hx, rfl⟩) p.1 (List.mem_map.mpr ⟨p, List.mem_cons_self .., rfl⟩) (of_decide_eq_true e)
    show storedAllH (storedH xs p.1 p.2.1 p.2.2) ps = _
    rw [storedH_new hn, stored_all ps (xs ++ [(p.1, p.2.1, p.2.2)]) (by rw [List.append_assoc]; exact nd), List.append_assoc]
    rfl
/-- the pairs as values -/
theorem pairs_at {X : Cx} {pins : List (Addr × Obj)} {σ : L2.St} {H : Hp} {s : Shared} (I : Inv X pins σ H s) : ∀ {ps : List Addr} {kvs : List (List L2.Key × V)}, Paired (fun p kv => ∃ b, H p = some (.tup [.ref b, kv.2]) ∧ H b = some (.tup (kv.1.map kV))) ps kvs →
    ∃ prs : List (List L2.Key × Addr × Value), Paired (fun (p : List L2.Key × V) (q : List L2.Key × Addr × Value) => p.1 = q.1 ∧ H q.2.1 = some (.tup (p.1.map kV)) ∧ RelV p.2 q.2.2) kvs prs ∧ prs.length = ps.length ∧ ∀ (j : Nat) (q : List L2.Key × Addr × Value), prs[j]? = some q → ∃ p : Addr, ps[j]? = some p ∧ s.heap.IsTuple p #[.ref q.2.1, q.2.2]
  | _, _, .nil => ⟨[], .nil, rfl, fun j q e => by simp at e⟩
  | _, _, .cons (a := p) (b := kv) ⟨b, h1, h2⟩ t => by
    obtain ⟨prs, r, hl, hp⟩ := pairs_at I t
    obtain ⟨its, rv, ht, _⟩ := I.tuple (SqT.of h1)
    obtain ⟨u, y, ei, ru, ry⟩ := vals2 rv
    subst ei
    cases (show u = Value.ref b from ru)
    refine ⟨(kv.1, b, y) :: prs, .cons ⟨rfl, h2, ry⟩ r, by rw [List.length_cons, List.length_cons, hl], fun j q e => ?_⟩
    cases j with
    | zero =>
      have e' : (kv.1, b, y) = q := Option.some.inj e
      subst e'
      exact ⟨p, rfl, istup_is ht⟩
    | succ j =>
      obtain ⟨p', e1, e2⟩ := hp j q (by simpa using e)
      exact ⟨p', by simpa using e1, e2⟩
theorem fst_of {H : Hp} : ∀ {kvs : List (List L2.Key × V)} {prs : List (List L2.Key × Addr × Value)}, Paired (fun (p : List L2.Key × V) (q : List L2.Key × Addr × Value) => p.1 = q.1 ∧ H q.2.1 = some (.tup (p.1.map kV)) ∧ RelV p.2 q.2.2) kvs prs → prs.map (·.1) = kvs.map (·.1)
  | _, _, .nil => rfl
  | _, _, .cons h t => by rw [List.map_cons, List.map_cons, fst_of t, h.1]
def rDictP : List V → Hp → VK → Prop := fun xs H Q => ∃ (a : Addr) (ps : List Addr) (kvs : List (List L2.Key × V)), xs = [.ref a] ∧ H a = some (.lst (ps.map V.ref)) ∧ Paired (fun p kv => ∃ b, H p = some (.tup [.ref b, kv.2]) ∧ H b = some (.tup (kv.1.map kV))) ps kvs ∧ (kvs.map (·.1)).Nodup ∧
    ∀ p, H p = none → Q (.ref p) (upd H p (.dT kvs))
theorem cr_dictP {X : Cx} (hc : X.calm = true) (hu : X.A.units + 4 < cLine) : CallR X (.type "dict") rDictP := by
  intro pins s σ H xs us Q I r q
  obtain ⟨a, ps, kvs, ex, hq, hp, nd, q⟩ := q
  subst ex
  obtain ⟨u, eu, rx⟩ := vals1 r
  subst eu
  cases rx
  obtain ⟨its, rv, pl, hz⟩ := I.list (SqL.of hq)
  have ei := refs_at rv
  subst ei
  rw [List.length_map] at hz
  obtain ⟨prs, rel, hl, hpr⟩ := pairs_at I hp
  obtain ⟨o, n, ho, hcl, hd, hdat⟩ := pl
  have lk : kvs.length = prs.length := paired_len rel
  have hkey : prs.map (·.1) = kvs.map (·.1) := fst_of rel
  refine call_dict_pairsH (knd := tupleKind (mixKind X.prog X.w)) (ps := prs) (PairArg.list a (ps.map Value.ref).toArray (fun j => ps.getD j 0) (prs.map fun q => (.ref q.2.1, q.2.2))) (I.ok.hd hc) (show X.A.in1.in1.units < cLine from ?_) ⟨⟨o, n, ho, hcl, hd, hdat⟩, by simp [hl], fun j k v e => ?_⟩ ⟨by rw [List.length_map], fun i key v e => ?_⟩ (fun h' hk x hx => ?_) (by rw [List.length_map]; omega) fun h' tk hd' k => ?_
  · show X.A.units + 1 + 1 < cLine
    omega
  · rw [List.getElem?_map] at e
    cases e2 : prs[j]? with
    | none => rw [e2] at e; cases e
    | some q' =>
      rw [e2] at e
      cases e
      obtain ⟨p, e1, e3⟩ := hpr j q' e2
      have e4 : ps.getD j 0 = p := by rw [List.getD_eq_getElem?_getD, e1]; rfl
      refine ⟨by simp [e1, e4], .inl (by show s.heap.IsTuple (ps.getD j 0) _; rw [e4]; exact e3)⟩
  · have e : (prs.map fun q => ((.ref q.2.1 : Value), q.2.2))[i]? = some (key, v) := e
    rw [List.getElem?_map] at e
    cases e2 : prs[i]? with
    | none => rw [e2] at e; cases e
    | some q' =>
      rw [e2] at e
      cases e
      exact ⟨q'.1, q'.2.1, rfl, rfl⟩
  · obtain ⟨i, hi⟩ := List.getElem?_of_mem hx
    obtain ⟨kv, h1, h2, h3, h4⟩ := paired_get rel hi
    rw [← h2]
    obtain ⟨o', its', n', g1, g2, g3⟩ := key_of I.hok h3
    refine ⟨o', its', n', hk _ _ (Nat.ne_of_lt (Heap.lt_size g1)) (by simp) g1, g2, g3⟩
  · have hm : (s.heap.objs.size == sysModules) = false := beq_eq_false_iff_ne.mpr (Nat.ne_of_gt I.big)
    rw [stored_all prs [] (by rw [List.nil_append, hkey]; exact nd), List.nil_append] at hd'
    obtain ⟨o', es, ep, g1, g2, g3, g4, _, g6⟩ := hd'
    have hfree : H s.heap.objs.size = none := I.hok.fresh (Nat.le_refl _)
    have hlen : kvs.length ≤ sizeLine := by omega
    refine ⟨.ref s.heap.objs.size, upd H s.heap.objs.size (.dT kvs), I.laid (t' := tk) (fun b u e => k b u (by simp) e) (Nat.le_refl _) (show ObjOk X.prog X.w _ _ _ (.dT kvs) from ⟨hlen, hm, prs, ?_, o', es, ep, g1, g2, g3, g4, g6⟩), rfl, q _ hfree⟩
    exact paired_mono (fun p q h => ⟨h.1, by rw [upd_ne (ne_of_none h.2.1 hfree)]; exact h.2.1, h.2.2⟩) rel
end Lk

/-! ## DsT -/
set_option Elab.async false
set_option linter.all false
set_option maxRecDepth 100000
set_option maxHeartbeats 4000000
/-! {t: v}, t a tuple; going over the keys of a dict that was just made; d.get. -/
namespace Lk
open PySem PySem.Spec PyProof.Rows L2 Gx
variable [Own]
/-- {k: v}, k a tuple -/
def tDisp1 (tk tv : TE) : TE := fun σ H Q => ∀ p, H p = none → tk σ (upd H p (.dT [])) fun x H1 => tv σ H1 fun y H2 => H2 p = some (.dT []) ∧ ∃ (b : Addr) (k : List L2.Key), x = .ref b ∧ H2 b = some (.tup (k.map kV)) ∧ Q (.ref p) (upd H2 p (.dT [(k, y)]))
theorem pe_disp1 {X : Cx} {pos : Pos} {k v : Expr} {tk tv : TE} (hu : X.A.units + 4 < cLine) (hk : PE X k tk) (hv : PE X v tv) : PE X (.Dict [some k] [v] pos) (tDisp1 tk tv) := by
  refine ⟨fun pins s σ H Q I q => ?_⟩
  have hn := I.hok.fresh (Nat.le_refl s.heap.objs.size)
  have I1 := I.laid (a := s.heap.objs.size) (o := .dT []) (h' := s.heap.push { cls := .type "dict", data := .dict #[] }) (t' := s.toks) (fun _ _ q => Heap.get?_push_of_some _ q) (Nat.le_refl _) (dt_empty s.heap I.big)
  have hz := zip_pairTrees [some k] [v] X.env pos rfl rfl
  rw [arm_eval_Dict, hz, dictDisplay_pairs (pairTrees [some k] [v] X.env pos) (by intro z; cases z) (by show 1 < 17; decide)]
  refine wpAny_bind (wpAny_standAt (wpAny_bind (wpAny_subDictH (knd := tupleKind (mixKind X.prog X.w)) (Q := fun d s' => wpAny (model X.prog X.w) X.A (pure (Value.ref d)) (EP X pins σ Q) X.xe s') (show X.A.units < cLine by omega) (by show 1 ≤ 15; decide) ?_)))
  refine pairTrees_cons_walk (thn (hk.run pins _ σ _ _ I1 (q _ hn)) fun u s1 ⟨x, H1, I2, rx, q1⟩ => thn (hv.run pins s1 σ H1 _ I2 q1) fun w2 s2 ⟨y, H2, I3, ry, q2⟩ => pairTrees_nil_walk ?_)
  obtain ⟨e, b, kk, ex, hb, q3⟩ := q2
  subst ex
  cases (show u = Value.ref b from rx)
  obtain ⟨z, hd, xs, r0, dd⟩ := dt_of I3.hok e
  cases r0
  refine ⟨[(kk, b, w2)], ⟨rfl, rfl, key_of I3.hok hb, True.intro⟩, dd, fun h' tk dd' hs => wpAny_pure ?_⟩
  obtain ⟨o', es, ep, g1, g2, g3, g4, _, g6⟩ := dd'
  have nb : b ≠ s.heap.objs.size := fun z => by rw [z, e] at hb; cases hb
  exact ⟨.ref s.heap.objs.size, _, d_write (I3.tok _) (by rw [e]; exact True.intro) hs ⟨o', g1⟩ (show ObjOk X.prog X.w _ _ _ (.dT [(kk, y)]) from ⟨by show 1 ≤ sizeLine; decide, hd, [(kk, b, w2)], .cons ⟨rfl, by rw [upd_ne nb]; exact hb, ry⟩ .nil, o', es, ep, g1, g2, g3, g4, g6⟩), rfl, q3⟩
/-- over the keys of a dict that nobody asks behind that -/
def iKeysL (td : TE) : L2.TI := fun σ H R => td σ H fun x H1 => ∃ (d : Addr) (kvs : List (List L2.Key × V)), x = .ref d ∧ H1 d = some (.dT kvs) ∧ ∀ o, R (Itkt d o kvs) (upd H1 d (.frz o (.dT kvs)))
theorem pi_keysL {X : Cx} {tg e : Expr} {td : TE} (he : PE X e td) : PI X tg e (iKeysL td) := by
  refine ⟨fun pins s σ H R I h => ?_⟩
  refine thn (he.run pins s σ H _ I h) fun u s1 ⟨x, H1, I1, rx, d, kvs, ex, hd, q⟩ => ?_
  subst ex
  obtain rfl : u = Value.ref d := rx
  obtain ⟨od, I2⟩ := I1.lock hd True.intro
  obtain ⟨hs, hgd, hx, es, ep, hdt, hsz, ent⟩ := I2.frzT (upd_same (H := H1) (a := d) (o := .frz od (.dT kvs)))
  refine iter_keys hs hgd hx hdt (pi_one (tk := s1.toks) I2 _ (turn_keysT _ hdt) ⟨_, Heap.get?_push_size _ rfl, rfl, ?_⟩ (q od))
  rw [hsz] <;> rfl
/-- a test that is a value's truth -/
def tTruth (K : PySem.W.Frag) (ta : TE) : TT := fun σ H Q => ta σ H fun x H' => ∃ k, TruV K x H' k ∧ Q k H'
theorem pt_truthK {X : Cx} {K : PySem.W.Frag} {a : Expr} {ta : TE} (hk : X.K = K) (ha : PE X a ta) (he : ∀ whole, isTrue a X.env whole = (do let v ← whole; standAt a.pos; holding [v] (truthy v)) := by intro _; rfl) : PT X a (tTruth K ta) := by
  subst hk
  exact pt_truth ha he
theorem pe_orTK {X : Cx} {K : PySem.W.Frag} {a b : Expr} {rest : List Expr} {pos : Pos} {ta tb : TE} (hk : X.K = K) (ha : PE X a ta) (hb : PE X (.BoolOp .Or (b :: rest) pos) tb) : PE X (.BoolOp .Or (a :: b :: rest) pos) (tOrT K ta tb) := by
  subst hk
  exact pe_orT ha hb
theorem pi_listJ {X : Cx} {K : PySem.W.Frag} {tg e : Expr} {t : TE} (hk : X.K = K) (he : PE X e t) : PI X tg e (iList K t) := by
  subst hk
  exact pi_list he
theorem pe_notTK {X : Cx} {K : PySem.W.Frag} {a : Expr} {pos : Pos} {ta : TE} (hk : X.K = K) (ha : PE X a ta) : PE X (.UnaryOp .Not a pos) (tNotT K ta) := by
  subst hk
  exact pe_notT ha
end Lk

/-! ## OpLI -/
set_option Elab.async false
set_option linter.all false
set_option maxRecDepth 100000
set_option maxHeartbeats 2000000
namespace Lk
open PySem PySem.Spec PyProof.Rows L2 Gx
variable [Own]
/-- t[a:b], one tuple of these or another -/
def rSlU : V → Option Int → Option Int → Hp → VK → Prop := fun x lo hi H Q => ∃ a xs, x = .ref a ∧ H a = some (.tup xs) ∧ ∀ H' p, Ext H H' → H' p = some (.tup (cutV xs lo hi)) → Q (.ref p) H'
theorem sl_tU {X : Cx} : SlR X rSlU := by
  intro pins s σ H x v vl vu lo hi sl Q I rx hs h1 h2 h
  obtain ⟨a, xs, rfl, ha, k⟩ := h
  refine sl_tupA pins s σ H _ v vl vu lo hi sl Q I rx hs h1 h2 ⟨a, xs, rfl, SqT.of ha, fun hf => k H a (Ext.refl H) ?_, fun _ p hp => k _ p (Ext.new hp _) upd_same⟩
  rw [ha]
  unfold cutV
  rw [hf.1, hf.2]
  simp
/-- t + u, one tuple of these or another -/
def rCatU : R2 := fun x y H Q => ∃ a b xs ys, x = .ref a ∧ y = .ref b ∧ H a = some (.tup xs) ∧ H b = some (.tup ys) ∧ xs.length + ys.length ≤ sizeLine ∧ ∀ H' p, Ext H H' → H' p = some (.tup (xs ++ ys)) → Q (.ref p) H'
theorem op_catU {X : Cx} : OpR X (binaryOp .Add) rCatU := by
  intro pins s σ H x y v u Q I rx ry h
  obtain ⟨a, b, xs, ys, e1, e2, h1, h2, hl, k⟩ := h
  refine op_catTT pins s σ H x y v u Q I rx ry ⟨a, b, xs, ys, e1, e2, h1, h2, hl, fun e => ?_, fun _ e => ?_, fun _ _ p hp => k _ p (Ext.new hp _) upd_same⟩
  · subst e
    exact k H b (Ext.refl H) h2
  · subst e
    exact k H a (Ext.refl H) (by rw [List.append_nil]; exact h1)
/-- two lists of ints -/
def rNeLI : R2 := fun x y H Q => ∃ a b : List Int, LI H x a ∧ LI H y b ∧ Q (.bl (!decide (a = b))) H
def rEqLI : R2 := fun x y H Q => ∃ a b : List Int, LI H x a ∧ LI H y b ∧ Q (.bl (decide (a = b))) H
theorem eqv_li (a b : List Int) : PyData.eqv (.list (a.map .int)) (.list (b.map .int)) = decide (a = b) := by
  simp only [PyData.eqv]
  exact eqvAll_ints a b
theorem LI.dp {K : PySem.W.Frag} {H : Hp} {v : V} {ns : List Int} (h : LI H v ns) : Dp K H v (.list (ns.map .int)) := by
  obtain ⟨a, rfl, h⟩ := h
  exact .lst (SqL.of h) (dpAll_ints ns)
theorem op_eqLI {X : Cx} (hu : X.A.units + 64 < cLine) : OpR X (compareOp .Eq) rEqLI := by
  intro pins s σ H x y v u Q I rx ry h
  obtain ⟨a, b, h1, h2, q⟩ := h
  exact op_eqD hu pins s σ H x y v u Q I rx ry ⟨_, _, h1.dp, h2.dp, shaped_li a, shaped_li b, by rw [eqv_li]; exact q⟩
theorem op_neLI {X : Cx} (hu : X.A.units + 64 < cLine) : OpR X (compareOp .NotEq) rNeLI := by
  intro pins s σ H x y v u Q I rx ry h
  obtain ⟨a, b, h1, h2, q⟩ := h
  exact op_neD hu pins s σ H x y v u Q I rx ry ⟨_, _, h1.dp, h2.dp, shaped_li a, shaped_li b, by rw [eqv_li]; exact q⟩
theorem sIx_nat (n d k : Nat) (h : k ≤ n) : HT.sIx n d (some (k : Int)) = k := by
  show (if (k : Int) < 0 then ((k : Int) + n).toNat else min (k : Int).toNat n) = k
  rw [if_neg (by omega)]
  omega
theorem cut_take (xs : List V) (n : Nat) (h : n ≤ xs.length) : cutV xs none (some (n : Int)) = xs.take n := by
  unfold cutV
  rw [sIx_nat _ _ _ h]
  rfl
theorem cut_drop (xs : List V) (n : Nat) (h : n ≤ xs.length) : cutV xs (some (n : Int)) none = xs.drop n := by
  unfold cutV
  rw [sIx_nat _ _ _ h]
  exact List.take_of_length_le (by rw [List.length_drop]; exact Nat.le_refl _)

/-- an int in a row of ints -/
def rInI : R2 := fun x y H Q => ∃ (n : Int) (ns : List Int), x = .int n ∧ (TI H y ns ∨ LI H y ns) ∧ Q (.bl (ns.contains n)) H
def rNotInI : R2 := fun x y H Q => ∃ (n : Int) (ns : List Int), x = .int n ∧ (TI H y ns ∨ LI H y ns) ∧ Q (.bl (!ns.contains n)) H
theorem op_inI {X : Cx} : OpR X (compareOp .In) rInI := by
  intro pins s σ H x y v u Q I rx ry h
  obtain ⟨n, ns, rfl, h | h, q⟩ := h
  · obtain ⟨a, rfl, ha⟩ := h
    exact op_in_seq pins s σ H _ _ v u Q I rx ry ⟨a, _, rfl, .inr (SqT.of ha), rfl, flat_iv _, by rw [inV_iv]; exact q⟩
  · obtain ⟨a, rfl, ha⟩ := h
    exact op_in_seq pins s σ H _ _ v u Q I rx ry ⟨a, _, rfl, .inl (SqL.of ha), rfl, flat_iv _, by rw [inV_iv]; exact q⟩
theorem op_notInI {X : Cx} : OpR X (compareOp .NotIn) rNotInI := by
  intro pins s σ H x y v u Q I rx ry h
  obtain ⟨n, ns, rfl, h | h, q⟩ := h
  · obtain ⟨a, rfl, ha⟩ := h
    exact op_notIn_seq pins s σ H _ _ v u Q I rx ry ⟨a, _, rfl, .inr (SqT.of ha), rfl, flat_iv _, by rw [inV_iv]; exact q⟩
  · obtain ⟨a, rfl, ha⟩ := h
    exact op_notIn_seq pins s σ H _ _ v u Q I rx ry ⟨a, _, rfl, .inl (SqL.of ha), rfl, flat_iv _, by rw [inV_iv]; exact q⟩
end Lk

/-! ## SetDT -/
set_option Elab.async false
set_option linter.all false
set_option maxRecDepth 100000
set_option maxHeartbeats 2000000
namespace Lk
open PySem PySem.Spec PyProof.Rows L2 Gx
variable [Own]
/-- o[i] = v of a dict of tuples -/
def rSetDT : TSet := fun o i v H Q => ∃ a H', o = .ref a ∧ DPut H a i v H' ∧ Q H'
theorem set_dT {X : Cx} (hu : X.A.units + 1 < cLine) : PSet X rSetDT := by
  intro pins s σ H o i v ov iv u Q I ro ri rv h
  obtain ⟨a, H', rfl, g, q⟩ := h
  obtain rfl : ov = Value.ref a := ro
  exact d_setItem hu I g ri rv fun s4 I4 => ⟨H', I4, q⟩
end Lk

/-! ## W51 -/
set_option Elab.async false
set_option linter.all false
set_option maxRecDepth 100000
set_option maxHeartbeats 4000000
namespace Lk
open PySem PySem.Spec PyProof.Rows L2 Gx
open GxR (TabG Tabbed TabB)
variable [Own]
abbrev s_lot_told : Stmt := top 42
theorem sc_lot_told : FnScope ["web", "rules", "state", "lot", "folk", "mood"] ["web", "rules", "state", "lot"] (defScope s_lot_told) := ⟨rfl, rfl, rfl, by decide +kernel, rfl, by decide +kernel, by decide +kernel⟩
theorem un4' {k : Nat} {A : Around} (h : Room k A) : A.units + 4 < cLine := by
  have := h.units
  omega
def spLotTold : Sp := fun vs H Q _ => ∃ (v r z l : V) (W : Web) (ru : List (List Int)) (st : List Int) (f : Int), vs = [v, r, z, l] ∧ WebAt H v W ∧ W.Ok ∧ TT2 H r ru ∧ RuOk W ru ∧ TI H z st ∧ StOk W st ∧ TI H l [f] ∧ ∀ H' u, Ext H H' → H u = none → H' u = some (.tup (iv (lookOne W ru f st))) → Q (.ref u) H'
def nextsOf (W : Web) (ru : List (List Int)) (st : List Int) : List (List Int) := (List.range W.tops.length).map fun f : Nat => lookOne W ru (f : Int) st
def spStatesNext : Sp := fun vs H Q _ => ∃ (v r z : V) (W : Web) (ru : List (List Int)) (st : List Int), vs = [v, r, z] ∧ WebAt H v W ∧ W.Ok ∧ TT2 H r ru ∧ RuOk W ru ∧ TI H z st ∧ StOk W st ∧ ∀ H' p us, Ext H H' → H p = none → H' p = some (.lst us) → Paired (TI H') us (nextsOf W ru st) → Q (.ref p) H'
theorem rows_few {W : Web} (ok : W.Ok) : (rowsOf W.tops).length ≤ 4096 := by
  have h1 := rows_len4 (tops := W.tops) (fun t ht => (ok.tops t ht).2) [[]]
  have h2 : 4 ^ W.tops.length ≤ 4 ^ 6 := Nat.pow_le_pow_right (by decide) ok.few
  simp only [List.length_singleton, Nat.one_mul] at h1
  exact Nat.le_trans h1 h2
theorem Bfs.ok {W : Web} {ru : List (List Int)} {x : List Int} {F : List (List Int)} {g : List Int → List Int} {p : Nat} (b : Bfs W ru x F g p) (ok : W.Ok) (r0 : Ru0 W ru) (hb : firstBad W ru = none) (sx : StOk W x) : ∀ y ∈ F, StOk W y := fun y hy => by
  rw [← (b.way y hy).2]
  exact led_ok ok r0 hb sx _
theorem Bfs.few {W : Web} {ru : List (List Int)} {x : List Int} {F : List (List Int)} {g : List Int → List Int} {p : Nat} (b : Bfs W ru x F g p) (ok : W.Ok) (r0 : Ru0 W ru) (hb : firstBad W ru = none) (sx : StOk W x) : F.length ≤ 4096 :=
  Nat.le_trans (nodup_le _ _ b.nd fun y hy => state_row (b.ok ok r0 hb sx y hy)) (rows_few ok)
section
variable {P : Program} {w : World} {K : PySem.W.Frag} {mg : Str → Option Value} {base : Heap} {Ps : List Addr}
theorem ok_lot_told {f : Addr} {fd : FuncData} (F : Fun K "lot_told" "lot_told" s_lot_told f fd) (B : Blt mg)
    (c_mood_told : Cal P w K mg base CX0 3 "mood_told" ["web", "rules", "state", "folk"] spMoodTold) : FnOk P w K mg base CX0 4 f fd ["web", "rules", "state", "lot"] spLotTold := by
  refine F.ok sc_lot_told (fun vs H Q E h => ?_) (fun cdv A outer s0 H vs Q E hr h => ?_)
  · obtain ⟨v, r, z, l, W, ru, st, fo, rfl, _⟩ := h
    rfl
  · obtain ⟨v, r, z, l, W, ru, st, fo, rfl, hW, ok, hru, rok, ⟨sa, rfl, hsa⟩, so, hl, k⟩ := h
    refine ⟨_, (pss_one (ps_ret (pe_tupleL (by rfl) B.tuple (pe_lc (own := [("folk", 4), ("mood", 5)]) rfl sc_lot_told.nd (pi_enumT (by rfl) B.enum (pa_cons (pv 2) pa_nil)) (blkOk_by (N := ["web", "rules", "state", "lot", "folk", "mood"]) (sc := defScope s_lot_told) (by decide +kernel)) (fun _ _ _ _ _ => (pg_tupT (n := 2) rfl (pgs_cons (pg_name (i := 4) sc_lot_told.nd rfl (by first | exact Or.inl rfl | exact Or.inr rfl)) (pgs_cons (pg_name (i := 5) sc_lot_told.nd rfl (by first | exact Or.inl rfl | exact Or.inr rfl)) pgs_nil)))) (fun _ _ _ _ _ => pts_nil) (fun _ _ _ _ _ => (pe_ifExp (pt_cmpR op_inI (pv 4) (pv 3) (by with_unfolding_all rfl)) (pe_c0 c_mood_told (hr.mono (by decide)) (by rfl) (pa_cons (pv 0) (pa_cons (pv 1) (pa_cons (pv 2) (pa_cons (pv 4) pa_nil))))) (pv 5))))))), ?_⟩
    have h6 := ok.few
    have lst := so.len
    refine ⟨_, rfl, sa, _, rfl, hsa, fun D hD => ?_⟩
    refine lc_walk (walk_enumT (a := sa) (xs := iv st)) (fun i H' => H' D = some (.lst (iv ((List.range i).map fun g : Nat => if (g : Int) = fo then moodTold W ru st fo else stAt st (g : Int)))) ∧ Ext H H') ⟨by rw [upd_same]; rfl, Ext.new hD _⟩ (fun i H' _ ⟨_, e⟩ => e.tup hsa) (fun i x H4 H5 hi ⟨h1, e⟩ y => ?_) fun H4 ⟨h4, e4⟩ => ?_
    · obtain ⟨T, y1, rfl, hT, rfl, hy⟩ := y
      obtain ⟨m, hm, rfl⟩ := iv_get hy
      have hi2 : i < st.length := (List.getElem?_eq_some_iff.mp hm).1
      have em : stAt st (i : Int) = m := by unfold stAt; rw [List.getD_eq_getElem?_getD, Int.toNat_natCast, hm]; rfl
      have eT := e.trans (Ext.new hT (.tup [V.int (i : Nat), V.int m]))
      have h2 := (Ext.new hT (.tup [V.int (i : Nat), V.int m])).lst h1
      refine ⟨T, _, rfl, upd_same, rfl, _, _, rfl, _, _, rfl, rfl, rfl, yes ?_⟩
      refine ⟨_, rfl, _, rfl, (i : Int), [fo], rfl, .inl (hl.ext eT), _, rfl, ?_⟩
      have fin : ∀ (H6 : Hp) (n : Int), Ext (L2.upd H4 T (.tup [V.int (i : Nat), V.int m])) H6 → n = (if (i : Int) = fo then moodTold W ru st fo else stAt st (i : Int)) → ∃ acc, H6 D = some (.lst acc) ∧ acc.length < sizeLine ∧ (L2.upd H6 D (.lst (acc ++ [.int n])) D = some (.lst (iv ((List.range (i + 1)).map fun g : Nat => if (g : Int) = fo then moodTold W ru st fo else stAt st (g : Int)))) ∧ Ext H (L2.upd H6 D (.lst (acc ++ [.int n])))) := fun H6 n e6 en => by
        refine ⟨_, e6.lst h2, ?_, ?_, (eT.trans e6).put hD _⟩
        · rw [iv_len, List.length_map, List.length_range]
          exact small1000 (by omega)
        · rw [upd_same, List.range_succ, List.map_append, en]
          unfold iv
          rw [List.map_append]
          rfl
      by_cases hc : (i : Int) = fo
      · have : ([fo] : List Int).contains (i : Int) = true := by rw [hc]; simp
        rw [this]
        refine iteT ?_
        refine ⟨_, rfl, _, rfl, _, rfl, _, rfl, _, _, _, W, ru, st, (i : Int), rfl, hW.ext eT, ok, hru.ext eT, rok, ⟨sa, rfl, eT.tup hsa⟩, so, ⟨by omega, by omega⟩, fun H6 e6 => ?_⟩
        exact fin H6 _ e6 (by rw [if_pos hc, hc])
      · have : ([fo] : List Int).contains (i : Int) = false := by simp [hc]
        rw [this]
        refine iteF ⟨_, rfl, ?_⟩
        exact fin _ _ (Ext.refl _) (by rw [if_neg hc, em])
    · rw [iv_len, lst] at h4
      refine ⟨D, _, rfl, h4, fun u hu => ?_⟩
      exact k _ u (e4.trans (Ext.new hu _)) (e4.free hu) upd_same
end
end Lk


/-! ## Kl0 -/
set_option Elab.async false
set_option linter.all false
set_option maxRecDepth 100000
set_option maxHeartbeats 2000000
/-! A key: lambda lot: (len(lot), lot). -/
namespace Lk
open PySem PySem.Spec PyProof.Rows L2 LamX NdefX
/-- the lambda's body -/
abbrev klBody (x : Str) (p1 p2 p3 p4 : Pos) (e0 : Nat) (e1 : Pos) : Expr := .Tuple [.Call (.Name "len" p1) [.Name x p2] [] p3, .Name x p4] e0 e1
section
variable {prog : Program} {w : World} {A : Around} {E : Value → Shared → Prop} {s : Shared} {N : List Str} {q x : Str} {params : Arguments} {scope : Scope} {p1 p2 p3 p4 e1 : Pos} {e0 : Nat} {f c' t : Addr} {pm ctv : Value} {K : PySem.W.Frag} {mg : Str → Option Value}
theorem key_len {items : Array Value} {R : Result → Shared → Prop} (S : NScope N [x] [] scope) (hb : ∀ (pm ctv : Value) (c' : Addr) (us : List Value), us.length = 1 → bindArgs (PySem.W.kla_fn "<lambda>" q params (klBody x p1 p2 p3 p4 e0 e1) scope [] pm (.ref c') ctv) ⟨us, []⟩ = pure ([x].zip us))
    (hdep : A.depth < recursionLimit) (lim : s.heap.NoLimit) (ho : s.heap.get? f = some (PySem.W.kla_obj "<lambda>" q params (klBody x p1 p2 p3 p4 e0 e1) scope [] pm c' ctv)) (hcode : s.heap.CodeRec (.ref c') q)
    (hg : s.heap.Ns mainGlobals mg) (hlen : mg "len" = none) (hblt : ∃ mb, s.heap.Ns builtinsNs mb ∧ ∀ y : Str, y ≠ "__name__" → mb y = bootBuiltins y) (hx : scope.names.lookup x = some .local) (hgl : scope.names.lookup ("len" : Str) = some .globalImplicit) (hd1 : (x == ("__debug__" : Str)) = false)
    (ht : IsTup s.heap t items) (hz : items.size ≤ 1000)
    (hR : ∀ h' tk p t', (∀ b o, s.heap.get? b = some o → h'.get? b = some o) → h'.get? p = some { cls := .type "tuple", data := .seq #[.int items.size t', .ref t] } → R (.ok (.ret (.ref p))) { s with heap := h', toks := tk }) :
    codeAny (model prog w) A (.call (.ref f) ⟨[.ref t], []⟩) R s := by
  refine PySem.W.kla_callFunE hdep ho rfl S.co S.gen rfl ?_ ?_
  · exact hcode
  show wpAny _ _ (bindArgs (PySem.W.kla_fn "<lambda>" q params (klBody x p1 p2 p3 p4 e0 e1) scope [] pm (.ref c') ctv) ⟨[.ref t], []⟩) _ _ _
  rw [hb pm ctv c' [.ref t] rfl]
  refine wpAny_pure (wpAny_newFunctionEnv S.nocell (fun ⟨n, _⟩ hy => S.par n (List.of_mem_zip hy).1) (fun h₁ hns hsb => ⟨lim.fresh _ hsb, ?_⟩) S.kind)
  show codeAny _ _ (.expr (klBody x p1 p2 p3 p4 e0 e1) (envF (lamF q params scope [] c') f s.heap.objs.size)) _ _
  refine PySem.W.kla_codeExpr ?_
  have kp : ∀ a o, s.heap.get? a = some o → h₁.get? a = some o := fun a o e => hsb.extBut a o (Nat.ne_of_lt (Heap.lt_size e)) (Heap.get?_push_of_some _ e)
  obtain ⟨mb, hb1, hb2⟩ := hblt
  refine wpAny_Tuple_spliced ?_
  show wpAny _ _ (spliced ((false, eval (.Call (.Name "len" p1) [.Name x p2] [] p3) (envF (lamF q params scope [] c') f s.heap.objs.size)) :: backTo e1 ((false, eval (.Name x p4) (envF (lamF q params scope [] c') f s.heap.objs.size)) :: []))) _ _ _
  refine Calls.spliced_cons ?_
  refine wpAny_Call_Name_kw (Calls.Name_function_global S.kind hgl (Calls.loadGlobal_builtin (hg.keeps kp) hlen (hb1.keeps kp) ((hb2 _ (by decide)).trans boot_len) ?_) (by decide))
  refine PyProof.Rows.callWith_builtin1 ?_ rfl rfl
  have lk : List.lookup x ([x].zip [Value.ref t]).reverse = some (Value.ref t) := by simp
  show wpAny _ _ (spliced ((false, eval (.Name x p2) (envF (lamF q params scope [] c') f s.heap.objs.size)) :: [])) _ _ _
  refine Calls.spliced_cons (wpAny_Name (wpAny_loadName_local S.kind hx hns lk ?_) hd1)
  refine Calls.spliced_nil ?_
  have n63 : (items.size : Int) < 2 ^ 63 := by omega
  have ht1 : IsTup h₁ t items := by
    obtain ⟨o, e, r⟩ := ht
    exact ⟨o, kp _ _ e, r⟩
  refine len_tuple (s := { s with heap := h₁, toks := _ }) ht1 n63 ?_
  show wpAny _ _ (spliced ((false, eval (.Name x p4) (envF (lamF q params scope [] c') f s.heap.objs.size)) :: [])) _ _ _
  refine Calls.spliced_cons (wpAny_Name (wpAny_loadName_local S.kind hx hns lk ?_) hd1)
  refine Calls.spliced_nil ⟨(by show 2 ≤ sizeLine; rw [sizeLine_eq]; decide), ?_⟩
  exact hR _ _ _ _ (fun b o e => Heap.get?_push_of_some _ (kp b o e)) (Heap.get?_push_size _ rfl)
end
/-- how the key reads -/
def keyD (l : List Int) : PyData := .tuple [.int (l.length : Int), .tuple (l.map .int)]
/-- tuples of ints, by how many and then in order -/
def sortKL (rows : List (List Int)) : List (List Int) := rows.mergeSort (PySem.W.dataLe false keyD)
theorem reads_ints {h : Heap} : ∀ {ns : List Int} {us : List Value}, Vals (iv ns) us → ReadsAll h us (ns.map .int) []
  | [], _, .nil => .nil
  | n :: ns, _, .cons r rs => by
    obtain ⟨t, rfl⟩ := r
    exact .cons (.int n t) (reads_ints rs)
theorem reads_key {h : Heap} {p t : Addr} {t' : Tok} {ns : List Int} {us : List Value} (r : Vals (iv ns) us) (ht : IsTup h t us.toArray) (hp : h.get? p = some { cls := .type "tuple", data := .seq #[.int ns.length t', .ref t] }) : Reads h (.ref p) (keyD ns) [] := by
  obtain ⟨o, ho, hc, n, hd⟩ := ht
  refine .tuple hp rfl rfl ?_
  show ReadsAll h [.int ns.length t', .ref t] [.int (ns.length : Int), .tuple (ns.map .int)] []
  refine .cons (as := []) (bs := []) (.int _ _) (.cons (as := []) (bs := []) (.tuple ho hc hd ?_) .nil)
  exact reads_ints r
section
variable [Own] {X : Cx} {N : List Str} {q x : Str} {params : Arguments} {scope : Scope} {p1 p2 p3 p4 e1 : Pos} {e0 : Nat}
def rSortKL (q : Str) (params : Arguments) (scope : Scope) (body : Expr) : List V → List V → Hp → VK → Prop := fun vs zs H Q => ∃ (a : Addr) (ys : List V) (rows : List (List Int)) (f c' : Addr), vs = [.ref a] ∧ H a = some (.lst ys) ∧ Paired (TI H) ys rows ∧ (∀ r ∈ rows, r.length ≤ 1000) ∧ zs = [.ref f] ∧
  H f = some (LmO f (lamF q params scope [] c') body) ∧ H c' = some (CodeO c' q) ∧ ∀ p out, H p = none → Paired (TI H) out (sortKL rows) → Q (.ref p) (upd H p (.lst out))
theorem cr_sortKL {k : Nat} (hr : Room k X.A) (hu : X.A.units + 66 < cLine) (S : NScope N [x] [] scope) (hb : ∀ (pm ctv : Value) (c' : Addr) (us : List Value), us.length = 1 → bindArgs (PySem.W.kla_fn "<lambda>" q params (klBody x p1 p2 p3 p4 e0 e1) scope [] pm (.ref c') ctv) ⟨us, []⟩ = pure ([x].zip us))
    (hlen : X.mg "len" = none) (hx : scope.names.lookup x = some .local) (hgl : scope.names.lookup ("len" : Str) = some .globalImplicit) (hd1 : (x == ("__debug__" : Str)) = false) :
    CallRK X (.builtin "sorted") [("key" : Str)] (rSortKL q params scope (klBody x p1 p2 p3 p4 e0 e1)) := by
  intro pins s σ H xs zs us ws Q I r1 r2 h
  obtain ⟨a, ys, rows, f, c', rfl, ha, hp, h1000, rfl, hf, hc, hq⟩ := h
  obtain ⟨its, rv, hl, hz⟩ := I.list (SqL.of ha)
  rw [Vals.ref1 r1, Vals.ref1 r2]
  obtain ⟨bs, b1, b2, b3⟩ := both_of rv hp
  obtain ⟨pm, ctv, ho⟩ := lm_at I.hok hf
  have hmem : ∀ b ∈ bs, b.2 ∈ rows := fun b hb => by rw [← b2]; exact List.mem_map.mpr ⟨b, hb, rfl⟩
  have hcode := codeO_at I.hok hc
  show wpAny _ _ (call (.builtin "sorted") [.ref a] [(Str.ofString "key", .ref f)]) _ _ _
  refine PySem.W.sorted_key_data (b := false) (fun b : V × List Int => keyD b.2) hl.isList b3 (PySem.W.AllAlike.of fun b b' => ?_) (PySem.W.Sortable.tuples fun b => ⟨_, _, rfl⟩) (by rw [← List.length_map (f := (·.1)), b1]; exact hz) (fun b hbm => ?_) (PyProof.Rows.ksk_s1 _ _) (fun _ => PyProof.Rows.ksk_l1 _ _) (fun _ => PyProof.Rows.ksk_t1 _ _) (fun v b hR hbm h tk kp => ?_) fun out c h' tk kp fresh hD hlen ho => ?_
  · show PySem.W.alike (keyD b.2) (keyD b'.2) = true
    unfold keyD
    simp only [PySem.W.alike, PySem.W.alikeAll]
    simp [PySem.W.alike_ints]
  · show X.A.units + 2 + (keyD b.2).depth < cLine
    unfold keyD
    simp only [PyData.depth, PyData.depthAll, depth_ints]
    omega
  · obtain ⟨rv1, t, et, htp⟩ := hR
    rw [et] at rv1
    obtain rfl : v = Value.ref t := rv1
    obtain ⟨its2, rv2, pl2, hz2⟩ := I.tuple (SqT.of htp)
    have l1 := hmem b hbm
    have l2 := h1000 _ l1
    have l3 : its2.length = b.2.length := by rw [← rv2.length, iv_len]
    have pl3 : IsTup h t its2.toArray := by
      obtain ⟨o, e, r⟩ := pl2
      exact ⟨o, kp _ _ e, r⟩
    have hgl0 : s.heap.Ns mainGlobals X.mg := by
      have := I.mod.glob
      exact this.keeps I.bk
    obtain ⟨mb, m1, m2⟩ := I.mod.blt
    refine wpAny_call (key_len (s := { s with heap := h, toks := tk }) (items := its2.toArray) S hb ?dep (I.nolimit.keeps kp) (kp _ _ ho) (hcode.keeps kp) (hgl0.keeps kp) hlen ⟨mb, (m1.keeps I.bk).keeps kp, m2⟩ hx hgl hd1 pl3 (by rw [List.size_toArray]; omega) fun h2 tk2 p t' k2 hp2 => ?_)
    case dep =>
      have := hr.dp
      show X.A.depth < recursionLimit
      omega
    refine ⟨h2, tk2, rfl, k2, ?_⟩
    rw [List.size_toArray, l3] at hp2
    refine reads_key rv2 ?_ hp2
    obtain ⟨o, e, r⟩ := pl3
    exact ⟨o, k2 _ _ e, r⟩
  · obtain ⟨k1, k2⟩ := of_both ho
    have e4 : (bs.mergeSort (PySem.W.dataLe false fun b : V × List Int => keyD b.2)).map (·.2) = sortKL rows := by
      unfold sortKL
      rw [← b2]
      exact PySem.W.sort_maps _ fun _ _ _ _ => rfl
    rw [e4] at k2
    have hl2 : ((bs.mergeSort (PySem.W.dataLe false fun b : V × List Int => keyD b.2)).map (·.1)).length ≤ sizeLine := by
      rw [List.length_map, List.length_mergeSort, ← List.length_map (f := (·.1)), b1]
      exact hz
    exact ⟨.ref _, upd H (s.heap.objs.size + 1) (.lst _), I.laid (t' := tk) kp (Nat.le_succ _) ⟨hl2, out, c, k1, hD⟩, rfl, hq _ _ (I.hok.fresh (Nat.le_succ _)) k2⟩
end
end Lk

/-! ## CbD -/
set_option Elab.async false
set_option linter.all false
/-! Lots of so many numbers below a number, in ascending sequence: what combinations goes through. -/
namespace Lk.Cb
/-- the next places, none at the end -/
def nextC (n : Nat) (ix : List Nat) : Option (List Nat) :=
  match (List.range ix.length).reverse.find? fun i => ix.getD i 0 != i + n - ix.length with
  | none => none
  | some i => some (ix.take i ++ (List.range (ix.length - i)).map (ix.getD i 0 + 1 + ·))
/-- all ascending lists of so many of the d numbers from lo on -/
def cmb : Nat → Nat → Nat → List (List Nat)
  | _, _, 0 => [[]]
  | 0, _, _ + 1 => []
  | d + 1, lo, k + 1 => (cmb d (lo + 1) k).map (lo :: ·) ++ cmb d (lo + 1) (k + 1)
theorem cmb_zero (d lo : Nat) : cmb d lo 0 = [[]] := by cases d <;> rfl
theorem cmb_big : ∀ (d lo k : Nat), d < k → cmb d lo k = []
  | 0, lo, k + 1, _ => rfl
  | d + 1, lo, k + 1, h => by
    show (cmb d (lo + 1) k).map (lo :: ·) ++ cmb d (lo + 1) (k + 1) = []
    rw [cmb_big d (lo + 1) k (by omega), cmb_big d (lo + 1) (k + 1) (by omega)]
    rfl
theorem cmb_len : ∀ (d lo k : Nat), ∀ l ∈ cmb d lo k, l.length = k
  | d, lo, 0, l, h => by
    rw [cmb_zero] at h
    rw [List.mem_singleton.mp h]
    rfl
  | 0, lo, k + 1, l, h => by cases h
  | d + 1, lo, k + 1, l, h => by
    rcases List.mem_append.mp h with h | h
    · obtain ⟨q, hq, rfl⟩ := List.mem_map.mp h
      rw [List.length_cons, cmb_len d (lo + 1) k q hq]
    · exact cmb_len d (lo + 1) (k + 1) l h
/-- one behind the other by nextC, z behind the last -/
def Chain (n : Nat) : List Nat → List (List Nat) → Option (List Nat) → Prop
  | x, [], z => nextC n x = z
  | x, y :: l, z => nextC n x = some y ∧ Chain n y l z
theorem chain_app {n : Nat} {z : Option (List Nat)} {y : List Nat} {m : List (List Nat)} : ∀ {x : List Nat} {l : List (List Nat)}, Chain n x l (some y) → Chain n y m z → Chain n x (l ++ y :: m) z
  | _, [], h, h2 => ⟨h, h2⟩
  | _, _ :: _, h, h2 => ⟨h.1, chain_app h.2 h2⟩
theorem range_rev (k : Nat) : (List.range (k + 1)).reverse = ((List.range k).map (· + 1)).reverse ++ [0] := by
  rw [List.range_succ_eq_map, List.reverse_cons]
/-- one more ahead -/
theorem next_cons {n : Nat} (a : Nat) (q : List Nat) (hn : q.length < n) : nextC n (a :: q) = match nextC n q with
    | some q' => some (a :: q')
    | none => if a = n - (q.length + 1) then none else some ((List.range (q.length + 1)).map (a + 1 + ·)) := by
  have e1 : (List.range (a :: q).length).reverse.find? (fun i => (a :: q).getD i 0 != i + n - (a :: q).length) =
      match (List.range q.length).reverse.find? (fun i => q.getD i 0 != i + n - q.length) with
      | some i => some (i + 1)
      | none => if a = n - (q.length + 1) then none else some 0 := by
    rw [List.length_cons, range_rev, List.find?_append, ← List.map_reverse, List.find?_map]
    have e2 : ((fun i => (a :: q).getD i 0 != i + n - (q.length + 1)) ∘ fun x => x + 1) = fun i => q.getD i 0 != i + n - q.length := by
      funext i
      show ((a :: q).getD (i + 1) 0 != i + 1 + n - (q.length + 1)) = _
      rw [List.getD_cons_succ, show i + 1 + n - (q.length + 1) = i + n - q.length by omega]
    rw [e2]
    cases (List.range q.length).reverse.find? (fun i => q.getD i 0 != i + n - q.length) with
    | some i => rfl
    | none =>
      show ((none : Option Nat).or _) = _
      rw [Option.none_or, List.find?_cons]
      show (match ((a :: q).getD 0 0 != 0 + n - (q.length + 1)) with | true => some 0 | false => List.find? _ []) = _
      rw [List.getD_cons_zero, Nat.zero_add]
      by_cases h : a = n - (q.length + 1)
      · rw [if_pos h, show (a != n - (q.length + 1)) = false from by simp [h]]
        rfl
      · rw [if_neg h, show (a != n - (q.length + 1)) = true from by simp [h]]
  unfold nextC
  rw [e1]
  cases hq : (List.range q.length).reverse.find? (fun i => q.getD i 0 != i + n - q.length) with
  | some i =>
    show some ((a :: q).take (i + 1) ++ (List.range ((a :: q).length - (i + 1))).map ((a :: q).getD (i + 1) 0 + 1 + ·)) = some (a :: (q.take i ++ (List.range (q.length - i)).map (q.getD i 0 + 1 + ·)))
    rw [List.take_succ_cons, List.getD_cons_succ, List.length_cons, show q.length + 1 - (i + 1) = q.length - i by omega]
    rfl
  | none =>
    by_cases h : a = n - (q.length + 1)
    · show (match (if a = n - (q.length + 1) then none else some 0) with | none => none | some i => _) = if a = n - (q.length + 1) then none else _
      rw [if_pos h, if_pos h]
    · show (match (if a = n - (q.length + 1) then none else some 0) with | none => none | some i => some ((a :: q).take i ++ (List.range ((a :: q).length - i)).map ((a :: q).getD i 0 + 1 + ·))) = if a = n - (q.length + 1) then none else _
      rw [if_neg h, if_neg h]
      rfl
theorem chain_map {n k : Nat} (a : Nat) (hk : k < n) : ∀ {x : List Nat} {l : List (List Nat)}, x.length = k → (∀ y ∈ l, y.length = k) → Chain n x l none → Chain n (a :: x) (l.map (a :: ·)) (if a = n - (k + 1) then none else some ((List.range (k + 1)).map (a + 1 + ·)))
  | x, [], hx, _, h => by
    show nextC n (a :: x) = _
    rw [next_cons a x (by omega), show nextC n x = none from h, hx]
  | x, y :: l, hx, hl, h => by
    refine ⟨?_, chain_map a hk (hl y (List.mem_cons_self ..)) (fun z hz => hl z (List.mem_cons_of_mem _ hz)) h.2⟩
    rw [next_cons a x (by omega), h.1]
theorem cmb_chain : ∀ (d lo k : Nat), k ≤ d → ∃ r, cmb d lo k = ((List.range k).map (lo + ·)) :: r ∧ Chain (lo + d) ((List.range k).map (lo + ·)) r none
  | d, lo, 0, _ => ⟨[], cmb_zero d lo, rfl⟩
  | 0, lo, k + 1, h => absurd h (by omega)
  | d + 1, lo, k + 1, h => by
    obtain ⟨r, e, c⟩ := cmb_chain d (lo + 1) k (by omega)
    have hl := cmb_len d (lo + 1) k
    rw [e] at hl
    have e0 : lo :: (List.range k).map (lo + 1 + ·) = (List.range (k + 1)).map (lo + ·) := by
      rw [List.range_succ_eq_map, List.map_cons, List.map_map, Nat.add_zero]
      congr 1
      exact List.map_congr_left fun i _ => by show lo + 1 + i = lo + (i + 1); omega
    rw [show lo + 1 + d = lo + (d + 1) by omega] at c
    have c1 := chain_map (n := lo + (d + 1)) lo (by omega) (hl _ (List.mem_cons_self ..)) (fun y hy => hl y (List.mem_cons_of_mem _ hy)) c
    rw [e0] at c1
    by_cases hd : k = d
    · subst hd
      refine ⟨r.map (lo :: ·), ?_, ?_⟩
      · show (cmb k (lo + 1) k).map (lo :: ·) ++ cmb k (lo + 1) (k + 1) = _
        rw [cmb_big k (lo + 1) (k + 1) (by omega), List.append_nil, e, List.map_cons, e0]
      · rw [if_pos (by omega)] at c1
        exact c1
    · obtain ⟨r2, e2, c2⟩ := cmb_chain d (lo + 1) (k + 1) (by omega)
      rw [if_neg (by omega)] at c1
      rw [show lo + 1 + d = lo + (d + 1) by omega] at c2
      refine ⟨r.map (lo :: ·) ++ ((List.range (k + 1)).map (lo + 1 + ·)) :: r2, ?_, chain_app c1 c2⟩
      show (cmb d (lo + 1) k).map (lo :: ·) ++ cmb d (lo + 1) (k + 1) = _
      rw [e, e2, List.map_cons, e0]
      rfl
end Lk.Cb
namespace Lk.Cb
theorem cmb_lt : ∀ (d lo k : Nat), ∀ l ∈ cmb d lo k, ∀ i ∈ l, lo ≤ i ∧ i < lo + d
  | d, lo, 0, l, h, i, hi => by
    rw [cmb_zero] at h
    rw [List.mem_singleton.mp h] at hi
    cases hi
  | 0, lo, k + 1, l, h, i, hi => by cases h
  | d + 1, lo, k + 1, l, h, i, hi => by
    rcases List.mem_append.mp h with h | h
    · obtain ⟨q, hq, rfl⟩ := List.mem_map.mp h
      rcases List.mem_cons.mp hi with e | hi
      · subst e
        omega
      · have := cmb_lt d (lo + 1) k q hq i hi
        omega
    · have := cmb_lt d (lo + 1) (k + 1) l h i hi
      omega
end Lk.Cb

/-! ## Kl1 -/
set_option Elab.async false
set_option linter.all false
set_option maxRecDepth 100000
set_option maxHeartbeats 2000000
/-! All lots of so many things, smaller ones first, then ascending. -/
namespace Lk
open PySem PySem.Spec PyProof.Rows L2 Cb
/-- ascending, the first unlike place tells -/
def lexN : List Nat → List Nat → Prop
  | x :: a, y :: b => x < y ∨ (x = y ∧ lexN a b)
  | _, _ => False
theorem cmb_asc : ∀ d lo k, (cmb d lo k).Pairwise lexN
  | d, lo, 0 => by
    rw [cmb_zero]
    exact List.pairwise_singleton ..
  | 0, lo, k + 1 => .nil
  | d + 1, lo, k + 1 => by
    show ((cmb d (lo + 1) k).map (lo :: ·) ++ cmb d (lo + 1) (k + 1)).Pairwise lexN
    refine List.pairwise_append.mpr ⟨List.pairwise_map.mpr ((cmb_asc d (lo + 1) k).imp fun h => .inr ⟨rfl, h⟩), cmb_asc d (lo + 1) (k + 1), fun a ha b hb => ?_⟩
    obtain ⟨q, _, rfl⟩ := List.mem_map.mp ha
    have hl := cmb_len d (lo + 1) (k + 1) b hb
    match b, hl with
    | x :: r, _ =>
      have := (cmb_lt d (lo + 1) (k + 1) (x :: r) hb x (List.mem_cons_self ..)).1
      exact .inl (by omega)
theorem mem_cmb : ∀ {d lo k : Nat} {l : List Nat}, l ∈ cmb d lo k ↔ l.length = k ∧ l.Pairwise (· < ·) ∧ ∀ i ∈ l, lo ≤ i ∧ i < lo + d
  | d, lo, 0, l => by
    rw [cmb_zero, List.mem_singleton]
    constructor
    · rintro rfl
      exact ⟨rfl, .nil, fun i h => by cases h⟩
    · rintro ⟨h, _⟩
      exact List.eq_nil_of_length_eq_zero h
  | 0, lo, k + 1, l => by
    constructor
    · intro h
      cases h
    · rintro ⟨h, _, h2⟩
      match l, h with
      | x :: r, _ =>
        have := h2 x (List.mem_cons_self ..)
        omega
  | d + 1, lo, k + 1, l => by
    show l ∈ (cmb d (lo + 1) k).map (lo :: ·) ++ cmb d (lo + 1) (k + 1) ↔ _
    rw [List.mem_append, List.mem_map]
    constructor
    · rintro (⟨q, hq, rfl⟩ | h)
      · obtain ⟨h1, h2, h3⟩ := mem_cmb.mp hq
        refine ⟨by rw [List.length_cons, h1], List.pairwise_cons.mpr ⟨fun i hi => by have := h3 i hi; omega, h2⟩, fun i hi => ?_⟩
        rcases List.mem_cons.mp hi with e | hi
        · omega
        · have := h3 i hi
          omega
      · obtain ⟨h1, h2, h3⟩ := mem_cmb.mp h
        exact ⟨h1, h2, fun i hi => by have := h3 i hi; omega⟩
    · rintro ⟨h1, h2, h3⟩
      match l, h1 with
      | x :: r, h1 =>
        obtain ⟨a1, a2⟩ := List.pairwise_cons.mp h2
        have hx := h3 x (List.mem_cons_self ..)
        by_cases e : x = lo
        · subst e
          exact .inl ⟨r, mem_cmb.mpr ⟨by simpa using h1, a2, fun i hi => by have := a1 i hi; have := h3 i (List.mem_cons_of_mem _ hi); omega⟩, rfl⟩
        · refine .inr (mem_cmb.mpr ⟨h1, h2, fun i hi => ?_⟩)
          have q := h3 i hi
          rcases List.mem_cons.mp hi with e2 | hi
          · omega
          · have := a1 i hi
            omega
/-- all lots of n things -/
def allLots (n : Nat) : List (List Nat) := (List.range (n + 1)).flatMap fun k => cmb n 0 k
theorem mem_lots {n : Nat} {l : List Nat} : l ∈ allLots n ↔ l.Pairwise (· < ·) ∧ ∀ i ∈ l, i < n := by
  unfold allLots
  rw [List.mem_flatMap]
  constructor
  · rintro ⟨k, _, h⟩
    obtain ⟨_, h2, h3⟩ := mem_cmb.mp h
    exact ⟨h2, fun i hi => by have := h3 i hi; omega⟩
  · rintro ⟨h1, h2⟩
    have hm : l ∈ cmb n 0 l.length := mem_cmb.mpr ⟨rfl, h1, fun i hi => by have := h2 i hi; omega⟩
    refine ⟨l.length, List.mem_range.mpr ?_, hm⟩
    rcases Nat.lt_or_ge n l.length with h | h
    · rw [cmb_big n 0 _ h] at hm
      cases hm
    · omega
/-- smaller ones first, then ascending -/
def kltN (a b : List Nat) : Prop := a.length < b.length ∨ (a.length = b.length ∧ lexN a b)
theorem lots_asc (n : Nat) : (allLots n).Pairwise kltN := by
  unfold allLots
  refine List.pairwise_flatMap.mpr ⟨fun k _ => ?_, ?_⟩
  · refine (cmb_asc n 0 k).imp_of_mem fun {a b} ha hb h => .inr ⟨?_, h⟩
    rw [cmb_len n 0 k a ha, cmb_len n 0 k b hb]
  · refine List.pairwise_lt_range.imp fun {i j} hij a ha b hb => .inl ?_
    rw [cmb_len n 0 i a ha, cmb_len n 0 j b hb]
    exact hij
theorem lexN_irrefl : ∀ a : List Nat, ¬ lexN a a
  | [], h => h
  | x :: a, h => by
    rcases h with h | ⟨_, h⟩
    · omega
    · exact lexN_irrefl a h
theorem klt_irrefl (a : List Nat) : ¬ kltN a a := fun h => by
  rcases h with h | ⟨_, h⟩
  · omega
  · exact lexN_irrefl a h
theorem lots_nodup (n : Nat) : (allLots n).Nodup := (lots_asc n).imp fun {a b} (h : kltN a b) (e : a = b) => klt_irrefl b (by rw [e] at h; exact h)
/-- one thing more at a time -/
def subsN : Nat → List (List Nat)
  | 0 => [[]]
  | n + 1 => subsN n ++ (subsN n).map (· ++ [n])
theorem mem_subs : ∀ {n : Nat} {l : List Nat}, l ∈ subsN n ↔ l.Pairwise (· < ·) ∧ ∀ i ∈ l, i < n
  | 0, l => by
    show l ∈ [[]] ↔ _
    rw [List.mem_singleton]
    constructor
    · rintro rfl
      exact ⟨.nil, fun i h => by cases h⟩
    · rintro ⟨_, h⟩
      match l, h with
      | [], _ => rfl
      | x :: r, h =>
        have := h x (List.mem_cons_self ..)
        omega
  | n + 1, l => by
    show l ∈ subsN n ++ (subsN n).map (· ++ [n]) ↔ _
    rw [List.mem_append, List.mem_map]
    constructor
    · rintro (h | ⟨q, hq, rfl⟩)
      · obtain ⟨h1, h2⟩ := mem_subs.mp h
        exact ⟨h1, fun i hi => by have := h2 i hi; omega⟩
      · obtain ⟨h1, h2⟩ := mem_subs.mp hq
        refine ⟨List.pairwise_append.mpr ⟨h1, List.pairwise_singleton .., fun a ha b hb => ?_⟩, fun i hi => ?_⟩
        · rw [List.mem_singleton.mp hb]
          exact h2 a ha
        · rcases List.mem_append.mp hi with h | h
          · have := h2 i h
            omega
          · rw [List.mem_singleton.mp h]
            omega
    · rintro ⟨h1, h2⟩
      rcases List.eq_nil_or_concat l with e | ⟨r, x, e⟩
      · rw [e]
        exact .inl (mem_subs.mpr ⟨.nil, fun i h => by cases h⟩)
      · rw [List.concat_eq_append] at e
        subst e
        obtain ⟨a1, _, a3⟩ := List.pairwise_append.mp h1
        have hx := h2 x (by simp)
        have hr : ∀ i ∈ r, i < x := fun i hi => a3 i hi x (by simp)
        by_cases e : x = n
        · subst e
          exact .inr ⟨r, mem_subs.mpr ⟨a1, hr⟩, rfl⟩
        · refine .inl (mem_subs.mpr ⟨h1, fun i hi => ?_⟩)
          rcases List.mem_append.mp hi with h | h
          · have := hr i h
            omega
          · rw [List.mem_singleton.mp h]
            omega
theorem subs_nodup : ∀ n : Nat, (subsN n).Nodup
  | 0 => List.pairwise_singleton ..
  | n + 1 => by
    show (subsN n ++ (subsN n).map (· ++ [n])).Nodup
    refine List.nodup_append.mpr ⟨subs_nodup n, List.pairwise_map.mpr ((subs_nodup n).imp fun {a b} h e => h (List.append_cancel_right e)), fun a ha b hb e => ?_⟩
    obtain ⟨q, _, rfl⟩ := List.mem_map.mp hb
    have := (mem_subs.mp ha).2 n (by rw [e]; simp)
    omega
theorem subs_len : ∀ n : Nat, (subsN n).length = 2 ^ n
  | 0 => rfl
  | n + 1 => by
    show (subsN n ++ (subsN n).map (· ++ [n])).length = _
    rw [List.length_append, List.length_map, subs_len n, Nat.pow_succ]
    omega
theorem subs_perm (n : Nat) : (subsN n).Perm (allLots n) := (List.perm_ext_iff_of_nodup (subs_nodup n) (lots_nodup n)).mpr fun l => by rw [mem_subs, mem_lots]
theorem lots_len (n : Nat) : (allLots n).length = 2 ^ n := by rw [← (subs_perm n).length_eq, subs_len]
theorem cmb_few (n k : Nat) : (cmb n 0 k).length ≤ 2 ^ n := by
  rcases Nat.lt_or_ge n k with h | h
  · rw [cmb_big n 0 k h]
    exact Nat.zero_le _
  · rw [← lots_len n]
    unfold allLots
    have : (cmb n 0 k).Sublist ((List.range (n + 1)).flatMap fun k => cmb n 0 k) := by
      obtain ⟨a, b, e⟩ := List.append_of_mem (List.mem_range.mpr (show k < n + 1 by omega))
      rw [e, List.flatMap_append, List.flatMap_cons]
      exact (List.sublist_append_left ..).trans (List.sublist_append_right ..)
    exact this.length_le
/-- as ints -/
def lotI (l : List Nat) : List Int := l.map fun i : Nat => (i : Int)
theorem lotI_inj {a b : List Nat} (h : lotI a = lotI b) : a = b := List.map_inj_right (fun _ _ e => Int.ofNat.inj e) |>.mp h
theorem lotI_len (l : List Nat) : (lotI l).length = l.length := List.length_map ..
theorem lotI_toks : ∀ {a b : List Nat}, lexN a b → PyProof.Rows.lexLt PyProof.Rows.itemOrd (PySem.W.keyToksAll ((lotI a).map PyData.int)) (PySem.W.keyToksAll ((lotI b).map PyData.int)) = true
  | x :: a, y :: b, h => by
    show PyProof.Rows.lexLt PyProof.Rows.itemOrd (.inl 1 :: .inl (x : Int) :: PySem.W.keyToksAll ((lotI a).map PyData.int)) (.inl 1 :: .inl (y : Int) :: PySem.W.keyToksAll ((lotI b).map PyData.int)) = true
    refine PyProof.Rows.lex_true.mpr (.inr ⟨rfl, PyProof.Rows.lex_true.mpr ?_⟩)
    rcases h with h | ⟨e, h⟩
    · exact .inl (show decide ((x : Int) < y) = true from decide_eq_true (by omega))
    · exact .inr ⟨show decide ((y : Int) < x) = false from decide_eq_false (by omega), lotI_toks h⟩
  | [], _, h => h.elim
  | _ :: _, [], h => h.elim
theorem ints_inj : ∀ {a b : List Int}, PySem.W.keyToksAll (a.map PyData.int) = PySem.W.keyToksAll (b.map PyData.int) → a = b
  | [], [], _ => rfl
  | x :: a, y :: b, h => by
    have h : (Sum.inl 1 :: Sum.inl x :: PySem.W.keyToksAll (a.map PyData.int) : List (Int ⊕ List Nat)) = .inl 1 :: .inl y :: PySem.W.keyToksAll (b.map PyData.int) := h
    have h1 := (List.cons.inj (List.cons.inj h).2)
    rw [Sum.inl.inj h1.1, ints_inj h1.2]
  | [], _ :: _, h => by
    have h : (Sum.inl 0 :: [] : List (Int ⊕ List Nat)) = .inl 1 :: _ := h
    cases h
  | _ :: _, [], h => by
    have h : (Sum.inl 1 :: _ : List (Int ⊕ List Nat)) = .inl 0 :: [] := h
    cases h
variable [Own]
theorem key_lt (a b : List Int) : PySem.W.dataLt (keyD a) (keyD b) = if a.length = b.length then (if a = b then false else PySem.W.dataLt (dI a) (dI b)) else decide ((a.length : Int) < b.length) := by
  unfold keyD
  rw [PySem.W.dataLt_pair (by simp [PySem.W.alike]) (by simp only [PySem.W.alike]; exact PySem.W.alike_ints _ _), eqv_ii, PySem.W.dataLt_int]
  have e2 : PyData.eqv (.tuple (a.map .int)) (.tuple (b.map .int)) = decide (a = b) := eqv_tt a b
  rw [e2]
  by_cases h : a.length = b.length
  · rw [if_pos (decide_eq_true (by omega)), if_pos h]
    by_cases e : a = b
    · rw [if_pos (decide_eq_true e), if_pos e]
    · rw [if_neg (by rw [decide_eq_false e]; decide), if_neg e]
  · rw [if_neg (by rw [decide_eq_false (by omega)]; decide), if_neg h]
theorem key_le {a b : List Nat} (h : kltN a b) : PySem.W.dataLe false keyD (lotI a) (lotI b) = true := by
  show (!PySem.W.dataLt (keyD (lotI b)) (keyD (lotI a))) = true
  rw [key_lt, lotI_len, lotI_len]
  rcases h with h | ⟨e, h⟩
  · rw [if_neg (by omega), decide_eq_false (by omega)]
    rfl
  · rw [if_pos e.symm]
    by_cases e2 : lotI b = lotI a
    · rw [if_pos e2]
      rfl
    · rw [if_neg e2, Bool.not_eq_true', ← Bool.not_eq_true]
      intro z
      have z : PyProof.Rows.lexLt PyProof.Rows.itemOrd (PySem.W.keyToksAll ((lotI b).map PyData.int)) (PySem.W.keyToksAll ((lotI a).map PyData.int)) = true := z
      have := PyProof.Rows.lex_trans _ _ _ z (lotI_toks h)
      rw [PyProof.Rows.lex_irrefl] at this
      cases this
theorem key_anti {a b : List Int} (h1 : PySem.W.dataLe false keyD a b = true) (h2 : PySem.W.dataLe false keyD b a = true) : a = b := by
  have h1 : (!PySem.W.dataLt (keyD b) (keyD a)) = true := h1
  have h2 : (!PySem.W.dataLt (keyD a) (keyD b)) = true := h2
  rw [Bool.not_eq_true', key_lt] at h1 h2
  by_cases e : a.length = b.length
  · rw [if_pos e.symm] at h1
    rw [if_pos e] at h2
    by_cases e2 : a = b
    · exact e2
    · rw [if_neg (fun z => e2 z.symm)] at h1
      rw [if_neg e2] at h2
      have h1 : PyProof.Rows.lexLt PyProof.Rows.itemOrd (PySem.W.keyToksAll (b.map PyData.int)) (PySem.W.keyToksAll (a.map PyData.int)) = false := h1
      have h2 : PyProof.Rows.lexLt PyProof.Rows.itemOrd (PySem.W.keyToksAll (a.map PyData.int)) (PySem.W.keyToksAll (b.map PyData.int)) = false := h2
      exact ints_inj (PyProof.Rows.lex_total _ _ h2 h1)
  · rw [if_neg (fun z => e z.symm)] at h1
    rw [if_neg e] at h2
    have a1 := of_decide_eq_false h1
    have a2 := of_decide_eq_false h2
    omega
/-- the law's lots are all lots, smaller ones first, then ascending -/
theorem lots_sorted (n : Nat) : sortKL ((subsN n).map lotI) = (allLots n).map lotI := by
  unfold sortKL
  refine List.Perm.eq_of_pairwise (le := fun a b => PySem.W.dataLe false keyD a b = true) (fun a b _ _ h1 h2 => key_anti h1 h2) (PySem.W.sort_pairwise (PySem.W.sortLe_total _ _ _) _) (List.pairwise_map.mpr ((lots_asc n).imp key_le)) ?_
  exact (List.mergeSort_perm ..).trans ((subs_perm n).map _)
end Lk

/-! ## MinD -/
set_option Elab.async false
set_option linter.all false
set_option maxRecDepth 100000
set_option maxHeartbeats 2000000
/-! min of a list of (a number, a number, a tuple of numbers). -/
namespace Lk
open PySem PySem.Spec PyProof.Rows L2 Gx
/-- such a triple, as data -/
def key3 (r : Int × Int × List Int) : PyData := .tuple [.int r.1, .int r.2.1, .tuple (r.2.2.map .int)]
theorem lt3_irrefl (x : PyData) : PySem.W.dataLt x x = false := PyProof.Rows.lex_irrefl _
theorem minD_least : ∀ (xs : List PyData) (x : PyData), PySem.W.minD x xs ∈ x :: xs ∧ ∀ y ∈ x :: xs, PySem.W.dataLt y (PySem.W.minD x xs) = false := by
  suffices h : ∀ (xs seen : List PyData) (a : PyData), a ∈ seen → (∀ y ∈ seen, PySem.W.dataLt y a = false) → PySem.W.minD a xs ∈ seen ++ xs ∧ ∀ y ∈ seen ++ xs, PySem.W.dataLt y (PySem.W.minD a xs) = false by
    intro xs x
    exact h xs [x] x (List.mem_singleton.mpr rfl) fun y hy => by rw [List.mem_singleton.mp hy]; exact lt3_irrefl _
  intro xs
  induction xs with
  | nil =>
    intro seen a ha hs
    rw [List.append_nil]
    exact ⟨ha, hs⟩
  | cons y xs ih =>
    intro seen a ha hs
    have e : seen ++ y :: xs = (seen ++ [y]) ++ xs := by rw [List.append_assoc] <;> rfl
    rw [e]
    show PySem.W.minD (if PySem.W.dataLt y a = true then y else a) xs ∈ _ ∧ ∀ z ∈ _, PySem.W.dataLt z (PySem.W.minD (if PySem.W.dataLt y a = true then y else a) xs) = false
    refine ih (seen ++ [y]) _ ?_ ?_
    · by_cases h : PySem.W.dataLt y a = true
      · rw [if_pos h]
        exact List.mem_append_right _ (List.mem_singleton.mpr rfl)
      · rw [if_neg h]
        exact List.mem_append_left _ ha
    · intro z hz
      by_cases h : PySem.W.dataLt y a = true
      · rw [if_pos h]
        rcases List.mem_append.mp hz with q | q
        · have := hs z q
          rw [← Bool.not_eq_true]
          intro w
          have t := PyProof.Rows.lex_trans _ _ _ w h
          unfold PySem.W.dataLt at this
          rw [t] at this
          cases this
        · rw [List.mem_singleton.mp q]
          exact lt3_irrefl _
      · rw [if_neg h]
        rcases List.mem_append.mp hz with q | q
        · exact hs z q
        · rw [List.mem_singleton.mp q]
          simpa using h
variable [Own]
theorem lt3 (x y : Int × Int × List Int) : PySem.W.dataLt (key3 x) (key3 y) = if x.1 = y.1 then (if x.2.1 = y.2.1 then PySem.W.dataLt (.tuple [.tuple (x.2.2.map .int)]) (.tuple [.tuple (y.2.2.map .int)]) else decide (x.2.1 < y.2.1)) else decide (x.1 < y.1) := by
  unfold key3
  rw [PySem.W.dataLt_tuple, PySem.W.dataLt_cons (by simp [PySem.W.alike]), PySem.W.dataLt_cons (by simp [PySem.W.alike]), PySem.W.dataLt_int, PySem.W.dataLt_int, eqv_ii, eqv_ii, PySem.W.dataLt_tuple]
  by_cases h1 : x.1 = y.1
  · rw [if_pos (decide_eq_true h1), if_pos h1]
    by_cases h2 : x.2.1 = y.2.1
    · rw [if_pos (decide_eq_true h2), if_pos h2]
    · rw [if_neg (by rw [decide_eq_false h2]; decide), if_neg h2]
  · rw [if_neg (by rw [decide_eq_false h1]; decide), if_neg h1]
/-- the number first, then how many, then the order -/
def trip (g : List Int → Int) (l : List Nat) : Int × Int × List Int := (g (lotI l), (l.length : Int), lotI l)
theorem trip_lt {g : List Int → Int} {a b : List Nat} (e : g (lotI a) = g (lotI b)) (h : kltN a b) : PySem.W.dataLt (key3 (trip g a)) (key3 (trip g b)) = true := by
  rw [lt3]
  unfold trip
  rw [if_pos e]
  rcases h with h | ⟨e2, h⟩
  · rw [if_neg (by show ¬ ((a.length : Int) = b.length); omega)]
    exact decide_eq_true (by show (a.length : Int) < b.length; omega)
  · rw [if_pos (by show (a.length : Int) = b.length; omega), PySem.W.dataLt_tuple, PySem.W.dataLt_cons (by simp only [PySem.W.alike]; exact PySem.W.alike_ints _ _)]
    have z := lotI_toks h
    have ne : PyData.eqv (.tuple ((lotI a).map .int)) (.tuple ((lotI b).map .int)) = false := by
      rw [show PyData.eqv (.tuple ((lotI a).map .int)) (.tuple ((lotI b).map .int)) = decide (lotI a = lotI b) from eqv_tt _ _]
      refine decide_eq_false fun q => ?_
      rw [q, PyProof.Rows.lex_irrefl] at z
      cases z
    show (if PyData.eqv (.tuple ((lotI a).map .int)) (.tuple ((lotI b).map .int)) = true then _ else PySem.W.dataLt (.tuple ((lotI a).map .int)) (.tuple ((lotI b).map .int))) = true
    rw [ne, if_neg (by decide), PySem.W.dataLt_tuple]
    exact z
/-- the least triple: the least number, the first lot that has it -/
theorem trip_least {g : List Int → Int} {L : List (List Nat)} (hL : L.Pairwise kltN) {l : List Nat} (hl : l ∈ L) (hm : ∀ k ∈ L, PySem.W.dataLt (key3 (trip g k)) (key3 (trip g l)) = false) : (∀ k ∈ L, g (lotI l) ≤ g (lotI k)) ∧ (L.filter fun k => g (lotI k) == g (lotI l)).head? = some l := by
  constructor
  · intro k hk
    have := hm k hk
    rw [lt3] at this
    by_cases e : (trip g k).1 = (trip g l).1
    · have e : g (lotI k) = g (lotI l) := e
      omega
    · rw [if_neg e] at this
      have : ¬ (g (lotI k) < g (lotI l)) := of_decide_eq_false this
      omega
  · have hmem : l ∈ L.filter fun k => g (lotI k) == g (lotI l) := List.mem_filter.mpr ⟨hl, beq_self_eq_true _⟩
    have hp : (L.filter fun k => g (lotI k) == g (lotI l)).Pairwise kltN := hL.filter _
    cases e : L.filter fun k => g (lotI k) == g (lotI l) with
    | nil => rw [e] at hmem; cases hmem
    | cons k r =>
      rw [e] at hmem hp
      rcases List.mem_cons.mp hmem with q | q
      · rw [q] <;> rfl
      · have hk : k ∈ L.filter fun k => g (lotI k) == g (lotI l) := by rw [e]; exact List.mem_cons_self ..
        obtain ⟨h1, h2⟩ := List.mem_filter.mp hk
        have z := trip_lt (beq_iff_eq.mp h2) ((List.pairwise_cons.mp hp).1 l q)
        rw [hm k h1] at z
        cases z
/-- such a triple in the heap -/
def TrI : Hp → V → Int × Int × List Int → Prop := fun H v r => ∃ p q, v = .ref p ∧ H p = some (.tup [.int r.1, .int r.2.1, .ref q]) ∧ H q = some (.tup (iv r.2.2))
theorem TrI.dp {K : PySem.W.Frag} {H : Hp} {v : V} {r : Int × Int × List Int} (h : TrI H v r) : Dp K H v (key3 r) := by
  obtain ⟨p, q, rfl, h1, h2⟩ := h
  exact .tup (SqT.of h1) (.cons (.int _) (.cons (.int _) (.cons (Lk.TI.dp ⟨q, rfl, h2⟩) .nil)))
theorem triple_dps {K : PySem.W.Frag} {H : Hp} : ∀ {xs : List V} {rows : List (Int × Int × List Int)}, Paired (TrI H) xs rows → DpAll K H xs (rows.map key3)
  | _, _, .nil => .nil
  | _, _, .cons h t => .cons h.dp (triple_dps t)
theorem depth3 : ∀ rows : List (Int × Int × List Int), PyData.depthAll (rows.map key3) ≤ 3
  | [] => Nat.zero_le _
  | r :: rows => by
    show max (key3 r).depth (PyData.depthAll (rows.map key3)) ≤ 3
    refine Nat.max_le.mpr ⟨?_, depth3 rows⟩
    unfold key3
    simp only [PyData.depth, PyData.depthAll, depth_ints]
    decide
def rMinM : List V → Hp → VK → Prop := fun vs H Q => ∃ (a : Addr) (xs : List V) (rows : List (Int × Int × List Int)), vs = [.ref a] ∧ H a = some (.lst xs) ∧ Paired (TrI H) xs rows ∧ rows ≠ [] ∧
  ∀ v r, r ∈ rows → TrI H v r → (∀ y ∈ rows, PySem.W.dataLt (key3 y) (key3 r) = false) → Q v H
theorem key3_inj {x y : Int × Int × List Int} (h : key3 x = key3 y) : x = y := by
  obtain ⟨a, b, c⟩ := x
  obtain ⟨a', b', c'⟩ := y
  unfold key3 at h
  injection h with h
  injection h with h1 h
  injection h with h2 h
  injection h with h3 h
  injection h1 with h1
  injection h2 with h2
  injection h3 with h3
  have : c = c' := (List.map_inj_right (f := PyData.int) fun x y e => by injection e).mp h3
  rw [show a = a' from h1, show b = b' from h2, this]
theorem triple_reads {X : Cx} {pins : List (Addr × Obj)} {σ : L2.St} {H : Hp} {s : Shared} (I : Inv X pins σ H s) : ∀ {xs : List V} {its : List Value} {rows : List (Int × Int × List Int)}, Paired (TrI H) xs rows → Vals xs its → ∃ as, ReadsAll s.heap its (rows.map key3) as
  | _, _, _, .nil, .nil => ⟨_, .nil⟩
  | _, _, _, .cons h t, .cons r rs => by
    obtain ⟨as, h1⟩ := Dp.reads I _ _ _ h.dp r
    obtain ⟨bs, h2⟩ := triple_reads I t rs
    exact ⟨_, .cons h1 h2⟩
theorem cr_minM {X : Cx} (hc : X.calm = true) (hu : X.A.units + 64 < cLine) : CallR X (.builtin "min") rMinM := by
  intro pins s σ H vs us Q I r h
  obtain ⟨a, xs, rows, rfl, ha, hp, hne, q⟩ := h
  obtain ⟨its, rv, hl, hz⟩ := I.list (SqL.of ha)
  rw [Vals.ref1 r]
  obtain ⟨as, hr⟩ := triple_reads I hp rv
  have hk3 : ∀ x ∈ rows.map key3, ∃ y, x = key3 y := fun x hx => by
    obtain ⟨y, _, e⟩ := List.mem_map.mp hx
    exact ⟨y, e.symm⟩
  cases rows with
  | nil => exact absurd rfl hne
  | cons r0 rows =>
    refine PySem.W.min_list_data (I.ok.hd hc) hl.isList (x := key3 r0) (xs := rows.map key3) hr ⟨fun x hx y hy => ?_, fun x hx => ?_⟩ ?_ fun i v h' tk bs hv hrd hk => ?_
    · obtain ⟨x, rfl⟩ := hk3 x hx
      obtain ⟨y, rfl⟩ := hk3 y hy
      unfold key3
      simp only [PySem.W.alike, PySem.W.alikeAll, Bool.true_and, Bool.and_true]
      exact PySem.W.alike_ints _ _
    · obtain ⟨x, rfl⟩ := hk3 x hx
      intro z
      cases z
    · have := depth3 (r0 :: rows)
      rw [List.map_cons] at this
      omega
    · have hv' : its[i]? = some v := by simpa using hv
      have hi := (List.getElem?_eq_some_iff.mp hv').1
      have hlen := rv.length
      have hx : xs[i]? = some xs[i] := List.getElem?_eq_getElem (by omega)
      obtain ⟨u, hu, ru⟩ := rv.get hx
      rw [hv'] at hu
      cases hu
      obtain ⟨row, hrow, ht⟩ := paired_get' hp hx
      obtain ⟨bs2, hrd2⟩ := Dp.reads I _ _ _ ht.dp ru
      have ek := (PyProof.Rows.reads_det (fun b o e _ => hk b o e) hrd2 hrd).1
      obtain ⟨m1, m2⟩ := minD_least (rows.map key3) (key3 r0)
      rw [ek] at m2
      refine ⟨xs[i], H, I.kept (t' := tk) fun b u e => hk b u e, ru, q _ row (List.mem_of_getElem? hrow) ht fun y hy => ?_⟩
      refine m2 _ ?_
      rw [← List.map_cons]
      exact List.mem_map.mpr ⟨y, hy, rfl⟩
end Lk

/-! ## SortNP -/
set_option Elab.async false
set_option linter.all false
set_option maxRecDepth 100000
set_option maxHeartbeats 2000000
/-! sorted of a list of (an int, a tuple of ints): the ints don't fall. -/
namespace Lk
open PySem PySem.Spec PyProof.Rows L2 Gx
variable [Own]
abbrev NR := Int × List Int
def PrN : Hp → V → NR → Prop := fun H v r => ∃ p q, v = .ref p ∧ H p = some (.tup [.int r.1, .ref q]) ∧ H q = some (.tup (iv r.2))
def keyNR (r : NR) : PyData := .tuple [.int r.1, .tuple (r.2.map .int)]
theorem PrN.ext {H H' : Hp} (e : Ext H H') {v : V} {r : NR} (h : PrN H v r) : PrN H' v r := by
  obtain ⟨p, q, e1, h1, h2⟩ := h
  exact ⟨p, q, e1, e.tup h1, e.tup h2⟩
theorem PrN.dp {K : PySem.W.Frag} {H : Hp} {v : V} {r : NR} (h : PrN H v r) : Dp K H v (keyNR r) := by
  obtain ⟨p, q, rfl, h1, h2⟩ := h
  exact .tup (SqT.of h1) (.cons (.int _) (.cons (Lk.TI.dp ⟨q, rfl, h2⟩) .nil))
def sortNR (rows : List NR) : List NR := rows.mergeSort (PySem.W.dataLe false keyNR)
theorem sortNR_perm (rows : List NR) : (sortNR rows).Perm rows := List.mergeSort_perm ..
theorem ltNR {x y : NR} (h : x.1 < y.1) : PySem.W.dataLt (keyNR x) (keyNR y) = true := by
  unfold keyNR
  rw [PySem.W.dataLt_tuple, PySem.W.dataLt_cons (by simp [PySem.W.alike]), PySem.W.dataLt_int, eqv_ii, if_neg (by rw [decide_eq_false (by omega)]; decide)]
  exact decide_eq_true h
theorem sortNR_up (rows : List NR) : (sortNR rows).Pairwise fun a b => a.1 ≤ b.1 := by
  refine (PySem.W.sort_pairwise (PySem.W.sortLe_total _ _ _) rows).imp fun {a b} h => ?_
  refine Int.not_lt.mp fun z => ?_
  have h1 := ltNR z
  have h2 : (!PySem.W.dataLt (keyNR b) (keyNR a)) = true := h
  rw [h1] at h2
  cases h2
def rSortNR : List V → Hp → VK → Prop := fun vs H Q => ∃ (a : Addr) (xs : List V) (rows : List NR), vs = [.ref a] ∧ H a = some (.lst xs) ∧ Paired (PrN H) xs rows ∧
  ∀ p ys, H p = none → Paired (PrN H) ys (sortNR rows) → Q (.ref p) (upd H p (.lst ys))
theorem both_ofN {H : Hp} : ∀ {xs : List V} {its : List Value} {rows : List NR}, Vals xs its → Paired (PrN H) xs rows → ∃ bs : List (V × NR), bs.map (·.1) = xs ∧ bs.map (·.2) = rows ∧ PySem.W.EachIs (fun v (b : V × NR) => RelV b.1 v ∧ PrN H b.1 b.2) its bs
  | _, _, _, .nil, .nil => ⟨[], rfl, rfl, .nil⟩
  | x :: _, _, r :: _, .cons h1 t1, .cons h2 t2 => by
    obtain ⟨bs, e1, e2, e3⟩ := both_ofN t1 t2
    exact ⟨(x, r) :: bs, by rw [List.map_cons, e1], by rw [List.map_cons, e2], .cons ⟨h1, h2⟩ e3⟩
theorem of_bothN {H : Hp} : ∀ {its : List Value} {bs : List (V × NR)}, PySem.W.EachIs (fun v (b : V × NR) => RelV b.1 v ∧ PrN H b.1 b.2) its bs → Vals (bs.map (·.1)) its ∧ Paired (PrN H) (bs.map (·.1)) (bs.map (·.2))
  | _, _, .nil => ⟨.nil, .nil⟩
  | _, _, .cons h t => by
    obtain ⟨a, b⟩ := of_bothN t
    exact ⟨.cons h.1 a, .cons h.2 b⟩
theorem cr_sortNR {X : Cx} (hu : X.A.units + 64 < cLine) : CallR X (.builtin "sorted") rSortNR := by
  intro pins s σ H vs us Q I r h
  obtain ⟨a, xs, rows, rfl, ha, hp, q⟩ := h
  obtain ⟨its, rv, hl, hz⟩ := I.list (SqL.of ha)
  rw [Vals.ref1 r]
  obtain ⟨bs, e1, e2, e3⟩ := both_ofN rv hp
  refine PySem.W.sorted_data (enc := fun b : V × NR => keyNR b.2) hl.isList e3 (e3.mono fun v b hb => ?_) (PySem.W.AllAlike.of fun b b' => ?_) (.inl fun d hd => ?_) (by rw [← List.length_map (f := (·.1)), e1]; exact hz) (fun b hb => ?_) fun out hlen ho => ?_
  · exact Dp.reads I _ _ _ hb.2.dp hb.1
  · unfold keyNR
    simp only [PySem.W.alike, PySem.W.alikeAll, Bool.true_and, Bool.and_true]
    exact PySem.W.alike_ints _ _
  · obtain ⟨b, hb, rfl⟩ := List.mem_map.mp hd
    exact ⟨_, _, rfl⟩
  · show X.A.units + 2 + (keyNR b.2).depth < cLine
    unfold keyNR
    simp only [PyData.depth, PyData.depthAll, depth_ints]
    omega
  · obtain ⟨ep, he'⟩ := PyProof.Rows.sortedAll_at s.heap its out.toArray
    obtain ⟨k1, k2⟩ := of_bothN ho
    have e4 : (bs.mergeSort (PySem.W.dataLe false fun b : V × NR => keyNR b.2)).map (·.2) = sortNR rows := by
      unfold sortNR
      rw [← e2]
      exact PySem.W.sort_maps _ fun _ _ _ _ => rfl
    rw [e4] at k2
    have hl2 : ((bs.mergeSort (PySem.W.dataLe false fun b : V × NR => keyNR b.2)).map (·.1)).length ≤ sizeLine := by
      rw [List.length_map, List.length_mergeSort, ← List.length_map (f := (·.1)), e1]
      exact hz
    exact ⟨.ref _, upd H (s.heap.objs.size + 1) (.lst _), I.laid (t' := s.toks) (fun _ _ => PyProof.Rows.sortedAll_old) (Nat.le_succ _) ⟨hl2, out, ep, k1, he'⟩, rfl, q _ _ (I.hok.fresh (Nat.le_succ _)) k2⟩
end Lk

/-! ## MinP -/
set_option Elab.async false
set_option linter.all false
set_option maxRecDepth 100000
set_option maxHeartbeats 2000000
/-! min of a list of (a number, a tuple of numbers): just one row is the least. -/
namespace Lk
open PySem PySem.Spec PyProof.Rows L2 Gx
variable [Own]
/-- no row is less -/
def LeastNR (rows : List NR) (r : NR) : Prop := r ∈ rows ∧ ∀ y ∈ rows, PySem.W.dataLt (keyNR y) (keyNR r) = false
theorem NR_anti {x y : NR} (h1 : PySem.W.dataLt (keyNR x) (keyNR y) = false) (h2 : PySem.W.dataLt (keyNR y) (keyNR x) = false) : x = y := by
  have e1 : x.1 = y.1 := by
    by_cases a : x.1 < y.1
    · rw [ltNR a] at h1; cases h1
    · by_cases b : y.1 < x.1
      · rw [ltNR b] at h2; cases h2
      · omega
  obtain ⟨a, b⟩ := x
  obtain ⟨a', b'⟩ := y
  cases (show a = a' from e1)
  have key : ∀ u v : List Int, PySem.W.dataLt (keyNR (a, u)) (keyNR (a, v)) = false → u ≠ v → PySem.W.dataLt (.tuple (u.map .int)) (.tuple (v.map .int)) = false := fun u v h ne => by
    unfold keyNR at h
    rw [PySem.W.dataLt_tuple, PySem.W.dataLt_cons (by simp [PySem.W.alike]), eqv_ii, if_pos (decide_eq_true rfl), PySem.W.dataLt_cons (by simp only [PySem.W.alike]; exact PySem.W.alike_ints _ _)] at h
    rw [show PyData.eqv (.tuple (u.map .int)) (.tuple (v.map .int)) = decide (u = v) from eqv_tt _ _, decide_eq_false ne, if_neg (by decide)] at h
    exact h
  by_cases e : b = b'
  · rw [e]
  · have k1 := key b b' h1 e
    have k2 := key b' b h2 (fun z => e z.symm)
    rw [PySem.W.dataLt_tuple] at k1 k2
    exact absurd (toks_inj (PyProof.Rows.lex_total _ _ k1 k2)) e
theorem least_one {rows : List NR} {r s : NR} (h1 : LeastNR rows r) (h2 : LeastNR rows s) : r = s := NR_anti (h2.2 r h1.1) (h1.2 s h2.1)
theorem keyNR_alike (x y : NR) : PySem.W.alike (keyNR x) (keyNR y) = true := by
  unfold keyNR
  simp only [PySem.W.alike, PySem.W.alikeAll, Bool.true_and, Bool.and_true]
  exact PySem.W.alike_ints _ _
theorem nr_dps {K : PySem.W.Frag} {H : Hp} : ∀ {xs : List V} {rows : List NR}, Paired (PrN H) xs rows → DpAll K H xs (rows.map keyNR)
  | _, _, .nil => .nil
  | _, _, .cons h t => .cons h.dp (nr_dps t)
theorem depthNR : ∀ rows : List NR, PyData.depthAll (rows.map keyNR) ≤ 3
  | [] => Nat.zero_le _
  | r :: rows => by
    show max (keyNR r).depth (PyData.depthAll (rows.map keyNR)) ≤ 3
    refine Nat.max_le.mpr ⟨?_, depthNR rows⟩
    unfold keyNR
    simp only [PyData.depth, PyData.depthAll, depth_ints]
    decide
def rMinNR : List V → Hp → VK → Prop := fun vs H Q => ∃ (a : Addr) (xs : List V) (rows : List NR), vs = [.ref a] ∧ H a = some (.lst xs) ∧ Paired (PrN H) xs rows ∧ rows ≠ [] ∧
  ∀ v r, LeastNR rows r → PrN H v r → Q v H
theorem nr_reads {X : Cx} {pins : List (Addr × Obj)} {σ : L2.St} {H : Hp} {s : Shared} (I : Inv X pins σ H s) : ∀ {xs : List V} {its : List Value} {rows : List NR}, Paired (PrN H) xs rows → Vals xs its → ∃ as, ReadsAll s.heap its (rows.map keyNR) as
  | _, _, _, .nil, .nil => ⟨_, .nil⟩
  | _, _, _, .cons h t, .cons r rs => by
    obtain ⟨as, h1⟩ := Dp.reads I _ _ _ h.dp r
    obtain ⟨bs, h2⟩ := nr_reads I t rs
    exact ⟨_, .cons h1 h2⟩
theorem cr_minNR {X : Cx} (hc : X.calm = true) (hu : X.A.units + 64 < cLine) : CallR X (.builtin "min") rMinNR := by
  intro pins s σ H vs us Q I r h
  obtain ⟨a, xs, rows, rfl, ha, hp, hne, q⟩ := h
  obtain ⟨its, rv, hl, hz⟩ := I.list (SqL.of ha)
  rw [Vals.ref1 r]
  obtain ⟨as, hr⟩ := nr_reads I hp rv
  have hk3 : ∀ x ∈ rows.map keyNR, ∃ y, x = keyNR y := fun x hx => by
    obtain ⟨y, _, e⟩ := List.mem_map.mp hx
    exact ⟨y, e.symm⟩
  cases rows with
  | nil => exact absurd rfl hne
  | cons r0 rows =>
    refine PySem.W.min_list_data (I.ok.hd hc) hl.isList (x := keyNR r0) (xs := rows.map keyNR) hr ⟨fun x hx y hy => ?_, fun x hx => ?_⟩ ?_ fun i v h' tk bs hv hrd hk => ?_
    · obtain ⟨x, rfl⟩ := hk3 x hx
      obtain ⟨y, rfl⟩ := hk3 y hy
      exact keyNR_alike _ _
    · obtain ⟨x, rfl⟩ := hk3 x hx
      intro z
      cases z
    · have := depthNR (r0 :: rows)
      rw [List.map_cons] at this
      omega
    · have hv' : its[i]? = some v := by simpa using hv
      have hi := (List.getElem?_eq_some_iff.mp hv').1
      have hlen := rv.length
      have hx : xs[i]? = some xs[i] := List.getElem?_eq_getElem (by omega)
      obtain ⟨u, hu, ru⟩ := rv.get hx
      rw [hv'] at hu
      cases hu
      obtain ⟨row, hrow, ht⟩ := paired_get' hp hx
      obtain ⟨bs2, hrd2⟩ := Dp.reads I _ _ _ ht.dp ru
      have ek := (PyProof.Rows.reads_det (fun b o e _ => hk b o e) hrd2 hrd).1
      obtain ⟨m1, m2⟩ := minD_least (rows.map keyNR) (keyNR r0)
      rw [ek] at m2
      refine ⟨xs[i], H, I.kept (t' := tk) fun b u e => hk b u e, ru, q _ row ⟨List.mem_of_getElem? hrow, fun y hy => ?_⟩ ht⟩
      refine m2 _ ?_
      rw [← List.map_cons]
      exact List.mem_map.mpr ⟨y, hy, rfl⟩
end Lk

/-! ## WkB -/
set_option Elab.async false
set_option linter.all false
set_option maxRecDepth 100000
set_option maxHeartbeats 2000000
/-! Walks over a list or a tuple, whichever it is. -/
namespace Lk
open PySem PySem.Spec PyProof.Rows L2 Gx
variable [Own]
theorem walk_seq {K : PySem.W.Frag} {k : Bool} {a : Addr} {xs : List V} : Walk (itB K k a) xs.length (fun H => SqB k H a xs) (YAt xs) := by
  cases k with
  | true => exact ⟨fun i H hi q => walk_list.goes i H hi (SqL.of q), fun H q => walk_list.stops H (SqL.of q), fun i H x H' hi q y => walk_list.yields i H x H' hi (SqL.of q) y⟩
  | false => exact ⟨fun i H hi q => walk_tup.goes i H hi (SqT.of q), fun H q => walk_tup.stops H (SqT.of q), fun i H x H' hi q y => walk_tup.yields i H x H' hi (SqT.of q) y⟩
theorem paired_map {α β γ : Type} {R : α → β → Prop} {f : γ → β} : ∀ {us : List α} {hs : List γ}, Paired R us (hs.map f) → Paired (fun v h => R v (f h)) us hs
  | [], [], .nil => .nil
  | _ :: _, _ :: _, .cons r t => .cons r (paired_map t)
theorem paired_unmap {α β γ : Type} {R : α → β → Prop} {f : γ → β} : ∀ {us : List α} {hs : List γ}, Paired (fun v h => R v (f h)) us hs → Paired R us (hs.map f)
  | [], [], .nil => .nil
  | _ :: _, _ :: _, .cons r t => .cons r (paired_unmap t)
end Lk

/-! ## N1 -/
set_option Elab.async false
set_option linter.all false
set_option maxRecDepth 100000
set_option maxHeartbeats 4000000
/-! A bench: its methods, its properties. -/
namespace Lk
open PySem PySem.Spec PyProof.Rows L2 Gx
open GxR (TabG Tabbed TabB)
variable [Own]
/-- a property of a class, its promise -/
structure PCal (P : Program) (w : World) (K : PySem.W.Frag) (mg : Str → Option Value) (base : Heap) (CX : CXT) (k : Nat) (C : Addr) (f : Str) (sp : Sp) : Prop where
  ex : ∃ p g fd, PropOf K C f p g ∧ Binds K fd ["self"] [] ∧ FnOk P w K mg base CX k g fd ["self"] sp
/-- a method of a class, its promise -/
structure MCal (P : Program) (w : World) (K : PySem.W.Frag) (mg : Str → Option Value) (base : Heap) (CX : CXT) (k : Nat) (C : Addr) (m : Str) (ps : List Str) (sp : Sp) : Prop where
  ex : ∃ f fd, Meth K C m f ∧ Binds K fd ps [] ∧ FnOk P w K mg base CX k f fd ps sp
section
variable {X : Cx} {CX : CXT} {k : Nat} {C : Addr} {ps : List Str} {sp : Sp} {E : XK} {f m : Str} {pos apos : Pos} {e o : Expr} {es : List Expr} {t : TA} {ta : TE}
theorem pe_pcal (F : PCal X.prog X.w X.K X.mg X.base CX0 k C f sp) (c : Cls X.K C) (hr : Room (k + 1) X.A) (he : PE X e ta)
    (hab : attributeBase e f X.env (eval e X.env) = eval e X.env := by rfl) : PE X (.Attribute e f pos) (tProp C sp [] E0 ta) := by
  obtain ⟨p, g, fd, hp, hb, G⟩ := F.ex
  exact pe_prop he c hp G hr hb .nil pass0 hab
theorem pe_mcal {pl : Sem Bool} (F : MCal X.prog X.w X.K X.mg X.base CX k C m ps sp) (c : Cls X.K C) (hr : Room k X.A) (hx : Passes CX X E) (he : PE X o ta) (ha : PA X (e :: es) t)
    (hst : starEach (e :: es) X.env = (false, eval e X.env) :: starEach es X.env := by rfl) (hpl : (backTo pos (starEach es X.env)).any (·.1) = false := by rfl)
    (ht : eval (.Call (.Attribute o m apos) (e :: es) [] pos) X.env = (do
      let ov ← eval o X.env
      standAt apos.atName
      let (f, first) ← holding [ov] (getMethod ov m pl)
      callWith pos f first (backTo pos (starEach (e :: es) X.env)) (backToKw pos (keywordEach [] X.env))) := by rfl) :
    PE X (.Call (.Attribute o m apos) (e :: es) [] pos) (tMeth C m sp [] E ta t) := by
  obtain ⟨f, fd, hm, hb, G⟩ := F.ex
  exact pe_meth he c hm G hr hb .nil hx ha hst hpl ht
theorem pe_mcal0 {pl : Sem Bool} (F : MCal X.prog X.w X.K X.mg X.base CX k C m ps sp) (c : Cls X.K C) (hr : Room k X.A) (hx : Passes CX X E) (he : PE X o ta)
    (ht : eval (.Call (.Attribute o m apos) [] [] pos) X.env = (do
      let ov ← eval o X.env
      standAt apos.atName
      let (f, first) ← holding [ov] (getMethod ov m pl)
      callWith pos f first (backTo pos (starEach [] X.env)) (backToKw pos (keywordEach [] X.env))) := by rfl) :
    PE X (.Call (.Attribute o m apos) [] [] pos) (tMeth C m sp [] E ta tNil) := by
  obtain ⟨f, fd, hm, hb, G⟩ := F.ex
  exact pe_meth0 he c hm G hr hb .nil hx ht
end
/-- the class, as the written part tells it -/
structure BenchT (K : PySem.W.Frag) (C : Addr) : Prop where
  cl : Cls K C
  nW : NoAttr K C "_web"
  nR : NoAttr K C "_rules"
  nS : NoAttr K C "_states"
def fsB (wv rv : V) (l : Addr) : List (Str × V) := [("_web", wv), ("_rules", rv), ("_states", .ref l)]
section
variable {wv rv : V} {l : Addr}
theorem fsB_web : (fsB wv rv l).lookup ("_web" : Str) = some wv := rfl
theorem fsB_rules : (fsB wv rv l).lookup ("_rules" : Str) = some rv := rfl
theorem fsB_states : (fsB wv rv l).lookup ("_states" : Str) = some (.ref l) := rfl
theorem putB1 : putF "_web" wv [] = [(("_web" : Str), wv)] := rfl
theorem putB2 : putF "_rules" rv [(("_web" : Str), wv)] = [(("_web" : Str), wv), (("_rules" : Str), rv)] := rfl
theorem putB3 : putF "_states" (V.ref l) [(("_web" : Str), wv), (("_rules" : Str), rv)] = fsB wv rv l := rfl
end
/-- a bench at b, its states at l, the one now last -/
structure BAt (C : Addr) (H : Hp) (b l : Addr) (W : Web) (ru sts : List (List Int)) : Prop where
  ex : ∃ dx wv rv vs, H b = some (.ins C dx (fsB wv rv l)) ∧ WebAt H wv W ∧ TT2 H rv ru ∧ H l = some (.lst vs) ∧ Paired (TI H) vs sts
theorem BAt.ext {C : Addr} {H H' : Hp} {b l : Addr} {W : Web} {ru sts : List (List Int)} (h : BAt C H b l W ru sts) (e : Ext H H') : BAt C H' b l W ru sts := by
  obtain ⟨dx, wv, rv, vs, h1, h2, h3, h4, h5⟩ := h
  exact ⟨dx, wv, rv, vs, e.keep _ _ h1 rfl, h2.ext e, h3.ext e, e.lst h4, pTI.ext e h5⟩
theorem BAt.lst {C : Addr} {H : Hp} {b l : Addr} {W : Web} {ru sts : List (List Int)} (h : BAt C H b l W ru sts) : ∃ vs, H l = some (.lst vs) := by
  obtain ⟨dx, wv, rv, vs, h1, h2, h3, h4, h5⟩ := h
  exact ⟨vs, h4⟩
/-- the row of draws was written -/
theorem BAt.extB {C : Addr} {H H' : Hp} {b l r : Addr} {rs : List V} {W : Web} {ru sts : List (List Int)} (h : BAt C H b l W ru sts) (hr : H r = some (.lst rs)) (ne : l ≠ r) (e : ExtB r H H') : BAt C H' b l W ru sts := by
  obtain ⟨dx, wv, rv, vs, h1, h2, h3, h4, h5⟩ := h
  exact ⟨dx, wv, rv, vs, e.keep _ _ (ne_of hr h1 (by intro z; cases z)).symm h1 rfl, h2.extB e hr, h3.extB e hr, e.lst ne h4, pTI.extB e hr h5⟩
theorem ExtB.upd2 {r : Addr} {H : Hp} {o o' : HO} (h : H r = some o) (nt : isTbl o = false) : ExtB r H (L2.upd H r o') := ⟨fun a o n e _ => by rw [upd_ne n]; exact e, fun P ⟨ps, e, t⟩ => ⟨ps, by rw [upd_ne (fun z => by subst z; rw [h] at e; cases e; cases nt)]; exact e, t⟩, fun a o e => by
  by_cases z : a = r
  · exact ⟨_, by rw [z]; exact upd_same⟩
  · exact ⟨o, by rw [upd_ne z]; exact e⟩, fun P ps _ e => by rw [upd_ne (fun z => by subst z; rw [h] at e; cases e; cases nt)]; exact e⟩
/-- one more state -/
theorem BAt.step {C : Addr} {H : Hp} {b l u : Addr} {W : Web} {ru sts : List (List Int)} {vs : List V} {st : List Int} (h : BAt C H b l W ru sts) (hl : H l = some (.lst vs)) (hu : TI H (.ref u) st) : ExtB l H (L2.upd H l (.lst (vs ++ [.ref u]))) ∧ BAt C (L2.upd H l (.lst (vs ++ [.ref u]))) b l W ru (sts ++ [st]) := by
  obtain ⟨dx, wv, rv, vs', h1, h2, h3, h4, h5⟩ := h
  rw [hl] at h4
  cases h4
  have e : ExtB l H (L2.upd H l (.lst (vs ++ [.ref u]))) := ExtB.upd hl
  exact ⟨e, dx, wv, rv, _, e.keep _ _ (ne_of hl h1 (by intro z; cases z)).symm h1 rfl, h2.extB e hl, h3.extB e hl, upd_same, paired_snoc (hu.extB e hl) (pTI.extB e hl h5)⟩
theorem paired_last {α β : Type} {R : α → β → Prop} {b : β} : ∀ {m : List β} {l : List α}, Paired R l (m ++ [b]) → ∃ l0 a, l = l0 ++ [a] ∧ Paired R l0 m ∧ R a b
  | [], _, .cons r .nil => ⟨[], _, rfl, .nil, r⟩
  | _ :: m, _, .cons r t => by
    obtain ⟨l0, a, e, p, q⟩ := paired_last t
    exact ⟨_ :: l0, a, by rw [e]; rfl, .cons r p, q⟩
/-- one state less -/
theorem BAt.drop {C : Addr} {H : Hp} {b l : Addr} {W : Web} {ru past : List (List Int)} {vs : List V} {st : List Int} (h : BAt C H b l W ru (past ++ [st])) (hl : H l = some (.lst vs)) : ExtB l H (L2.upd H l (.lst vs.dropLast)) ∧ BAt C (L2.upd H l (.lst vs.dropLast)) b l W ru past := by
  obtain ⟨dx, wv, rv, vs', h1, h2, h3, h4, h5⟩ := h
  rw [hl] at h4
  cases h4
  obtain ⟨v0, x, rfl, p0, _⟩ := paired_last h5
  have e : ExtB l H (L2.upd H l (.lst (v0 ++ [x]).dropLast)) := ExtB.upd hl
  refine ⟨e, dx, wv, rv, v0, e.keep _ _ (ne_of hl h1 (by intro z; cases z)).symm h1 rfl, h2.extB e hl, h3.extB e hl, ?_, pTI.extB e hl p0⟩
  rw [upd_same, List.dropLast_concat]
/-- what stays of the row of draws where the bench's list is written -/
theorem ScrAt.ne {K : PySem.W.Frag} {H H' : Hp} {r l sc : Addr} {xs : List V} (h : ScrAt K H r sc xs) (h2 : ScrAt K H' l sc xs) : ScrAt K H' r sc xs := by
  rcases h with ⟨h, n⟩ | h
  · exact .inl ⟨h2.sql, n⟩
  · exact .inr h
theorem Rw.scr {K : PySem.W.Frag} {H : Hp} {r sc : Addr} {ns : List Int} (h : Rw K H r sc ns) : ScrAt K H r sc (iv ns) := by
  obtain ⟨_, h⟩ := h
  exact h.scr
theorem Rw.extL {K : PySem.W.Frag} {H H' : Hp} {r l sc : Addr} {ns : List Int} (h : Rw K H r sc ns) (h2 : ScrAt K H l sc (iv ns)) (ne : r ≠ l) (e : ExtB l H H') : Rw K H' r sc ns := by
  obtain ⟨d, h⟩ := h
  exact ⟨d, e.lst ne h.row, h.scr.ne (h2.extB e), h.len, h.ok⟩
theorem ExtB.e2 {r l : Addr} {H H' : Hp} {rs : List V} (e : ExtB r H H') (hr : H r = some (.lst rs)) : True := trivial
/-- how many differ -/
def apartN (x y : List Int) : Nat := ((x.zip y).filter fun p => !decide (p.1 = p.2)).length
def NearIs (W : Web) (ru : List (List Int)) (st : List Int) (H : Hp) (v : V) : Prop := (settledStates W ru = [] ∧ v = .non) ∨ ∃ r : NR, LeastNR ((settledStates W ru).map fun s => ((apartN st s : Nat), s)) r ∧ TI H v r.2
/-- with somebody's mood another one -/
def setS (st : List Int) (f : Nat) (m : Int) : List Int := st.take f ++ [m] ++ st.drop (f + 1)
theorem setS_len {st : List Int} {f : Nat} {m : Int} (h : f < st.length) : (setS st f m).length = st.length := by
  unfold setS
  rw [List.length_append, List.length_append, List.length_take, List.length_drop, List.length_singleton]
  omega
theorem setS_at {st : List Int} {f i : Nat} {m : Int} (h : f < st.length) (hi : i < st.length) : stAt (setS st f m) (i : Int) = if i = f then m else stAt st (i : Int) := by
  unfold stAt setS
  have lt : (st.take f).length = f := by rw [List.length_take]; omega
  have lt2 : (st.take f ++ [m]).length = f + 1 := by rw [List.length_append, lt]; rfl
  rw [Int.toNat_natCast, List.getD_eq_getElem?_getD, List.getD_eq_getElem?_getD]
  rcases Nat.lt_trichotomy i f with q | q | q
  · rw [List.getElem?_append_left (by omega), List.getElem?_append_left (by omega), List.getElem?_take_of_lt q, if_neg (by omega)]
  · subst q
    rw [List.getElem?_append_left (by omega), List.getElem?_append_right (by omega), lt, Nat.sub_self, if_pos rfl]
    rfl
  · rw [List.getElem?_append_right (by omega), lt2, List.getElem?_drop, show f + 1 + (i - (f + 1)) = i by omega, if_neg (by omega)]
theorem setS_ok {W : Web} {st : List Int} {f : Nat} {m : Int} (so : StOk W st) (hf : f < W.tops.length) (hm : 0 ≤ m ∧ m ≤ topAt W (f : Int)) : StOk W (setS st f m) := by
  have ls := so.len
  refine ⟨by rw [setS_len (by omega)]; exact ls, fun i h0 h1 => ?_⟩
  obtain ⟨n, rfl⟩ : ∃ n : Nat, i = (n : Int) := ⟨i.toNat, by omega⟩
  rw [setS_at (by omega) (by omega)]
  by_cases e : n = f
  · rw [if_pos e, e]
    exact hm
  · rw [if_neg e]
    exact so.bd _ h0 h1
/-- a state, one of its moods another one, as it is written -/
theorem cut_put {σ : L2.St} {H : Hp} {Q : VK} {i j c : Nat} {z : Addr} {st : List Int} {n : Nat} {m : Int} (hn : n < st.length) (l6 : st.length ≤ 100) (hi : σ[i]? = some (some (.ref z))) (hj : σ[j]? = some (some (.int (n : Nat)))) (hc : σ[c]? = some (some (.int m))) (hz : H z = some (.tup (iv st)))
    (k : ∀ H' u, Ext H H' → TI H' (.ref u) (setS st n m) → Q (.ref u) H') :
    tOp rCatU (tOp rCatU (tSl rSlU (tVar i) tNoPart (tPart (tVar j))) (tTup (tCons (tVar c) tNil))) (tSl rSlU (tVar i) (tPart (tOp (rI0 fun i j => V.int (i + j)) (tVar j) (tC (V.int 1)))) tNoPart) σ H Q := by
  have lix : (iv st).length = st.length := iv_len st
  have ec1 : cutV (iv st) none (some (n : Int)) = (iv st).take n := cut_take (iv st) n (by omega)
  have ec2 : cutV (iv st) (some ((n : Int) + 1)) none = (iv st).drop (n + 1) := cut_drop (iv st) (n + 1) (by omega)
  refine ⟨_, hi, _, hj, _, rfl, z, _, rfl, hz, fun H1 p e1 hp => ?_⟩
  refine ⟨_, hc, (by show 1 ≤ sizeLine; decide), fun q hq => ?_⟩
  have X := Ext.new hq (.tup [V.int m])
  refine ⟨p, q, _, _, rfl, rfl, X.tup hp, upd_same, ?_, fun H2 p2 e2 hp2 => ?_⟩
  · rw [ec1, List.length_take]
    exact Nat.le_of_lt (small1000 (by simp only [List.length_singleton]; omega))
  refine ⟨_, hi, _, hj, _, _, rfl, rfl, _, rfl, z, _, rfl, ((e1.trans X).trans e2).tup hz, fun H3 p3 e3 hp3 => ?_⟩
  refine ⟨p2, p3, _, _, rfl, rfl, e3.tup hp2, hp3, ?_, fun H4 u e4 hu => ?_⟩
  · rw [ec1, ec2, List.length_append, List.length_take, List.length_drop]
    exact Nat.le_of_lt (small1000 (by simp only [List.length_singleton]; omega))
  refine k _ u (((e1.trans X).trans e2).trans (e3.trans e4)) ⟨u, rfl, ?_⟩
  rw [hu, ec1, ec2]
  unfold iv setS
  rw [List.map_append, List.map_append, List.map_take, List.map_drop]
  rfl
theorem apart_snoc {x y : List Int} {i : Nat} {a b : Int} (ha : x[i]? = some a) (hb : y[i]? = some b) : apartN (x.take (i + 1)) (y.take (i + 1)) = apartN (x.take i) (y.take i) + if a = b then 0 else 1 := by
  have hx := (List.getElem?_eq_some_iff.mp ha).1
  have hy := (List.getElem?_eq_some_iff.mp hb).1
  unfold apartN
  rw [take_snoc ha, take_snoc hb, List.zip_append (by rw [List.length_take, List.length_take]; omega), List.filter_append, List.length_append]
  congr 1
  by_cases e : a = b
  · subst e
    simp
  · simp [e]
theorem apart_le (x y : List Int) : apartN x y ≤ x.length := by
  unfold apartN
  exact Nat.le_trans (List.length_filter_le _ _) (by rw [List.length_zip]; omega)
/-! ### the defs beside the class -/
abbrev s_many_apart : Stmt := top 46
theorem sc_many_apart : FnScope ["state", "other", "folk", "mood"] ["state", "other"] (defScope s_many_apart) := ⟨rfl, rfl, rfl, by decide +kernel, rfl, by decide +kernel, by decide +kernel⟩
def spApartN : Sp := fun vs H Q _ => ∃ (x y : V) (s t : List Int), vs = [x, y] ∧ TI H x s ∧ TI H y t ∧ s.length = t.length ∧ s.length ≤ 100 ∧ ∀ H', Ext H H' → Q (.int (apartN s t : Nat)) H'
section
variable {P : Program} {w : World} {K : PySem.W.Frag} {mg : Str → Option Value} {base : Heap} {Ps : List Addr} {C CF CS CN CB : Addr}
theorem ok_many_apart {f : Addr} {fd : FuncData} (F : Fun K "many_apart" "many_apart" s_many_apart f fd) (B : Blt mg) : FnOk P w K mg base CX0 1 f fd ["state", "other"] spApartN := by
  refine F.ok sc_many_apart (fun vs H Q E h => ?_) (fun cdv A outer s0 H vs Q E hr h => ?_)
  · obtain ⟨x, y, s, t, rfl, _⟩ := h
    rfl
  · obtain ⟨x, y, s, t, rfl, ⟨xa, rfl, hx⟩, ⟨ya, rfl, hy⟩, hst, hs, k⟩ := h
    refine ⟨_, (pss_one (ps_ret (pe_callB call_len_seq (by rfl) B.len PySem.boot_len (pa_cons (pe_lc (own := [("folk", 2), ("mood", 3)]) rfl sc_many_apart.nd (pi_enumT (by rfl) B.enum (pa_cons (pv 0) pa_nil)) (blkOk_by (N := ["state", "other", "folk", "mood"]) (sc := defScope s_many_apart) (by decide +kernel)) (fun _ _ _ _ _ => (pg_tupT (n := 2) rfl (pgs_cons (pg_name (i := 2) sc_many_apart.nd rfl (by first | exact Or.inl rfl | exact Or.inr rfl)) (pgs_cons (pg_name (i := 3) sc_many_apart.nd rfl (by first | exact Or.inl rfl | exact Or.inr rfl)) pgs_nil)))) (fun _ _ _ _ _ => (pts_one (pt_cmpR op_ne (pe_ix ix_tT (pv 1) (pv 2) (fun _ _ => rfl)) (pv 3) (nomark _)))) (fun _ _ _ _ _ => (pv 2))) pa_nil)))), ?_⟩
    refine ⟨_, rfl, xa, _, rfl, hx, fun D hD => ?_⟩
    refine lc_walk (walk_enumT (a := xa) (xs := iv s)) (fun i H' => ∃ acc : List Int, H' D = some (.lst (iv acc)) ∧ acc.length = apartN (s.take i) (t.take i) ∧ Ext H H') ⟨[], by rw [upd_same]; rfl, rfl, Ext.new hD _⟩ (fun i H' _ ⟨_, _, _, e⟩ => e.tup hx) (fun i x H4 H5 hi ⟨acc, h1, la, e⟩ y => ?_) fun H4 ⟨acc, h4, la, e4⟩ => ?_
    · obtain ⟨T, y1, rfl, hT, rfl, hy1⟩ := y
      obtain ⟨m, hm, rfl⟩ := iv_get hy1
      have hi2 : i < s.length := (List.getElem?_eq_some_iff.mp hm).1
      have ht : t[i]? = some (t.getD i 0) := by rw [List.getD_eq_getElem?_getD, List.getElem?_eq_getElem (by omega)]; rfl
      have eT := e.trans (Ext.new hT (.tup [V.int (i : Nat), V.int m]))
      have h2 := (Ext.new hT (.tup [V.int (i : Nat), V.int m])).lst h1
      refine ⟨T, _, rfl, upd_same, rfl, _, _, rfl, _, _, rfl, rfl, rfl, ?_⟩
      refine ⟨_, rfl, _, rfl, ya, _, _, _, rfl, rfl, eT.tup hy, at_of (j := i) rfl (iv_at ht), _, rfl, rfl, _, rfl, ?_⟩
      have al := apart_snoc hm ht
      have lacc := apart_le (s.take i) (t.take i)
      rw [List.length_take] at lacc
      by_cases hc : m = t.getD i 0
      · rw [show (!decide (V.int (t.getD i 0) = V.int m)) = false from by rw [decide_eq_true (by rw [hc])]; rfl]
        rw [if_pos hc] at al
        exact iteF ⟨acc, h2, by rw [la, al]; rfl, eT⟩
      · rw [show (!decide (V.int (t.getD i 0) = V.int m)) = true from by rw [decide_eq_false (fun z => hc (V.int.inj z).symm)]; rfl]
        rw [if_neg hc] at al
        refine iteT ⟨_, rfl, _, h2, ?_, acc ++ [(i : Int)], ?_, ?_, eT.put hD _⟩
        · rw [iv_len, la]
          exact small1000 (by omega)
        · rw [upd_same]
          unfold iv
          rw [List.map_append]
          rfl
        · rw [List.length_append, la, al]
          rfl
    · rw [iv_len] at la
      rw [List.take_of_length_le (Nat.le_refl _), List.take_of_length_le (by omega)] at la
      refine ⟨D, _, rfl, .inl (SqL.of h4), ?_⟩
      rw [iv_len, la]
      exact k _ e4
end
end Lk


/-! ## Bad -/
set_option Elab.async false
set_option linter.all false
set_option maxRecDepth 100000
set_option maxHeartbeats 2000000
/-! BadRules, made and raised: its __init__ calls ValueError's by super, then tells the folk. -/
namespace Lk
open PySem PySem.Spec PyProof.Rows L2
variable [Own]
/-- a class's i-th method -/
def methAt (s : Stmt) (i : Nat) : Stmt := match s with
  | .ClassDef _ _ _ b _ _ _ _ _ _ _ => b.getD i (.Pass ⟨0, 0, 0, 0⟩)
  | _ => .Pass ⟨0, 0, 0, 0⟩
abbrev mI : Stmt := methAt (top 3) 0
/-- what the written part says of BadRules, at C, of its __init__, at fI, of the cell that holds the class, at cc -/
structure BadTxt (P : Program) (K : PySem.W.Frag) (mg : Str → Option Value) (C fI cc : Addr) : Prop where
  gC : mg "BadRules" = some (.ref C)
  noS : mg "super" = none
  cls : ∃ nm q N bs bm sn sub ab col dd k0 k1 k2 k3 k5, K.lookup C = some (excClassObj nm q C N bs bm true sn sub ab col dd k0 k1 k2 k3 k5 "ValueError.__new__") ∧ HandSPX.refsVE bm = true
  sa : PySem.W.findIn K (.ref C) "__setattr__" = some (some (.builtin "object.__setattr__"))
  noN : PySem.W.findIn K (.ref C) "folk" = some none
  iC : PySem.W.findIn K (.ref C) "__init__" = some (some (.ref fI))
  tC : PySem.W.typeIn K (.ref fI) = some (.type "function")
  kC : PySem.W.keepIn K (.ref C) = true
  exC : PySem.W.subIn K (.ref C) (.type "BaseException") = some true
  veC : PySem.W.subIn K (.ref C) (.type "ValueError") = some true
  tyC : PySem.W.typeIn K (.ref C) = some (.type "type")
  inC : PySem.W.excInitIn K C [.type "ValueError", .type "Exception", .type "BaseException", .type "object"] "ValueError.__new__" = true
  mC : PySem.W.mroIn K C (.ref C) = some true
  sup : PySem.W.ks_superIn K C C "__init__" = some (some (.builtin "ValueError.__init__"))
  st : PySem.W.nsIn K cStatics "thirdparty.any" = some none
  cell : ∃ (c : Value) (d : Option Addr) (sl : Array (Option Value)), K.lookup cc = some ⟨c, d, .cell (some (.ref C)), sl⟩
  fn : ∃ (oc : Value) (od : Option Addr) (doc pm ct : Value) (an : Option Addr) (cda : Addr) (osl : Array (Option Value)),
    K.lookup fI = some ⟨oc, od, .func (PySem.W.ksFn "__init__" "BadRules.__init__" (defArgs mI) (defBody mI) (defScope mI) .none .none doc pm an (.ref cda) ct cc), osl⟩ ∧ PySem.W.codeIn K (.ref cda) "BadRules.__init__" = true ∧
    ∃ (ccl : Value) (cdd : Option Addr) (vs : Array Value) (ccs : Array (Option Value)) (file : Str) (tf : Tok), K.lookup cda = some ⟨ccl, cdd, .fields vs, ccs⟩ ∧ vs[2]? = some (.str file tf) ∧ (P.main.file == file) = true
  pS : (List.lookup (PySem.Str.ofString "super") P.main.scope.names).isSome = false
theorem wpAt_any {α : Type} {M : Model} {A : Around} {c : Code} {t : Sem α} {Q : α → Shared → Prop} {E : Value → Shared → Prop} {s : Shared} (h : wpAny M A t Q E s) : PySem.wpAt M A c t Q E s := fun Γ p _ hΓ => h Γ p hΓ
theorem boot_super : bootBuiltins "super" = some (.type "super") := by decide +kernel
/-- what __init__ leaves of a fresh exception at x -/
structure InitBad (h h' : Heap) (x C dx : Addr) (v : Value) : Prop where
  keep : ∀ b o, b ≠ x → h.get? b = some o → h'.get? b = some o
  obj : ∃ t1, h'.get? x = some { cls := .ref C, dict := some dx, data := .fields #[.ref t1, .none, .none, .none, .bool false, .none] }
  dbig : h.objs.size ≤ dx
  dne : dx ≠ x
  ns : h'.Ns1 dx (fun y => if y = "folk" then some v else none)
section
variable {prog : Program} {w : World} {A : Around} {E : Value → Shared → Prop} {R : Result → Shared → Prop} {s : Shared} {K : PySem.W.Frag} {mg : Str → Option Value} {C fI cc : Addr}
theorem ns_kept {h h' : Heap} {a : Addr} {m : Str → Option Value} (k : ∀ b o, h.get? b = some o → h'.get? b = some o) (n : h.Ns a m) : h'.Ns a m := by
  obtain ⟨o, es, ep, h1, r⟩ := n
  exact ⟨o, es, ep, k _ _ h1, r⟩
theorem bad_init (T : BadTxt prog K mg C fI cc) {hp : Heap} (Xp : K.In hp) (kp : ∀ b o, hp.get? b = some o → s.heap.get? b = some o) (hsz : hp.objs.size ≤ s.heap.objs.size) (hg : hp.Ns mainGlobals mg) (hb : ∃ mb, hp.Ns builtinsNs mb ∧ ∀ x : Str, x ≠ "__name__" → mb x = bootBuiltins x) (hlim : s.heap.NoLimit)
    {x t0 : Addr} {n : Int} {tok : Tok} (hx : s.heap.get? x = some (HandSPX.excO C t0)) (hx0 : hp.get? x = none) (hroom : A.depth < recursionLimit) (hn : n.natAbs.log2 < 1920) (hlen : (PySem.Str.ofString "no rules: " ++ PySem.Str.ofString (toString n)).length ≤ sizeLine)
    (hq : ∀ h' tk dx, InitBad hp h' x C dx (.int n tok) → R (.ok (.ret .none)) { s with heap := h', toks := tk }) :
    codeAny (model prog w) A (.call (.ref fI) ⟨[.ref x, .int n tok], []⟩) R s := by
  obtain ⟨oc, od, doc, pm, ct, an, cda, osl, hf, hcd, ccl, cdd, vs, ccs, file, tf, hcda, hfile, hmain⟩ := T.fn
  obtain ⟨nm, q, N, bs, bm, sn, sub, ab, col, dd, k0, k1, k2, k3, k5, hC, hbm⟩ := T.cls
  obtain ⟨c0, cd0, csl, hcc⟩ := T.cell
  have hcl : PySem.W.clsIn K C = some { name := nm, bases := bs, mro := .ref C :: bm, ns := N, qualname := q, hasDict := true, slotNames := sn, subclasses := sub, abstract := ab, collection := col, hasDel := false } := by unfold PySem.W.clsIn; rw [hC] <;> rfl
  have Xs : K.In s.heap := fun a o e => kp _ _ (Xp a o e)
  refine ks_codeAny_call_defAt (binds := [("self", .ref x), ("folk", .int n tok)]) hroom (Xs _ _ hf) rfl hlim (PySem.W.codeRec_of Xs hcd) rfl (BindsTo.of_eq (by first | rfl | with_unfolding_all rfl)) (by
    show ∀ y ∈ (defScope mI).names, y.2 ≠ NameKind.cell
    decide +kernel) (by
    intro y hy
    simp only [List.mem_cons, List.mem_nil_iff, or_false] at hy
    rcases hy with rfl | rfl
    · show List.lookup (PySem.Str.ofString "self") (defScope mI).names = some NameKind.local
      decide +kernel
    · show List.lookup (PySem.Str.ofString "folk") (defScope mI).names = some NameKind.local
      decide +kernel) (fun h₁ hns k => ?_) (by rfl) (by rfl) (by rfl)
  have hxL : x ≠ s.heap.objs.size := Nat.ne_of_lt (Heap.lt_size hx)
  have F1 : Fr hp s.heap.objs.size h₁ (fun y => List.lookup y [(("self" : Str), Value.ref x), ("folk", .int n tok)].reverse) := ⟨hns, fun b o e => k _ _ (kp _ _ e), hsz⟩
  have N1 : News hp s.heap.objs.size h₁ [(x, PySem.W.excObj C t0 none .none)] := fun p hp' => by
    rw [List.mem_singleton.mp hp']
    exact ⟨k _ _ hx, hxL, hx0⟩
  have X1 : K.In h₁ := fun a o e => k _ _ (Xs a o e)
  refine ks_wpAt_execs_cons (ks_wpAt_Expr_any (ks_wpAt_MethodCall (pl := pure false) ?_ (by rfl)) (by rfl) (by rfl))
  refine ks_wpAt_super_base (by rfl) (by rfl) (by decide) (by rfl) (X1 _ _ hf) rfl (by rfl) (by rfl) (X1 _ _ hcda) rfl hfile hmain T.pS ?_
  obtain ⟨mb, hbn, hbb⟩ := hb
  have k1 : ∀ b o, hp.get? b = some o → h₁.get? b = some o := fun b o e => k _ _ (kp _ _ e)
  refine PySem.W.ks_loadName_global (by rfl) (by rfl) (PySem.Calls.loadGlobal_builtin (ns_kept k1 hg) T.noS (ns_kept k1 hbn) ((hbb _ (by decide)).trans boot_super) ⟨rfl, ?_⟩)
  refine wpAny_loadName_free (by rfl) (by rfl) (by rfl) ⟨_, X1 _ _ hcc, rfl⟩ (wpAny_loadName_local (by rfl) (by rfl) hns (by rfl) ?_) (by decide)
  refine ks_wpAny_isType_cls (X1 _ _ hC) rfl ⟨rfl, ?_⟩
  refine ks_wpAny_call_super (X1 _ _ hC) rfl (k _ _ hx) rfl (fun c e => by cases e) (PySem.W.looks_mroIn X1 T.mC) fun h₂ hso k2 => ?_
  have F2 : Fr hp s.heap.objs.size h₂ (fun y => List.lookup y [(("self" : Str), Value.ref x), ("folk", .int n tok)].reverse) := ⟨ns_kept k2 F1.ns, fun b o e => k2 _ _ (k1 _ _ e), hsz⟩
  have hL1 : s.heap.objs.size < h₁.objs.size := hns.lt
  have N2 : News hp s.heap.objs.size h₂ [(h₁.objs.size, PySem.W.ks_superObj C x C), (x, PySem.W.excObj C t0 none .none)] := fun p hp' => by
    rcases List.mem_cons.mp hp' with e | hp'
    · rw [e]
      refine ⟨hso, Nat.ne_of_gt hL1, ?_⟩
      cases q : hp.get? h₁.objs.size with
      | none => rfl
      | some o => exact absurd (Heap.lt_size (k1 _ _ q)) (Nat.lt_irrefl _)
    · rw [List.mem_singleton.mp hp']
      exact ⟨k2 _ _ (k _ _ hx), hxL, hx0⟩
  have I2 : PySem.W.InstAt h₂ x (PySem.W.excObj C t0 none .none) C none := PySem.W.InstAt.of_exc0 N2 (List.mem_cons_of_mem _ (List.mem_cons_self ..))
  refine PySem.W.kxs_method (K := K) PySem.W.kxs_ValueError F2 Xp N2 (List.mem_cons_self ..) I2 T.st T.sup T.veC (by decide) fun u h₃ F3 N3 hlt => ?_
  refine PySem.W.kxs_callWith1 N3 (List.mem_cons_self ..) (PyProof.Rows.spliced_more ?_ (by rfl)) (by rfl) (by rfl)
  have m3 : (x, PySem.W.excObj C t0 none .none) ∈ [(u, PySem.W.kxs_mw "ValueError.__init__" x), (h₁.objs.size, PySem.W.ks_superObj C x C), (x, PySem.W.excObj C t0 none .none)] := by simp
  have hxu : x ≠ u := Nat.ne_of_lt (hlt (x, _) (List.mem_cons_of_mem _ (List.mem_cons_self ..)))
  have hx1 : x ≠ h₁.objs.size := Nat.ne_of_lt (Heap.lt_size (k _ _ hx))
  refine PyProof.Rows.JoinedStr_many (PyProof.Rows.joinParts_cons (PySem.Calls.Constant_str ⟨by decide +kernel, PyProof.Rows.joinParts_cons (PyProof.Rows.FormattedValue_plain (PySem.ESX.ldL F3.ns (v := .int n tok) (by rfl) (PySem.wpAny_formatField_int hn ⟨hlen, PyProof.Rows.joinParts_nilE (PyProof.Rows.joinParts_nil ?_ hlen)⟩) (by rfl) (by rfl) (by decide)))⟩))
  refine PyProof.Rows.spliced_none ⟨PySem.W.kxs_at N3 (List.mem_cons_self ..), ?_⟩
  refine PySem.W.kxs_call F3 Xp N3 PySem.F.excBase_ValueError T.inC (List.mem_cons_self ..) (PySem.W.UpdF.tail (fun e => hxu e.symm) (PySem.W.UpdF.tail (fun e => hx1 e.symm) (PySem.W.UpdF.head fun p hp => by cases hp))) (by rw [sizeLine_eq]; exact (by decide : 1 ≤ 16777216)) fun t' h₄ F4 N4 hlt4 => ?_
  obtain ⟨hx4, _, _⟩ := N4 (x, PySem.W.excObj C t' none .none) (by simp)
  have X4 : K.In h₄ := fun a o e => F4.keep _ _ (Xp a o e)
  refine ks_wpAt_execs_cons (wpAt_any (plainObj_wpAny_Assign_Attribute ?_ (by rfl)))
  refine PySem.ESX.ldL F4.ns (v := .int n tok) (by rfl) (PySem.ESX.ldL F4.ns (v := .ref x) (by rfl) ?_ (by rfl) (by rfl) (by decide)) (by rfl) (by rfl) (by decide)
  refine PySem.W.set_plain X4 (ox := PySem.W.excObj C t' none .none) (od := none) ⟨hx4, rfl, rfl, trivial⟩ T.sa ?_
  refine HandSPX.exc_osa X4 hx4 hcl (show HandSPX.refsVE (.ref C :: bm) = true from hbm) rfl T.noN fun h₅ tk₅ dx k5 dn dne hx5 hn5 => ?_
  refine wpAt_any (wpAny_execs_nil ?_)
  have z : hp.objs.size ≤ h₄.objs.size := by
    have := F4.above
    exact Nat.le_trans this (Nat.le_of_lt F4.ns.lt)
  refine hq h₅ tk₅ dx ⟨fun b o hb e => k5 b o hb (F4.keep _ _ e), ⟨t', hx5⟩, Nat.le_trans z dn, dne, hn5⟩
end
end Lk


/-! ## N2 -/
set_option Elab.async false
set_option linter.all false
set_option maxRecDepth 100000
set_option maxHeartbeats 4000000
/-! A bench's methods and properties. -/
namespace Lk
open PySem PySem.Spec PyProof.Rows L2 Gx
open GxR (TabG Tabbed TabB)
variable [Own]
abbrev s_Bench___init__ : Stmt := methAt (top 47) 0
theorem sc_Bench___init__ : FnScope ["self", "web", "rules", "state"] ["self", "web", "rules", "state"] (defScope s_Bench___init__) := ⟨rfl, rfl, rfl, by decide +kernel, rfl, by decide +kernel, by decide +kernel⟩
abbrev s_Bench_tick : Stmt := methAt (top 47) 1
theorem sc_Bench_tick : FnScope ["self"] ["self"] (defScope s_Bench_tick) := ⟨rfl, rfl, rfl, by decide +kernel, rfl, by decide +kernel, by decide +kernel⟩
abbrev s_Bench_look : Stmt := methAt (top 47) 2
theorem sc_Bench_look : FnScope ["self", "folk"] ["self", "folk"] (defScope s_Bench_look) := ⟨rfl, rfl, rfl, by decide +kernel, rfl, by decide +kernel, by decide +kernel⟩
abbrev s_Bench_paint : Stmt := methAt (top 47) 3
theorem sc_Bench_paint : FnScope ["self", "folk", "mood", "tops", "_", "now"] ["self", "folk", "mood"] (defScope s_Bench_paint) := ⟨rfl, rfl, rfl, by decide +kernel, rfl, by decide +kernel, by decide +kernel⟩
abbrev s_Bench_back : Stmt := methAt (top 47) 4
theorem sc_Bench_back : FnScope ["self"] ["self"] (defScope s_Bench_back) := ⟨rfl, rfl, rfl, by decide +kernel, rfl, by decide +kernel, by decide +kernel⟩
abbrev s_Bench_apart : Stmt := methAt (top 47) 5
theorem sc_Bench_apart : FnScope ["self", "other"] ["self", "other"] (defScope s_Bench_apart) := ⟨rfl, rfl, rfl, by decide +kernel, rfl, by decide +kernel, by decide +kernel⟩
abbrev s_Bench_state : Stmt := methAt (top 47) 6
theorem sc_Bench_state : FnScope ["self"] ["self"] (defScope s_Bench_state) := ⟨rfl, rfl, rfl, by decide +kernel, rfl, by decide +kernel, by decide +kernel⟩
abbrev s_Bench_uneasy : Stmt := methAt (top 47) 7
theorem sc_Bench_uneasy : FnScope ["self"] ["self"] (defScope s_Bench_uneasy) := ⟨rfl, rfl, rfl, by decide +kernel, rfl, by decide +kernel, by decide +kernel⟩
abbrev s_Bench_near : Stmt := methAt (top 47) 8
theorem sc_Bench_near : FnScope ["self", "now", "other", "found", "_", "nearest"] ["self"] (defScope s_Bench_near) := ⟨rfl, rfl, rfl, by decide +kernel, rfl, by decide +kernel, by decide +kernel⟩
/-- what a bench's web, rules and states are -/
structure BOk (W : Web) (ru sts : List (List Int)) : Prop where
  ok : W.Ok
  r0 : Ru0 W ru
  fb : firstBad W ru = none
  st : ∀ s ∈ sts, StOk W s
  few : sts.length ≤ 1000
theorem BOk.rok {W : Web} {ru sts : List (List Int)} (h : BOk W ru sts) : RuOk W ru := rules_ok h.r0 h.fb
def spBenchInit (C : Addr) (Ps : List Addr) : Sp := fun vs H Q _ => ∃ (b dx : Addr) (v r z : V) (W : Web) (ru : List (List Int)) (st : List Int), vs = [.ref b, v, r, z] ∧ H b = some (.ins C dx []) ∧ WebAt H v W ∧ TT2 H r ru ∧ TI H z st ∧ BOk W ru [st] ∧ Tabs Ps H ∧
  ∀ H' l, ExtB b H H' → H l = none → BAt C H' b l W ru [st] → Q .non H'
def spBState (C : Addr) : Sp := fun vs H Q _ => ∃ (b l : Addr) (W : Web) (ru past : List (List Int)) (st : List Int), vs = [.ref b] ∧ BAt C H b l W ru (past ++ [st]) ∧ ∀ v, TI H v st → Q v H
def spBTick (C : Addr) : Sp := fun vs H Q _ => ∃ (b l : Addr) (W : Web) (ru past : List (List Int)) (st : List Int), vs = [.ref b] ∧ BAt C H b l W ru (past ++ [st]) ∧ BOk W ru (past ++ [st]) ∧
  ∀ H', ExtB l H H' → BAt C H' b l W ru (past ++ [st] ++ [stateTold W ru st]) → Q .non H'
def spBLook (C CF : Addr) : Sp := fun vs H Q E => ∃ (b l : Addr) (x : V) (W : Web) (ru past : List (List Int)) (st : List Int), vs = [.ref b, x] ∧ BAt C H b l W ru (past ++ [st]) ∧ BOk W ru (past ++ [st]) ∧
  ((∃ n : Nat, x = .int (n : Int) ∧ n < W.tops.length ∧ ∀ H', ExtB l H H' → BAt C H' b l W ru (past ++ [st] ++ [lookOne W ru (n : Int) st]) → Q .non H') ∨ ∃ d, Dq H x d ∧ isW d 0 (W.tops.length - 1) = false ∧ E (.ref CF) none H)
def spBPaint (C CF CN : Addr) : Sp := fun vs H Q E => ∃ (b l : Addr) (x y : V) (W : Web) (ru past : List (List Int)) (st : List Int), vs = [.ref b, x, y] ∧ BAt C H b l W ru (past ++ [st]) ∧ BOk W ru (past ++ [st]) ∧
  ((∃ n : Nat, x = .int (n : Int) ∧ n < W.tops.length ∧ ((∃ m : Int, y = .int m ∧ (0 ≤ m ∧ m ≤ topAt W (n : Int)) ∧ ∀ H', ExtB l H H' → BAt C H' b l W ru (past ++ [st] ++ [setS st n m]) → Q .non H') ∨ ∃ d, Dq H y d ∧ isW d 0 (topAt W (n : Int)) = false ∧ E (.ref CN) none H)) ∨ ∃ d, Dq H x d ∧ isW d 0 (W.tops.length - 1) = false ∧ E (.ref CF) none H)
def spBBack (C CT : Addr) : Sp := fun vs H Q E => ∃ (b l : Addr) (W : Web) (ru past : List (List Int)) (st : List Int), vs = [.ref b] ∧ BAt C H b l W ru (past ++ [st]) ∧ BOk W ru (past ++ [st]) ∧
  ((past ≠ [] ∧ ∀ H', ExtB l H H' → BAt C H' b l W ru past → Q .non H') ∨ (past = [] ∧ E (.ref CT) none H))
def spBApart (C CS : Addr) (Ps : List Addr) : Sp := fun vs H Q E => ∃ (b l : Addr) (x : V) (W : Web) (ru past : List (List Int)) (st : List Int), vs = [.ref b, x] ∧ BAt C H b l W ru (past ++ [st]) ∧ BOk W ru (past ++ [st]) ∧ Tabs Ps H ∧
  ((∃ t, TI H x t ∧ StOk W t ∧ ∀ H', Ext H H' → Q (.int (apartN st t : Nat)) H') ∨ ∃ d, Dq H x d ∧ isStD W d = false ∧ ∀ H', Ext H H' → E (.ref CS) none H')
def spBUneasy (C : Addr) : Sp := fun vs H Q _ => ∃ (b l : Addr) (W : Web) (ru past : List (List Int)) (st : List Int), vs = [.ref b] ∧ BAt C H b l W ru (past ++ [st]) ∧ BOk W ru (past ++ [st]) ∧ ∀ H' v, Ext H H' → TI H' v (uneasyL W ru st) → Q v H'
def spBNear (C : Addr) : Sp := fun vs H Q _ => ∃ (b l : Addr) (W : Web) (ru past : List (List Int)) (st : List Int), vs = [.ref b] ∧ BAt C H b l W ru (past ++ [st]) ∧ BOk W ru (past ++ [st]) ∧ ∀ H' v, Ext H H' → NearIs W ru st H' v → Q v H'
section
variable {r : Addr} {H H' : Hp}
theorem xb_tup (e : ExtB r H H') (hr : ∀ xs, H r ≠ some (.tup xs)) {a : Addr} {xs : List V} (h : H a = some (.tup xs)) : H' a = some (.tup xs) := e.keep _ _ (fun z => hr xs (by rw [← z]; exact h)) h rfl
theorem TI.xb {v : V} {ns : List Int} (h : TI H v ns) (e : ExtB r H H') (hr : ∀ xs, H r ≠ some (.tup xs)) : TI H' v ns := by
  obtain ⟨a, q, h⟩ := h
  exact ⟨a, q, xb_tup e hr h⟩
theorem TT2.xb {v : V} {rows : List (List Int)} (h : TT2 H v rows) (e : ExtB r H H') (hr : ∀ xs, H r ≠ some (.tup xs)) : TT2 H' v rows := by
  obtain ⟨a, vs, q, h, p⟩ := h
  exact ⟨a, vs, q, xb_tup e hr h, paired_mono (fun _ _ h => h.xb e hr) p⟩
theorem WebAt.xb {v : V} {W : Web} (h : WebAt H v W) (e : ExtB r H H') (hr : ∀ xs, H r ≠ some (.tup xs)) : WebAt H' v W := by
  obtain ⟨a, t, l, q, h, p1, p2⟩ := h
  exact ⟨a, t, l, q, xb_tup e hr h, p1.xb e hr, p2.xb e hr⟩
end
theorem stPrN : Stays PrN := ⟨fun e h => h.ext e, fun {H D acc o v a} hD h => by
  obtain ⟨p, q, rfl, h1, h2⟩ := h
  exact ⟨p, q, rfl, by rw [upd_ne (ne_of hD h1 (by intro z; cases z)).symm]; exact h1, by rw [upd_ne (ne_of hD h2 (by intro z; cases z)).symm]; exact h2⟩⟩
theorem settled_st {W : Web} {ru : List (List Int)} {s : List Int} (h : s ∈ settledStates W ru) : StOk W s := rows_st (List.mem_filter.mp h).1
theorem isW_int {i lo hi : Int} (h : lo ≤ i ∧ i ≤ hi) : isW (.int i) lo hi = true := by
  show isWhole i lo hi = true
  unfold isWhole
  rw [decide_eq_true h.1, decide_eq_true h.2]
  rfl
theorem isZ_ints : ∀ {st tops : List Int}, st.length = tops.length → (∀ (i : Nat) (a t : Int), st[i]? = some a → tops[i]? = some t → 0 ≤ a ∧ a ≤ t) → isZ (st.map PyData.int) tops = true
  | [], _, _, _ => by simp [isZ]
  | a :: st, [], h, _ => by cases h
  | a :: st, t :: tops, h, k => by
    have ih := isZ_ints (st := st) (tops := tops) (Nat.succ.inj h) fun i a t h1 h2 => k (i + 1) a t h1 h2
    unfold isZ at ih ⊢
    rw [List.map_cons, List.zip_cons_cons, List.all_cons, ih, isW_int (k 0 a t rfl rfl)]
    rfl
theorem isStD_ok {W : Web} {st : List Int} (so : StOk W st) : isStD W (.tuple (st.map .int)) = true := by
  show (decide ((st.map PyData.int).length = W.tops.length) && isZ (st.map PyData.int) W.tops) = true
  rw [decide_eq_true (by rw [List.length_map]; exact so.len), Bool.true_and]
  refine isZ_ints so.len fun i a t h1 h2 => ?_
  have hi := (List.getElem?_eq_some_iff.mp h2).1
  have := so.bd (i : Int) (by omega) (by omega)
  have e1 : stAt st (i : Int) = a := by unfold stAt; rw [List.getD_eq_getElem?_getD, Int.toNat_natCast, h1]; rfl
  have e2 : topAt W (i : Int) = t := by
    have := topAt_get (W := W) (i := (i : Int)) (by omega) (by omega)
    rw [Int.toNat_natCast, h2] at this
    exact (Option.some.inj this).symm
  rw [e1, e2] at this
  exact this
section
variable {P : Program} {w : World} {K : PySem.W.Frag} {mg : Str → Option Value} {base : Heap} {Ps : List Addr} {C CF CS CN CT : Addr}
theorem ok_Bench_init {f : Addr} {fd : FuncData} (F : Fun K "__init__" "Bench.__init__" s_Bench___init__ f fd) (T : BenchT K C)
    (c_check_standing : Cal P w K mg base CX0 7 "check_standing" ["web", "rules", "state"] (spCheckStanding Ps)) : FnOk P w K mg base CX0 8 f fd ["self", "web", "rules", "state"] (spBenchInit C Ps) := by
  refine F.ok sc_Bench___init__ (fun vs H Q E h => ?_) (fun cdv A outer s0 H vs Q E hr h => ?_)
  · obtain ⟨b, dx, v, r, z, W, ru, st, rfl, _⟩ := h
    rfl
  · obtain ⟨b, dx, v, r, z, W, ru, st, rfl, hb, hW, hru, hz, ok, hT, k⟩ := h
    refine ⟨_, (pss_cons (ps_expr (pe_c0 c_check_standing (hr.mono (by decide)) (by rfl) (pa_cons (pv 1) (pa_cons (pv 2) (pa_cons (pv 3) pa_nil)))))
      (pss_cons (ps_fld (pv 0) (pv 1) rfl)
      (pss_cons (ps_fld (pv 0) (pv 2) rfl)
      (pss_one (ps_fld (pv 0) (pe_lst (pa_cons (pv 3) pa_nil)) rfl))))), ?_⟩
    refine ⟨_, rfl, _, rfl, _, rfl, _, _, _, W, ru, st, rfl, hW, ok.ok, hru, ok.r0, ok.fb, hz, ok.st _ (List.mem_singleton.mpr rfl), hT, fun H1 e1 => ?_⟩
    have hb1 := e1.keep _ _ hb rfl
    refine ⟨_, rfl, _, rfl, b, C, dx, _, rfl, hb1, T.cl, T.nW, by decide, ?_⟩
    rw [putB1]
    refine ⟨_, rfl, _, rfl, b, C, dx, _, rfl, upd_same, T.cl, T.nR, (by show 1 < 1000; decide), ?_⟩
    rw [putB2]
    refine ⟨_, rfl, (by show 1 ≤ sizeLine; decide), fun l hl => ?_⟩
    have nlb : l ≠ b := fun e => by rw [e, upd_same] at hl; cases hl
    refine ⟨_, rfl, b, C, dx, _, rfl, (upd_ne nlb.symm).trans upd_same, T.cl, T.nS, (by show 2 < 1000; decide), ?_⟩
    rw [putB3]
    have q1 : ExtB b H1 (L2.upd H1 b (.ins C dx [(("_web" : Str), v)])) := ExtB.upd2 hb1 rfl
    have q2 : ExtB b _ (L2.upd (L2.upd H1 b (.ins C dx [(("_web" : Str), v)])) b (.ins C dx [(("_web" : Str), v), (("_rules" : Str), r)])) := ExtB.upd2 upd_same rfl
    have q3 := (Ext.new hl (.lst [z])).b (r := b)
    have q4 := ExtB.upd2 (r := b) (o' := .ins C dx (fsB v r l)) ((upd_ne (H := L2.upd (L2.upd H1 b (.ins C dx [(("_web" : Str), v)])) b (.ins C dx [(("_web" : Str), v), (("_rules" : Str), r)])) (a := l) (o := .lst [z]) nlb.symm).trans upd_same) rfl
    have q := (e1.b (r := b)).trans (q1.trans (q2.trans (q3.trans q4)))
    have hl1 : H1 l = none := by
      rw [upd_ne nlb, upd_ne nlb] at hl
      exact hl
    have nt : ∀ xs, H b ≠ some (.tup xs) := fun xs e => by rw [hb] at e; cases e
    refine k _ l q (e1.free hl1) ⟨dx, v, r, [z], upd_same, hW.xb q nt, hru.xb q nt, (upd_ne nlb).trans upd_same, .cons (hz.xb q nt) .nil⟩
theorem ok_Bench_state {f : Addr} {fd : FuncData} (F : Fun K "state" "Bench.state" s_Bench_state f fd) (T : BenchT K C) : FnOk P w K mg base CX0 1 f fd ["self"] (spBState C) := by
  refine F.ok sc_Bench_state (fun vs H Q E h => ?_) (fun cdv A outer s0 H vs Q E hr h => ?_)
  · obtain ⟨b, l, W, ru, past, st, rfl, _⟩ := h
    rfl
  · obtain ⟨b, l, W, ru, past, st, rfl, hB, k⟩ := h
    obtain ⟨dx, wv, rv, vs, h1, h2, h3, h4, h5⟩ := hB.ex
    refine ⟨_, (pss_one (ps_ret (pe_ix ix_list (pe_fld (pv 0) rfl) (pe_un un_neg pe_int) (fun _ _ => rfl)))), ?_⟩
    obtain ⟨v0, x, rfl, p0, hx⟩ := paired_last h5
    exact ⟨_, rfl, b, C, dx, _, _, rfl, h1, T.cl, T.nS, fsB_states, _, rfl, l, _, _, _, rfl, rfl, SqL.of h4, atI_last _ _, k _ hx⟩
theorem ok_Bench_tick {f : Addr} {fd : FuncData} (F : Fun K "tick" "Bench.tick" s_Bench_tick f fd) (T : BenchT K C) (p_state : PCal P w K mg base CX0 1 C "state" (spBState C))
    (c_state_told : Cal P w K mg base CX0 4 "state_told" ["web", "rules", "state"] spStateTold) : FnOk P w K mg base CX0 5 f fd ["self"] (spBTick C) := by
  refine F.ok sc_Bench_tick (fun vs H Q E h => ?_) (fun cdv A outer s0 H vs Q E hr h => ?_)
  · obtain ⟨b, l, W, ru, past, st, rfl, _⟩ := h
    rfl
  · obtain ⟨b, l, W, ru, past, st, rfl, hB, ok, k⟩ := h
    obtain ⟨dx, wv, rv, vs, h1, h2, h3, h4, h5⟩ := hB.ex
    refine ⟨_, (pss_one (ps_expr (pe_bmL PySem.F.plainAttrs_list PySem.F.slot_list_append PySem.F.type_list_append mt_append (pe_fld (pv 0) rfl) (pa_cons (pe_c0 c_state_told (hr.mono (by decide)) (by rfl) (pa_cons (pe_fld (pv 0) rfl) (pa_cons (pe_fld (pv 0) rfl) (pa_cons (pe_pcal p_state T.cl (hr.mono (by decide)) (pv 0)) pa_nil)))) pa_nil)))), ?_⟩
    have so := ok.st st (by simp)
    refine ⟨_, rfl, b, C, dx, _, _, rfl, h1, T.cl, T.nS, fsB_states, ⟨l, vs, rfl, h4⟩, ?_⟩
    refine ⟨_, rfl, b, C, dx, _, _, rfl, h1, T.cl, T.nW, fsB_web, _, rfl, b, C, dx, _, _, rfl, h1, T.cl, T.nR, fsB_rules, _, rfl, b, dx, _, rfl, h1, b, l, W, ru, past, st, rfl, hB, fun z hz => ?_⟩
    refine ⟨_, _, _, W, ru, st, rfl, h2, ok.ok, h3, ok.rok, hz, so, fun H1 u e1 _ hu => ?_⟩
    have hl1 := e1.lst h4
    have lvs := paired_len h5
    have lf := ok.few
    obtain ⟨q1, q2⟩ := (hB.ext e1).step hl1 ⟨u, rfl, hu⟩
    exact ⟨l, vs, _, rfl, rfl, hl1, small1000 (by omega), k _ ((e1.b (r := l)).trans q1) q2⟩
theorem ok_Bench_look {f : Addr} {fd : FuncData} (F : Fun K "look" "Bench.look" s_Bench_look f fd) (T : BenchT K C) (p_state : PCal P w K mg base CX0 1 C "state" (spBState C))
    (c_check_folk : Cal P w K mg base (L2.CX P w) 2 "check_folk" ["web", "folk"] (spCheckFolkD CF)) (c_lot_told : Cal P w K mg base CX0 4 "lot_told" ["web", "rules", "state", "lot"] spLotTold) : FnOk P w K mg base (L2.CX P w) 5 f fd ["self", "folk"] (spBLook C CF) := by
  refine F.okX sc_Bench_look (fun vs H Q E h => ?_) (fun cdv A outer s0 H vs Q E hr h => ?_)
  · obtain ⟨b, l, x, W, ru, past, st, rfl, _⟩ := h
    rfl
  · obtain ⟨b, l, x, W, ru, past, st, rfl, hB, ok, h⟩ := h
    obtain ⟨dx, wv, rv, vs, h1, h2, h3, h4, h5⟩ := hB.ex
    refine ⟨_, (pss_cons (ps_expr (pe_cal c_check_folk (hr.mono (by decide)) (by rfl) (E := E) (passes_call (takes_of rfl rfl rfl rfl) fun _ _ _ _ h => h) (pa_cons (pe_fld (pv 0) rfl) (pa_cons (pv 1) pa_nil))))
      (pss_one (ps_expr (pe_bmL PySem.F.plainAttrs_list PySem.F.slot_list_append PySem.F.type_list_append mt_append (pe_fld (pv 0) rfl) (pa_cons (pe_c0 c_lot_told (hr.mono (by decide)) (by rfl) (pa_cons (pe_fld (pv 0) rfl) (pa_cons (pe_fld (pv 0) rfl) (pa_cons (pe_pcal p_state T.cl (hr.mono (by decide)) (pv 0)) (pa_cons (pe_tup (pa_cons (pv 1) pa_nil)) pa_nil))))) pa_nil))))), ?_⟩
    have so := ok.st st (by simp)
    rcases h with ⟨n, rfl, hn, k⟩ | ⟨d, hd, hw, k⟩
    · refine ⟨_, rfl, b, C, dx, _, _, rfl, h1, T.cl, T.nW, fsB_web, _, rfl, _, _, W, .int (n : Int), rfl, h2, .int _, fun _ => ?_, fun z => ?_⟩
      · refine ⟨_, rfl, b, C, dx, _, _, rfl, h1, T.cl, T.nS, fsB_states, ⟨l, vs, rfl, h4⟩, ?_⟩
        refine ⟨_, rfl, b, C, dx, _, _, rfl, h1, T.cl, T.nW, fsB_web, _, rfl, b, C, dx, _, _, rfl, h1, T.cl, T.nR, fsB_rules, _, rfl, b, dx, _, rfl, h1, b, l, W, ru, past, st, rfl, hB, fun z hz => ?_⟩
        refine ⟨_, rfl, (by show 1 ≤ sizeLine; decide), fun t ht => ?_⟩
        have X := Ext.new ht (.tup [V.int (n : Int)])
        refine ⟨_, _, _, _, W, ru, st, (n : Int), rfl, h2.ext X, ok.ok, h3.ext X, ok.rok, hz.ext X, so, ⟨t, rfl, upd_same⟩, fun H1 u e1 _ hu => ?_⟩
        have e1' := X.trans e1
        have hl1 := e1'.lst h4
        have lvs := paired_len h5
        have lf := ok.few
        obtain ⟨q1, q2⟩ := (hB.ext e1').step hl1 ⟨u, rfl, hu⟩
        exact ⟨l, vs, _, rfl, rfl, hl1, small1000 (by omega), k _ ((e1'.b (r := l)).trans q1) q2⟩
      · rw [isW_int ⟨by omega, by omega⟩] at z
        cases z
    · refine ⟨_, rfl, b, C, dx, _, _, rfl, h1, T.cl, T.nW, fsB_web, _, rfl, _, _, W, d, rfl, h2, hd, fun z => ?_, fun _ => k⟩
      rw [hw] at z
      cases z
theorem ok_Bench_paint {f : Addr} {fd : FuncData} (F : Fun K "paint" "Bench.paint" s_Bench_paint f fd) (T : BenchT K C) (O : Own0 K mg "BadNumber" CN) (p_state : PCal P w K mg base CX0 1 C "state" (spBState C))
    (c_check_folk : Cal P w K mg base (L2.CX P w) 2 "check_folk" ["web", "folk"] (spCheckFolkD CF)) (c_is_whole : Cal P w K mg base CX0 1 "is_whole" ["value", "least", "most"] spIsWholeD) : FnOk P w K mg base (L2.CX P w) 3 f fd ["self", "folk", "mood"] (spBPaint C CF CN) := by
  refine F.okX sc_Bench_paint (fun vs H Q E h => ?_) (fun cdv A outer s0 H vs Q E hr h => ?_)
  · obtain ⟨b, l, x, y, W, ru, past, st, rfl, _⟩ := h
    rfl
  · obtain ⟨b, l, x, y, W, ru, past, st, rfl, hB, ok, h⟩ := h
    obtain ⟨dx, wv, rv, vs, h1, h2, h3, h4, h5⟩ := hB.ex
    refine ⟨_, (pss_cons (ps_expr (pe_cal c_check_folk (hr.mono (by decide)) (by rfl) (E := E) (passes_call (takes_of rfl rfl rfl rfl) fun _ _ _ _ h => h) (pa_cons (pe_fld (pv 0) rfl) (pa_cons (pv 1) pa_nil))))
      (pss_cons (ps_asg (pe_fld (pv 0) rfl) (pg_tupT (n := 2) rfl (pgs_cons (pg_name (i := 3) sc_Bench_paint.nd rfl (by first | exact Or.inl rfl | exact Or.inr rfl)) (pgs_cons (pg_name (i := 4) sc_Bench_paint.nd rfl (by first | exact Or.inl rfl | exact Or.inr rfl)) pgs_nil))))
      (pss_cons (ps_if (pt_not (pt_val (pe_c0 c_is_whole (hr.mono (by decide)) (by rfl) (pa_cons (pv 2) (pa_cons pe_int (pa_cons (pe_ix ix_tT (pv 3) (pv 1) (fun _ _ => rfl)) pa_nil))))))
        (pss_one (ps_raise0 rfl O (takes_of rfl rfl rfl rfl) (by rfl))) pss_nil)
      (pss_cons (ps_set (i := 5) sc_Bench_paint.nd rfl (by first | exact Or.inl rfl | exact Or.inr rfl) (pe_pcal p_state T.cl (hr.mono (by decide)) (pv 0)))
      (pss_one (ps_expr (pe_bmL PySem.F.plainAttrs_list PySem.F.slot_list_append PySem.F.type_list_append mt_append (pe_fld (pv 0) rfl) (pa_cons (pe_op op_catU (pe_op op_catU (pe_slice sl_tU (pv 5) po_none (po_some (pv 1))) (pe_tup (pa_cons (pv 2) pa_nil))) (pe_slice sl_tU (pv 5) (po_some (pe_op op_add (pv 1) pe_int)) po_none)) pa_nil)))))))), ?_⟩
    have so := ok.st st (by simp)
    have ls := so.len
    have h6 := ok.ok.few
    rcases h with ⟨n, rfl, hn, h⟩ | ⟨d, hd, hw, k⟩
    · refine ⟨_, rfl, b, C, dx, _, _, rfl, h1, T.cl, T.nW, fsB_web, _, rfl, _, _, W, .int (n : Int), rfl, h2, .int _, fun _ => ?_, fun z => ?_⟩
      · obtain ⟨a, t, lk, rfl, ha, ⟨tt, rfl, ht⟩, hl⟩ := id h2
        refine ⟨_, rfl, b, C, dx, _, _, rfl, h1, T.cl, T.nW, fsB_web, a, _, rfl, ha, rfl, _, _, rfl, _, _, rfl, rfl, ?_⟩
        refine ⟨_, rfl, _, rfl, _, rfl, tt, _, _, _, rfl, rfl, ht, at_of (j := n) rfl (iv_at (by have := topAt_get (W := W) (i := (n : Int)) (by omega) (by omega); rw [Int.toNat_natCast] at this; exact this)), ?_⟩
        rcases h with ⟨m, rfl, hm, k⟩ | ⟨d, hd, hw, k⟩
        · refine ⟨_, .int m, 0, topAt W (n : Int), rfl, .int _, _, rfl, ?_⟩
          rw [isW_int hm]
          refine iteF ⟨_, rfl, b, dx, _, rfl, h1, b, l, W, ru, past, st, rfl, hB, fun z hz => ?_⟩
          obtain ⟨za, rfl, hza⟩ := hz
          refine ⟨_, rfl, b, C, dx, _, _, rfl, h1, T.cl, T.nS, fsB_states, ⟨l, vs, rfl, h4⟩, ?_⟩
          refine cut_put (st := st) (n := n) (m := m) (z := za) (by omega) (by omega) rfl rfl rfl hza fun H1 u e1 hu => ?_
          have hl1 := e1.lst h4
          have lvs := paired_len h5
          have lf := ok.few
          obtain ⟨q1, q2⟩ := (hB.ext e1).step hl1 hu
          exact ⟨l, vs, _, rfl, rfl, hl1, small1000 (by omega), k _ ((e1.b (r := l)).trans q1) q2⟩
        · refine ⟨_, d, 0, topAt W (n : Int), rfl, hd, _, rfl, ?_⟩
          rw [hw]
          exact iteT k
      · rw [isW_int ⟨by omega, by omega⟩] at z
        cases z
    · refine ⟨_, rfl, b, C, dx, _, _, rfl, h1, T.cl, T.nW, fsB_web, _, rfl, _, _, W, d, rfl, h2, hd, fun z => ?_, fun _ => k⟩
      rw [hw] at z
      cases z
theorem ok_Bench_back {f : Addr} {fd : FuncData} (F : Fun K "back" "Bench.back" s_Bench_back f fd) (T : BenchT K C) (B : Blt mg) (O : Own0 K mg "BadStep" CT) : FnOk P w K mg base (L2.CX P w) 1 f fd ["self"] (spBBack C CT) := by
  refine F.okX sc_Bench_back (fun vs H Q E h => ?_) (fun cdv A outer s0 H vs Q E hr h => ?_)
  · obtain ⟨b, l, W, ru, past, st, rfl, _⟩ := h
    rfl
  · obtain ⟨b, l, W, ru, past, st, rfl, hB, ok, h⟩ := h
    obtain ⟨dx, wv, rv, vs, h1, h2, h3, h4, h5⟩ := hB.ex
    refine ⟨_, (pss_cons (ps_if (pt_cmpR op_eq (pe_callB call_len_seq (by rfl) B.len PySem.boot_len (pa_cons (pe_fld (pv 0) rfl) pa_nil)) pe_int (nomark _))
        (pss_one (ps_raise0 rfl O (takes_of rfl rfl rfl rfl) (by rfl))) pss_nil)
      (pss_one (ps_expr (pe_bm0 PySem.F.plainAttrs_list PySem.F.slot_list_pop PySem.F.type_list_pop mt_pop (pe_fld (pv 0) rfl))))), ?_⟩
    have lvs := paired_len h5
    rw [List.length_append, List.length_singleton] at lvs
    refine ⟨_, rfl, b, C, dx, _, _, rfl, h1, T.cl, T.nS, fsB_states, l, _, rfl, .inl (SqL.of h4), rfl, _, rfl, ?_⟩
    rcases h with ⟨ne, k⟩ | ⟨rfl, k⟩
    · have : 0 < past.length := List.length_pos_iff.mpr ne
      rw [decide_eq_false (fun z => by have := V.int.inj z; omega)]
      refine iteF ⟨_, rfl, b, C, dx, _, _, rfl, h1, T.cl, T.nS, fsB_states, .inl ⟨rfl, _, SqL.of h4⟩, ?_⟩
      obtain ⟨v0, x, rfl, p0, hx⟩ := paired_last h5
      obtain ⟨q1, q2⟩ := hB.drop h4
      exact ⟨l, _, x, rfl, rfl, h4, by rw [List.length_append, List.length_singleton, Nat.add_sub_cancel, List.getElem?_append_right (Nat.le_refl _), Nat.sub_self]; rfl, k _ q1 q2⟩
    · rw [decide_eq_true (by rw [lvs]; rfl)]
      exact iteT k
theorem ok_Bench_apart {f : Addr} {fd : FuncData} (F : Fun K "apart" "Bench.apart" s_Bench_apart f fd) (T : BenchT K C) (p_state : PCal P w K mg base CX0 1 C "state" (spBState C))
    (c_check_state : Cal P w K mg base (L2.CX P w) 4 "check_state" ["web", "state"] (spCheckStateD Ps CS)) (c_many_apart : Cal P w K mg base CX0 1 "many_apart" ["state", "other"] spApartN) : FnOk P w K mg base (L2.CX P w) 5 f fd ["self", "other"] (spBApart C CS Ps) := by
  refine F.okX sc_Bench_apart (fun vs H Q E h => ?_) (fun cdv A outer s0 H vs Q E hr h => ?_)
  · obtain ⟨b, l, x, W, ru, past, st, rfl, _⟩ := h
    rfl
  · obtain ⟨b, l, x, W, ru, past, st, rfl, hB, ok, hT, h⟩ := h
    obtain ⟨dx, wv, rv, vs, h1, h2, h3, h4, h5⟩ := hB.ex
    refine ⟨_, (pss_cons (ps_expr (pe_cal c_check_state (hr.mono (by decide)) (by rfl) (E := E) (passes_call (takes_of rfl rfl rfl rfl) fun _ _ _ _ h => h) (pa_cons (pe_fld (pv 0) rfl) (pa_cons (pv 1) pa_nil))))
      (pss_one (ps_ret (pe_c0 c_many_apart (hr.mono (by decide)) (by rfl) (pa_cons (pe_pcal p_state T.cl (hr.mono (by decide)) (pv 0)) (pa_cons (pv 1) pa_nil)))))), ?_⟩
    have so := ok.st st (by simp)
    have ls := so.len
    have h6 := ok.ok.few
    rcases h with ⟨t, ht, to, k⟩ | ⟨d, hd, hw, k⟩
    · have hs := isStD_ok to
      refine ⟨_, rfl, b, C, dx, _, _, rfl, h1, T.cl, T.nW, fsB_web, _, rfl, _, _, W, _, rfl, h2, ok.ok.fewL, Dq.ofTI ht, hT, fun _ H1 e1 => ?_, fun z => ?_⟩
      · refine ⟨_, rfl, b, dx, _, rfl, e1.keep _ _ h1 rfl, b, l, W, ru, past, st, rfl, hB.ext e1, fun z hz => ?_⟩
        exact ⟨_, rfl, _, _, st, t, rfl, hz, ht.ext e1, by rw [ls, to.len], by omega, fun H2 e2 => k _ (e1.trans e2)⟩
      · rw [hs] at z
        cases z
    · refine ⟨_, rfl, b, C, dx, _, _, rfl, h1, T.cl, T.nW, fsB_web, _, rfl, _, _, W, d, rfl, h2, ok.ok.fewL, hd, hT, fun z => ?_, fun _ => k⟩
      rw [hw] at z
      cases z
theorem ok_Bench_uneasy {f : Addr} {fd : FuncData} (F : Fun K "uneasy" "Bench.uneasy" s_Bench_uneasy f fd) (T : BenchT K C) (B : Blt mg) (p_state : PCal P w K mg base CX0 1 C "state" (spBState C))
    (c_uneasy_folk : Cal P w K mg base CX0 4 "uneasy_folk" ["web", "rules", "state"] spUneasy) : FnOk P w K mg base CX0 5 f fd ["self"] (spBUneasy C) := by
  refine F.ok sc_Bench_uneasy (fun vs H Q E h => ?_) (fun cdv A outer s0 H vs Q E hr h => ?_)
  · obtain ⟨b, l, W, ru, past, st, rfl, _⟩ := h
    rfl
  · obtain ⟨b, l, W, ru, past, st, rfl, hB, ok, k⟩ := h
    obtain ⟨dx, wv, rv, vs, h1, h2, h3, h4, h5⟩ := hB.ex
    refine ⟨_, (pss_one (ps_ret (pe_tupleL (by rfl) B.tuple (pe_c0 c_uneasy_folk (hr.mono (by decide)) (by rfl) (pa_cons (pe_fld (pv 0) rfl) (pa_cons (pe_fld (pv 0) rfl) (pa_cons (pe_pcal p_state T.cl (hr.mono (by decide)) (pv 0)) pa_nil))))))), ?_⟩
    have so := ok.st st (by simp)
    refine ⟨_, rfl, b, C, dx, _, _, rfl, h1, T.cl, T.nW, fsB_web, _, rfl, b, C, dx, _, _, rfl, h1, T.cl, T.nR, fsB_rules, _, rfl, b, dx, _, rfl, h1, b, l, W, ru, past, st, rfl, hB, fun z hz => ?_⟩
    refine ⟨_, _, _, W, ru, st, rfl, h2, ok.ok, h3, ok.rok, hz, so, fun H1 p e1 _ hp => ?_⟩
    refine ⟨p, _, rfl, hp, fun u hu => ?_⟩
    exact k _ _ (e1.trans (Ext.new hu _)) ⟨u, rfl, upd_same⟩
theorem ok_Bench_near {f : Addr} {fd : FuncData} (F : Fun K "near" "Bench.near" s_Bench_near f fd) (T : BenchT K C) (B : Blt mg) (bmin : mg "min" = none) (p_state : PCal P w K mg base CX0 1 C "state" (spBState C))
    (c_settled_states : Cal P w K mg base CX0 5 "settled_states" ["web", "rules"] spSettledStates) (c_many_apart : Cal P w K mg base CX0 1 "many_apart" ["state", "other"] spApartN) : FnOk P w K mg base CX0 6 f fd ["self"] (spBNear C) := by
  refine F.ok sc_Bench_near (fun vs H Q E h => ?_) (fun cdv A outer s0 H vs Q E hr h => ?_)
  · obtain ⟨b, l, W, ru, past, st, rfl, _⟩ := h
    rfl
  · obtain ⟨b, l, W, ru, past, st, rfl, hB, ok, k⟩ := h
    obtain ⟨dx, wv, rv, vs, h1, h2, h3, h4, h5⟩ := hB.ex
    refine ⟨_, (pss_cons (ps_set (i := 1) sc_Bench_near.nd rfl (by first | exact Or.inl rfl | exact Or.inr rfl) (pe_pcal p_state T.cl (hr.mono (by decide)) (pv 0)))
      (pss_cons (ps_setLc (i := 3) (own := [("other", 2)]) rfl sc_Bench_near.nd rfl rfl (sw_true rfl rfl rfl (by decide +kernel)) (pi_tup (pe_c0 c_settled_states (hr.mono (by decide)) (by rfl) (pa_cons (pe_fld (pv 0) rfl) (pa_cons (pe_fld (pv 0) rfl) pa_nil)))) (blkOk_by (N := ["self", "now", "other", "found", "_", "nearest"]) (sc := defScope s_Bench_near) (by decide +kernel)) (fun _ _ _ _ _ => (pg_name (i := 2) sc_Bench_near.nd rfl (by first | exact Or.inl rfl | exact Or.inr rfl))) (fun _ _ _ _ _ => pts_nil) (fun _ _ _ _ _ => (pe_tup (pa_cons (pe_c0 c_many_apart (hr.mono (by decide)) (by rfl) (pa_cons (pv 1) (pa_cons (pv 2) pa_nil))) (pa_cons (pv 2) pa_nil)))))
      (pss_cons (ps_if (pt_not (pt_truthK (K := K) rfl (pv 3)))
        (pss_one (ps_ret pe_non)) pss_nil)
      (pss_cons (ps_asg (pe_callB (cr_minNR rfl hr.units) (by rfl) bmin boot_min (pa_cons (pv 3) pa_nil)) (pg_tupT (n := 2) rfl (pgs_cons (pg_name (i := 4) sc_Bench_near.nd rfl (by first | exact Or.inl rfl | exact Or.inr rfl)) (pgs_cons (pg_name (i := 5) sc_Bench_near.nd rfl (by first | exact Or.inl rfl | exact Or.inr rfl)) pgs_nil))))
      (pss_one (ps_ret (pv 5))))))), ?_⟩
    have so := ok.st st (by simp)
    have ls := so.len
    have h6 := ok.ok.few
    refine ⟨_, rfl, b, dx, _, rfl, h1, b, l, W, ru, past, st, rfl, hB, fun z hz => ?_⟩
    refine ⟨_, rfl, b, C, dx, _, _, rfl, h1, T.cl, T.nW, fsB_web, _, rfl, b, C, dx, _, _, rfl, h1, T.cl, T.nR, fsB_rules, ?_⟩
    refine ⟨_, _, W, ru, rfl, h2, ok.ok, h3, ok.rok, fun H1 u e1 hu => ?_⟩
    obtain ⟨_, us, e, hua, hus⟩ := hu
    cases e
    have lus : us.length ≤ 4096 := by
      rw [paired_len hus]
      exact Nat.le_trans (List.length_filter_le _ _) (rows_few ok.ok)
    have hz1 := hz.ext e1
    refine ⟨u, rfl, ⟨_, SqT.of hua⟩, fun D hD => ?_⟩
    refine lc_fmT (R := TI) (S := PrN) stTI stPrN (fun s => some (((apartN st s : Nat) : Int), s)) hD hua hus (Nat.le_trans lus (by decide)) (fun x s H2 Ky Kn e2 hm hx k1 k2 => ?_) fun H2 acc e2 hacc hpa => ?_
    · have ss := settled_st hm
      refine ⟨rfl, yes ?_⟩
      refine ⟨_, rfl, _, rfl, _, _, st, s, rfl, hz1.ext e2, hx, by rw [ls, ss.len], by omega, fun H3 e3 => ?_⟩
      refine ⟨_, rfl, (by show 2 ≤ sizeLine; decide), fun t ht => ?_⟩
      have X := Ext.new ht (.tup [V.int (apartN st s : Nat), x])
      obtain ⟨xa, rfl, hxa⟩ := hx.ext (e3.trans X)
      exact k1 _ _ _ rfl (e3.trans X) ⟨t, xa, rfl, upd_same, hxa⟩
    · have hm1 : (settledStates W ru).filterMap (fun s => some (((apartN st s : Nat) : Int), s)) = (settledStates W ru).map fun s => (((apartN st s : Nat) : Int), s) := congrFun List.filterMap_eq_map _
      rw [hm1] at hpa
      have E2 := e1.trans e2
      refine ⟨_, rfl, !acc.isEmpty, .inl ⟨acc, SqL.of hacc, rfl⟩, ?_⟩
      by_cases hne : settledStates W ru = []
      · rw [hne] at hpa
        cases hpa
        exact iteT (k _ _ E2 (.inl ⟨hne, rfl⟩))
      · have hacc0 : acc.isEmpty = false := by
          cases hpa' : acc with
          | nil =>
            rw [hpa'] at hpa
            cases hs : settledStates W ru with
            | nil => exact absurd hs hne
            | cons a r => rw [hs] at hpa; cases hpa
          | cons a r => rfl
        rw [hacc0]
        refine iteF ⟨_, rfl, D, acc, _, rfl, hacc, hpa, fun z => hne (List.map_eq_nil_iff.mp z), fun v r hl hv => ?_⟩
        obtain ⟨p, q, rfl, hp, hq⟩ := hv
        exact ⟨p, _, rfl, hp, rfl, _, _, rfl, _, _, rfl, rfl, _, rfl, k _ _ E2 (.inr ⟨r, hl, q, rfl, hq⟩)⟩
end
theorem bench_end : True := trivial
section
end
end Lk


/-! ## FnU -/
set_option Elab.async false
set_option linter.all false
/-! A def's promise, with more room; one of two promises. -/
namespace Lk
open PySem PySem.Spec PyProof.Rows L2
variable {P : Program} {w : World} {K : PySem.W.Frag} {mg : Str → Option Value} {base : Heap} {CX : CXT} {k k' : Nat} {f : Addr} {fd : FuncData} {ps : List Str} {sp sp' : Sp}
theorem fn_up (h : k ≤ k') (F : FnOk P w K mg base CX k f fd ps sp) : FnOk P w K mg base CX k' f fd ps sp :=
  ⟨F.len, fun A outer s H args us vs Q E hr => F.run A outer s H args us vs Q E (hr.mono h)⟩
theorem fn_or (F : FnOk P w K mg base CX k f fd ps sp) (F' : FnOk P w K mg base CX k f fd ps sp') : FnOk P w K mg base CX k f fd ps (fun vs H Q E => sp vs H Q E ∨ sp' vs H Q E) :=
  ⟨fun vs H Q E h => h.elim (F.len vs H Q E) (F'.len vs H Q E), fun A outer s H args us vs Q E hr he hb hv hs => hs.elim (F.run A outer s H args us vs Q E hr he hb hv) (F'.run A outer s H args us vs Q E hr he hb hv)⟩
end Lk

/-! ## EndBn -/
set_option Elab.async false
set_option linter.all false
set_option maxRecDepth 100000
set_option maxHeartbeats 4000000
/-! The class Bench, as the heap behind the program's lines tells it. -/
namespace Lk
open PySem PySem.Spec PyProof.Rows L2 Gx
/-- a method of a class -/
def MetG (K : PySem.W.Frag) (C : Addr) (m q : Str) (st : Stmt) : Prop := ∃ f fd, Meth K C m f ∧ Fun K m q st f fd
/-- a property of a class -/
def PrpG (K : PySem.W.Frag) (C : Addr) (m q : Str) (st : Stmt) : Prop := ∃ p g fd, PropOf K C m p g ∧ Fun K m q st g fd
section
variable [Own] {P : Program} {w : World} {K : PySem.W.Frag} {mg : Str → Option Value} {base : Heap} {CX : CXT} {k : Nat} {C : Addr} {m q : Str} {st : Stmt} {ns : List Str} {sp : Sp}
theorem MetG.cal (G : MetG K C m q st) (hb : ∀ (kV doc pm : Value) (an : Option Addr) (cdv ct : Value) (us : List Value), us.length = ns.length → bindArgs (PySem.W.fnOf m q (defArgs st) (defBody st) (defScope st) .none kV doc pm an cdv ct) ⟨us, []⟩ = pure (ns.zip us))
    (ok : ∀ f fd, Fun K m q st f fd → FnOk P w K mg base CX k f fd ns sp) : MCal P w K mg base CX k C m ns sp := by
  obtain ⟨f, fd, M, F⟩ := G
  exact ⟨f, fd, M, F.binds hb, ok f fd F⟩
theorem PrpG.cal (G : PrpG K C m q st) (hb : ∀ (kV doc pm : Value) (an : Option Addr) (cdv ct : Value) (us : List Value), us.length = 1 → bindArgs (PySem.W.fnOf m q (defArgs st) (defBody st) (defScope st) .none kV doc pm an cdv ct) ⟨us, []⟩ = pure ([("self" : Str)].zip us))
    (ok : ∀ f fd, Fun K m q st f fd → FnOk P w K mg base CX k f fd ["self"] sp) : PCal P w K mg base CX k C m sp := by
  obtain ⟨p, g, fd, M, F⟩ := G
  exact ⟨p, g, fd, M, F.binds hb, ok g fd F⟩
end
theorem metG_mk {K : PySem.W.Frag} {C f : Addr} {m q : Str} {st : Stmt} {oc : Value} {od an : Option Addr} {osl : Array (Option Value)} {kV doc pm cdv ct : Value}
    (a : PySem.W.findIn K (.ref C) m = some (some (.ref f))) (i : PySem.W.isFn K (.ref f) = true)
    (l : K.lookup f = some ⟨oc, od, .func (PySem.W.fnOf m q (defArgs st) (defBody st) (defScope st) .none kV doc pm an cdv ct), osl⟩) (c : PySem.W.codeIn K cdv q = true) (k : PySem.W.keepIn K (.ref f) = true) : MetG K C m q st :=
  ⟨f, _, ⟨a, i, k⟩, L2.fun_mk l c k⟩
theorem prpG_mk {K : PySem.W.Frag} {C p f : Addr} {m q : Str} {st : Stmt} {rest : List Value} {oc : Value} {od an : Option Addr} {osl : Array (Option Value)} {kV doc pm cdv ct : Value}
    (a : PySem.W.findIn K (.ref C) m = some (some (.ref p))) (g : PySem.W.specialIn K (.ref p) "__get__" = some (some (.builtin "property.__get__"))) (t : PySem.W.takesIn K (.ref p) = some true) (r : PySem.W.recIn K p "property" = some (.ref f :: rest))
    (l : K.lookup f = some ⟨oc, od, .func (PySem.W.fnOf m q (defArgs st) (defBody st) (defScope st) .none kV doc pm an cdv ct), osl⟩) (c : PySem.W.codeIn K cdv q = true) (k : PySem.W.keepIn K (.ref f) = true) : PrpG K C m q st :=
  ⟨p, f, _, ⟨a, g, t, rest, r⟩, L2.fun_mk l c k⟩
/-- the class -/
structure BenchG (K : PySem.W.Frag) (mg : Str → Option Value) (C : Addr) : Prop where
  t : BenchT K C
  m : mg "Bench" = some (.ref C)
  init : ∃ f fd, Mk K C f ∧ Binds K fd ["self", "web", "rules", "state"] [] ∧ Fun K "__init__" "Bench.__init__" s_Bench___init__ f fd
  tick : MetG K C "tick" "Bench.tick" s_Bench_tick
  look : MetG K C "look" "Bench.look" s_Bench_look
  paint : MetG K C "paint" "Bench.paint" s_Bench_paint
  back : MetG K C "back" "Bench.back" s_Bench_back
  apart : MetG K C "apart" "Bench.apart" s_Bench_apart
  state : PrpG K C "state" "Bench.state" s_Bench_state
  uneasy : PrpG K C "uneasy" "Bench.uneasy" s_Bench_uneasy
  near : PrpG K C "near" "Bench.near" s_Bench_near
theorem benchG_mk {K : PySem.W.Frag} {h : Heap} {mg : Str → Option Value} {C fB : Addr} (X : K.In h) (G : h.Ns mainGlobals mg) {oc : Value} {od an : Option Addr} {osl : Array (Option Value)} {kV doc pm cdv ct : Value}
    (n : PySem.W.nsIn K mainGlobals "Bench" = some (some (.ref C))) (pg : PySem.W.plainGet K C Str.empty = true) (hd : PySem.W.hasDictIn K C = true) (po : PySem.W.plainOver K C = true) (sa : PySem.W.findIn K (.ref C) "__setattr__" = some (some (.builtin "object.__setattr__")))
    (nW : PySem.W.findIn K (.ref C) "_web" = some none) (nR : PySem.W.findIn K (.ref C) "_rules" = some none) (nS : PySem.W.findIn K (.ref C) "_states" = some none)
    (mk : PySem.W.makesIn K C = true) (i : PySem.W.findIn K (.ref C) "__init__" = some (some (.ref fB))) (fn : PySem.W.isFn K (.ref fB) = true) (kC : PySem.W.keepIn K (.ref C) = true)
    (l : K.lookup fB = some ⟨oc, od, .func (PySem.W.fnOf "__init__" "Bench.__init__" (defArgs s_Bench___init__) (defBody s_Bench___init__) (defScope s_Bench___init__) .none kV doc pm an cdv ct), osl⟩) (c : PySem.W.codeIn K cdv "Bench.__init__" = true) (k : PySem.W.keepIn K (.ref fB) = true)
    (g_tick : MetG K C "tick" "Bench.tick" s_Bench_tick) (g_look : MetG K C "look" "Bench.look" s_Bench_look) (g_paint : MetG K C "paint" "Bench.paint" s_Bench_paint) (g_back : MetG K C "back" "Bench.back" s_Bench_back) (g_apart : MetG K C "apart" "Bench.apart" s_Bench_apart) (g_state : PrpG K C "state" "Bench.state" s_Bench_state) (g_uneasy : PrpG K C "uneasy" "Bench.uneasy" s_Bench_uneasy) (g_near : PrpG K C "near" "Bench.near" s_Bench_near) : ∃ C, BenchG K mg C :=
  ⟨C, ⟨⟨pg, hd, po, sa⟩, nW, nR, nS⟩, PySem.W.mg_of X G n, ⟨fB, _, ⟨mk, i, fn, kC⟩, (L2.fun_mk l c k).binds (fun _ _ _ _ _ _ us hl => match us, hl with | [_, _, _, _], _ => rfl), L2.fun_mk l c k⟩, g_tick, g_look, g_paint, g_back, g_apart, g_state, g_uneasy, g_near⟩
end Lk

/-! ## GtB -/
set_option Elab.async false
set_option linter.all false
set_option maxRecDepth 100000
set_option maxHeartbeats 4000000
/-! Tables of one's own that grow, one by one; parts of a text. -/
namespace Lk
open PySem PySem.Spec PyProof.Rows L2 Gx LamX
open GxR (TabG Tabbed)
variable [Own]
def retArg (i : Nat) : Stmt → Expr
  | .Return (some (.Call _ as _ _)) _ => as.getD i (.Constant .none 0 ⟨0, 0, 0, 0⟩)
  | _ => .Constant .none 0 ⟨0, 0, 0, 0⟩
/-- as seen without tables of one's own -/
abbrev ExtF (H H' : Hp) : Prop := @Ext ⟨fun _ => False⟩ H H'
theorem weak {H H' : Hp} (e : Ext H H') : ExtF H H' := @Ext.mk ⟨fun _ => False⟩ _ _ e.keep e.tab e.tb (fun _ _ z _ => z.elim)
/-- only the table at T, of all one's own, may have grown -/
structure Gt (T : Addr) (H H' : Hp) : Prop where
  ext : ExtF H H'
  own : ∀ P ps, Own.own P → P ≠ T → H P = some (.tbl ps) → H' P = some (.tbl ps)
theorem Gt.refl {T : Addr} (H : Hp) : Gt T H H := ⟨@Ext.refl ⟨fun _ => False⟩ H, fun _ _ _ _ h => h⟩
theorem Gt.trans {T : Addr} {H H1 H2 : Hp} (a : Gt T H H1) (b : Gt T H1 H2) : Gt T H H2 := ⟨@Ext.trans ⟨fun _ => False⟩ _ _ _ a.ext b.ext, fun P ps o n h => b.own P ps o n (a.own P ps o n h)⟩
theorem Ext.gt {T : Addr} {H H' : Hp} (e : Ext H H') : Gt T H H' := ⟨weak e, fun P ps o _ h => e.own P ps o h⟩
/-- a def, as it is called -/
structure GCal (K : PySem.W.Frag) (mg : Str → Option Value) (x : Str) (st : Stmt) (ps : List Str) : Prop where
  ex : ∃ g fd, mg x = some (.ref g) ∧ PySem.W.keepIn K (.ref g) = true ∧ Binds K fd ps [] ∧ Fun K x x st g fd
theorem lamGt {T : Addr} {q : Str} {H1 H2 : Hp} (t1 : TabS H1 T q) (kp : ∀ b o, b ≠ T → H1 b = some o → H2 b = some o) (t2 : TabS H2 T q) : Gt T H1 H2 := by
  refine ⟨?_, fun P ps _ n h => kp P _ n h⟩
  obtain ⟨p1, a1, b1, _⟩ := t1
  obtain ⟨p2, a2, b2, _⟩ := t2
  refine @Ext.mk ⟨fun _ => False⟩ _ _ (fun a o h q => kp a o (fun z => ?_) h) (fun P h => ?_) (fun a o h => ?_) (fun _ _ z _ => z.elim)
  · rw [z, a1] at h
    cases h
    cases q
  · by_cases z : P = T
    · rw [z]
      exact ⟨p2, a2, b2⟩
    · obtain ⟨ps, e, t⟩ := h
      exact ⟨ps, kp P _ z e, t⟩
  · by_cases z : a = T
    · rw [z]
      exact ⟨_, a2⟩
    · exact ⟨o, kp a o z h⟩
end Lk

/-! ## OpLS -/
set_option Elab.async false
set_option linter.all false
set_option maxRecDepth 100000
set_option maxHeartbeats 2000000
/-! Lists of texts, tuples of rows, compared. -/
namespace Lk
open PySem PySem.Spec PyProof.Rows L2 Gx
variable [Own]
/-- a list of texts -/
def LS (H : Hp) (v : V) (ss : List Str) : Prop := ∃ a, v = .ref a ∧ H a = some (.lst (ss.map V.str))
theorem eqv_str (a b : Str) : PyData.eqv (.str a) (.str b) = decide (a = b) := by
  simp only [PyData.eqv]
  first | rfl | exact Bool.beq_eq_decide_eq .. | (by_cases h : a = b <;> simp [h])
theorem eqvAll_strs : ∀ a b : List Str, PyData.eqvAll (a.map .str) (b.map .str) = decide (a = b)
  | [], [] => by simp [PyData.eqvAll]
  | [], _ :: _ => by simp [PyData.eqvAll]
  | _ :: _, [] => by simp [PyData.eqvAll]
  | x :: xs, y :: ys => by
    rw [List.map_cons, List.map_cons]
    simp only [PyData.eqvAll]
    rw [eqv_str, eqvAll_strs xs ys]
    by_cases h1 : x = y <;> by_cases h2 : xs = ys <;> simp [h1, h2]
theorem canLay_strs : ∀ a : List Str, a.all PyData.strOk = true → PyData.canLayAll0 (a.map .str) = true
  | [], _ => by simp [PyData.canLayAll0]
  | x :: xs, h => by
    rw [List.all_cons, Bool.and_eq_true] at h
    rw [List.map_cons]
    simp only [PyData.canLayAll0, PyData.canLay0, canLay_strs xs h.2, h.1, Bool.and_self]
theorem depth_strs : ∀ a : List Str, PyData.depthAll (a.map .str) = 0
  | [] => by simp [PyData.depthAll]
  | x :: xs => by
    rw [List.map_cons]
    simp only [PyData.depthAll, PyData.depth, depth_strs xs, Nat.max_self]
theorem shaped_ls (a : List Str) (h : a.all PyData.strOk = true) : SeqAt.shaped (.list (a.map .str)) = true := by
  unfold SeqAt.shaped
  simp only [PyData.canLay0, canLay_strs a h, PyData.depth, depth_strs a, Bool.true_and]
  decide
theorem dpAll_strs {K : PySem.W.Frag} {H : Hp} : ∀ ss : List Str, DpAll K H (ss.map V.str) (ss.map .str)
  | [] => .nil
  | s :: ss => .cons (.str s) (dpAll_strs ss)
theorem LS.dp {K : PySem.W.Frag} {H : Hp} {v : V} {ss : List Str} (h : LS H v ss) : Dp K H v (.list (ss.map .str)) := by
  obtain ⟨a, rfl, h⟩ := h
  exact .lst (SqL.of h) (dpAll_strs ss)
theorem eqv_ls (a b : List Str) : PyData.eqv (.list (a.map .str)) (.list (b.map .str)) = decide (a = b) := by
  simp only [PyData.eqv]
  exact eqvAll_strs a b
def rEqLS : R2 := fun x y H Q => ∃ a b : List Str, LS H x a ∧ LS H y b ∧ a.all PyData.strOk = true ∧ b.all PyData.strOk = true ∧ Q (.bl (decide (a = b))) H
theorem op_eqLS {X : Cx} (hu : X.A.units + 64 < cLine) : OpR X (compareOp .Eq) rEqLS := by
  intro pins s σ H x y v u Q I rx ry h
  obtain ⟨a, b, h1, h2, ha, hb, q⟩ := h
  exact op_eqD hu pins s σ H x y v u Q I rx ry ⟨_, _, h1.dp, h2.dp, shaped_ls a ha, shaped_ls b hb, by rw [eqv_ls]; exact q⟩
theorem eqv_tl (a b : List (List Int)) : PyData.eqv (.tuple (a.map dI)) (.tuple (b.map dI)) = decide (a = b) := by
  simp only [PyData.eqv]
  exact eqvAll_rows a b
/-- two tuples of rows -/
def rNeTT2 : R2 := fun x y H Q => ∃ a b : List (List Int), TT2 H x a ∧ TT2 H y b ∧ Q (.bl (!decide (a = b))) H
def rEqTT2 : R2 := fun x y H Q => ∃ a b : List (List Int), TT2 H x a ∧ TT2 H y b ∧ Q (.bl (decide (a = b))) H
theorem op_neTT2 {X : Cx} (hu : X.A.units + 64 < cLine) : OpR X (compareOp .NotEq) rNeTT2 := by
  intro pins s σ H x y v u Q I rx ry h
  obtain ⟨a, b, h1, h2, q⟩ := h
  exact op_neD hu pins s σ H x y v u Q I rx ry ⟨_, _, h1.dp, h2.dp, shaped_tl a, shaped_tl b, by rw [eqv_tl]; exact q⟩
theorem op_eqTT2 {X : Cx} (hu : X.A.units + 64 < cLine) : OpR X (compareOp .Eq) rEqTT2 := by
  intro pins s σ H x y v u Q I rx ry h
  obtain ⟨a, b, h1, h2, q⟩ := h
  exact op_eqD hu pins s σ H x y v u Q I rx ry ⟨_, _, h1.dp, h2.dp, shaped_tl a, shaped_tl b, by rw [eqv_tl]; exact q⟩
end Lk

/-! ## OpLB -/
set_option Elab.async false
set_option linter.all false
set_option maxRecDepth 100000
set_option maxHeartbeats 2000000
/-! Two lists of bools. -/
namespace Lk
open PySem PySem.Spec PyProof.Rows L2 Gx
variable [Own]
def LB (H : Hp) (v : V) (bs : List Bool) : Prop := ∃ a, v = .ref a ∧ H a = some (.lst (bs.map V.bl))
theorem eqv_bool (a b : Bool) : PyData.eqv (.bool a) (.bool b) = decide (a = b) := by
  cases a <;> cases b <;> decide +kernel
theorem eqvAll_bools : ∀ a b : List Bool, PyData.eqvAll (a.map .bool) (b.map .bool) = decide (a = b)
  | [], [] => by simp [PyData.eqvAll]
  | [], _ :: _ => by simp [PyData.eqvAll]
  | _ :: _, [] => by simp [PyData.eqvAll]
  | x :: xs, y :: ys => by
    rw [List.map_cons, List.map_cons]
    simp only [PyData.eqvAll]
    rw [eqv_bool, eqvAll_bools xs ys]
    by_cases h1 : x = y <;> by_cases h2 : xs = ys <;> simp [h1, h2]
theorem canLay_bools : ∀ a : List Bool, PyData.canLayAll0 (a.map .bool) = true
  | [] => by simp [PyData.canLayAll0]
  | x :: xs => by
    rw [List.map_cons]
    simp only [PyData.canLayAll0, PyData.canLay0, canLay_bools xs, Bool.and_self]
theorem depth_bools : ∀ a : List Bool, PyData.depthAll (a.map .bool) = 0
  | [] => by simp [PyData.depthAll]
  | x :: xs => by
    rw [List.map_cons]
    simp only [PyData.depthAll, PyData.depth, depth_bools xs, Nat.max_self]
theorem shaped_lb (a : List Bool) : SeqAt.shaped (.list (a.map .bool)) = true := by
  unfold SeqAt.shaped
  simp only [PyData.canLay0, canLay_bools a, PyData.depth, depth_bools a, Bool.true_and]
  decide
theorem dpAll_bools {K : PySem.W.Frag} {H : Hp} : ∀ bs : List Bool, DpAll K H (bs.map V.bl) (bs.map .bool)
  | [] => .nil
  | s :: ss => .cons (.bl s) (dpAll_bools ss)
theorem LB.dp {K : PySem.W.Frag} {H : Hp} {v : V} {ss : List Bool} (h : LB H v ss) : Dp K H v (.list (ss.map .bool)) := by
  obtain ⟨a, rfl, h⟩ := h
  exact .lst (SqL.of h) (dpAll_bools ss)
theorem eqv_lb (a b : List Bool) : PyData.eqv (.list (a.map .bool)) (.list (b.map .bool)) = decide (a = b) := by
  simp only [PyData.eqv]
  exact eqvAll_bools a b
def rNeLB : R2 := fun x y H Q => ∃ a b : List Bool, LB H x a ∧ LB H y b ∧ Q (.bl (!decide (a = b))) H
theorem op_neLB {X : Cx} (hu : X.A.units + 64 < cLine) : OpR X (compareOp .NotEq) rNeLB := by
  intro pins s σ H x y v u Q I rx ry h
  obtain ⟨a, b, h1, h2, q⟩ := h
  exact op_neD hu pins s σ H x y v u Q I rx ry ⟨_, _, h1.dp, h2.dp, shaped_lb a, shaped_lb b, by rw [eqv_lb]; exact q⟩
end Lk

/-! ## OpRp -/
set_option Elab.async false
set_option linter.all false
set_option maxRecDepth 100000
set_option maxHeartbeats 4000000
/-! t * 1, t a tuple; two bools compared. -/
namespace Lk
open PySem PySem.Spec PyProof.Rows L2 Gx
variable [Own]
theorem tuple_mul1 (l : Addr) (items : Array Value) (n : Nat) (dd : Option Addr) (sl : Array (Option Value)) (u : Tok) :
    Meets (Builtin.«tuple.__mul__» ⟨[.ref l, .int 1 u], []⟩) (fun _ R s => s.heap.get? l = some { cls := .type "tuple", dict := dd, data := .seq items n, slots := sl } ∧ R (.ok (.ret (Value.ref l))) s) :=
  .of_wp fun prog w A R s h => by
    obtain ⟨hp, g, d, tk, os⟩ := s
    obtain ⟨hl, h⟩ := h
    have f1 := AutoSeq1.idx_int
    have c0 : (decide ((1 : Int) < -(2 ^ 63)) || decide ((1 : Int) ≥ 2 ^ 63)) = false := by decide
    wp_walk using wpAny_loadPart' hl
    exact ⟨_, rfl, h⟩
/-- t * k, a new tuple or the same one -/
def rRepU : R2 := fun x y H Q => ∃ (l : Addr) (k : Int) (xs : List V), x = .ref l ∧ y = .int k ∧ H l = some (.tup xs) ∧ xs ≠ [] ∧ 1 ≤ k ∧ k ≤ 1000 ∧ xs.length ≤ 1000 ∧ ∀ H' p, Ext H H' → H' p = some (.tup (List.replicate k.toNat xs).flatten) → Q (.ref p) H'
theorem op_repU {X : Cx} : OpR X (binaryOp .Mult) rRepU := by
  intro pins s σ H x y v u Q I rx ry h
  obtain ⟨l, k, xs, rfl, rfl, hT, hne, h1, h2, hz, q⟩ := h
  by_cases hk : k = 1
  · subst hk
    cases rx
    obtain ⟨t, rfl⟩ := ry
    obtain ⟨its, r, ⟨⟨cls, dd, data, sl⟩, ho, hc, n, hd⟩, hs⟩ := I.tuple (SqT.of hT)
    simp only at hc hd
    subst hc hd
    refine wpAny_binaryOp_repeat_ref (T := "tuple") (U := "int") (by decide) ⟨_, ho, rfl⟩ (fun s' => typeIs_int s' 1 t) noFill_tuple_mul F.fills_int_mul F.slot_int_rmul repeat_tuple F.slot_int_index.lookup
      (call_meets F.slot_int_rmul (typeIs_int s 1 t) F.entry_int_rmul (F.args_int_rmul_2 _ _) (int_rmul_tuple 1 t l its.toArray n dd sl)
        ⟨ho, rfl, ⟨_, ho, rfl⟩, call_meets F.slot_tuple_mul ⟨_, ho, rfl⟩ F.entry_tuple_mul (F.args_tuple_mul_2 _ _) (tuple_mul1 l its.toArray n dd sl t) ⟨ho, ?_⟩⟩)
    exact ⟨.ref l, H, I, rfl, q H l (Ext.refl H) (by rw [hT]; simp)⟩
  · exact op_repT pins s σ H _ _ v u Q I rx ry ⟨l, k, xs, rfl, rfl, SqT.of hT, hne, by omega, h2, hz, fun p hp => q _ p (Ext.new hp _) upd_same⟩
/-- two bools -/
def rEqBl : R2 := fun x y H Q => ∃ a b : Bool, x = .bl a ∧ y = .bl b ∧ Q (.bl (decide (a = b))) H
def rNeBl : R2 := fun x y H Q => ∃ a b : Bool, x = .bl a ∧ y = .bl b ∧ Q (.bl (!decide (a = b))) H
theorem shaped_bool (a : Bool) : SeqAt.shaped (.bool a) = true := by
  unfold SeqAt.shaped
  cases a <;> decide +kernel
theorem op_eqBl {X : Cx} (hu : X.A.units + 64 < cLine) : OpR X (compareOp .Eq) rEqBl := by
  intro pins s σ H x y v u Q I rx ry h
  obtain ⟨a, b, rfl, rfl, q⟩ := h
  exact op_eqD hu pins s σ H _ _ v u Q I rx ry ⟨_, _, .bl a, .bl b, shaped_bool a, shaped_bool b, by rw [eqv_bool]; exact q⟩
theorem op_neBl {X : Cx} (hu : X.A.units + 64 < cLine) : OpR X (compareOp .NotEq) rNeBl := by
  intro pins s σ H x y v u Q I rx ry h
  obtain ⟨a, b, rfl, rfl, q⟩ := h
  exact op_neD hu pins s σ H _ _ v u Q I rx ry ⟨_, _, .bl a, .bl b, shaped_bool a, shaped_bool b, by rw [eqv_bool]; exact q⟩
end Lk

/-! ## CallW -/
set_option Elab.async false
set_option linter.all false
set_option maxRecDepth 100000
set_option maxHeartbeats 2000000
/-! A def held in a variable, one of some, called. -/
namespace Lk
open PySem PySem.Spec PyProof.Rows L2 Gx
variable [Own]
/-- a def that a slot may hold, one of some -/
def tCallW (i : Nat) (S : Addr → Option Sp) (E : XK) (t : TA) : TE := fun σ H Q => ∃ f sp, σ[i]? = some (some (.ref f)) ∧ S f = some sp ∧ t σ H fun vs H1 => sp vs H1 Q E
theorem pe_callW {X : Cx} {CX : CXT} {S : Addr → Option Sp} {i k : Nat} {E : XK} {x : Str} {p pos : Pos} {e : Expr} {es : List Expr} {t : TA} (A : ∀ f sp, S f = some sp → ∃ (fd : FuncData) (ps : List Str), FnOk X.prog X.w X.K X.mg X.base CX k f fd ps sp ∧ PySem.W.keepIn X.K (.ref f) = true ∧ Binds X.K fd ps []) (hr : Room k X.A) (hN : X.N[i]? = some x) (hv : Vis X.env.scope x) (hx : Passes CX X E) (ha : PA X (e :: es) t)
    (hdb : (x == ("__debug__" : Str)) = false := by decide) (hcd : (x == ("__classdict__" : Str)) = false := by decide)
    (he : starEach (e :: es) X.env = (false, eval e X.env) :: starEach es X.env := by rfl) (hpl : (backTo pos (starEach es X.env)).any (·.1) = false := by rfl) : PE X (.Call (.Name x p) (e :: es) [] pos) (tCallW i S E t) := by
  constructor
  rintro pins s σ H Q I ⟨f, sp, hs, hS, ht⟩
  obtain ⟨fd, ps, F, hk, hb⟩ := A f sp hS
  refine (pe_callL (i := i) (f := f) (sp := sp) (dvs := []) (E := E) F hr hN hv hk hb .nil hx ha hdb hcd he hpl).run pins s σ H Q I ⟨hs, ?_⟩
  simp only [List.append_nil]
  exact ht
end Lk

/-! ## Ev -/
set_option Elab.async false
set_option linter.all false
set_option maxRecDepth 100000
set_option maxHeartbeats 2000000
/-! A statement shown once, the rest of the suite once, whatever the cases before. -/
namespace Lk
open PySem PySem.Spec PyProof.Rows L2 Gx
variable [Own]
/-- an assignment's value told by P -/
theorem evA {te : TE} {tg : TG} {rest : TS} {D : Ends} {σ : L2.St} {H : Hp} {P : V → Hp → Prop} (t : ∀ R' : VK, (∀ v H', Ext H H' → P v H' → R' v H') → te σ H R') (r : ∀ v H', Ext H H' → P v H' → tg v σ H' (rest D)) : tSeq (tAsg te tg) rest D σ H := t _ r
/-- the last assignment of a suite -/
theorem evA1 {te : TE} {tg : TG} {D : Ends} {σ : L2.St} {H : Hp} {P : V → Hp → Prop} (t : ∀ R' : VK, (∀ v H', Ext H H' → P v H' → R' v H') → te σ H R') (r : ∀ v H', Ext H H' → P v H' → tg v σ H' D.nx) : tAsg te tg D σ H := t _ r
/-- a test's answer told by P -/
theorem evI {T : TT} {s1 s2 rest : TS} {D : Ends} {σ : L2.St} {H : Hp} {P : Bool → Hp → Prop} (t : ∀ R' : Bool → Hp → Prop, (∀ c H', Ext H H' → P c H' → R' c H') → T σ H R') (r : ∀ c H', Ext H H' → P c H' → if c = true then s1 { D with nx := rest D } σ H' else s2 { D with nx := rest D } σ H') : tSeq (tIfS T s1 s2) rest D σ H := t _ r
theorem evI1 {T : TT} {s1 s2 : TS} {D : Ends} {σ : L2.St} {H : Hp} {P : Bool → Hp → Prop} (t : ∀ R' : Bool → Hp → Prop, (∀ c H', Ext H H' → P c H' → R' c H') → T σ H R') (r : ∀ c H', Ext H H' → P c H' → if c = true then s1 D σ H' else s2 D σ H') : tIfS T s1 s2 D σ H := t _ r
/-- a statement that leaves slots and heap as P tells -/
theorem evS {t rest : TS} {D : Ends} {σ : L2.St} {H : Hp} {P : L2.St → Hp → Prop} (h1 : ∀ N : L2.St → Hp → Prop, (∀ σ' H', P σ' H' → N σ' H') → t { D with nx := N } σ H) (h2 : ∀ σ' H', P σ' H' → rest D σ' H') : tSeq t rest D σ H := h1 (rest D) h2
theorem nmB {i : Nat} {x : V} {σ : L2.St} {H : Hp} {R : L2.St → Hp → Prop} (h : R (σ.set i (some x)) H) : gName i x σ H R := h
theorem nmC {i : Nat} {x : V} {σ : L2.St} {H : Hp} {t : TS} {D : Ends} {r : VK} {b c : L2.St → Hp → Prop} (h : t D (σ.set i (some x)) H) : gName i x σ H (Ends.nx { nx := t D, rt := r, bk := b, ct := c }) := h
theorem nxB {σ : L2.St} {H : Hp} {t : TS} {D : Ends} {r : VK} {b c : L2.St → Hp → Prop} (h : t D σ H) : Ends.nx { nx := t D, rt := r, bk := b, ct := c } σ H := h
/-- an expression whose value P tells, for what follows once -/
theorem evT {te : TE} {σ : L2.St} {H : Hp} {P : V → Hp → Prop} {R : VK} (t : ∀ R' : VK, (∀ v H', Ext H H' → P v H' → R' v H') → te σ H R') (r : ∀ v H', Ext H H' → P v H' → R v H') : te σ H R := t _ r
end Lk

/-! ## N3 -/
set_option Elab.async false
set_option linter.all false
set_option maxRecDepth 100000
set_option maxHeartbeats 4000000
/-! What a bench refuses, as the law asks. -/
namespace Lk
open PySem PySem.Spec PyProof.Rows L2 Gx LamX NdefX
open GxR (Tabbed TabG)
variable [Own]
abbrev s__law_refused : Stmt := top 63
theorem sc__law_refused : FnScope ["bench", "web", "past", "many", "bad"] ["bench", "web", "past"] (defScope s__law_refused) := ⟨rfl, rfl, rfl, by decide +kernel, rfl, by decide +kernel, by decide +kernel⟩
abbrev rfQ : Str := ("_law_refused" : Str) ++ ".<locals>." ++ "<lambda>"
/-- what stands while the helper asks -/
structure Rf (Ps : List Addr) (C b l T : Addr) (W : Web) (ru past : List (List Int)) (st : List Int) (wv pv : V) (H : Hp) : Prop where
  bat : BAt C H b l W ru (past ++ [st])
  web : WebAt H wv W
  past : LT2 H pv past
  tb : Lk.Tabs Ps H
  t : TabS H T rfQ
section
variable {Ps : List Addr} {C b l T : Addr} {W : Web} {ru past : List (List Int)} {st : List Int} {wv pv : V} {H H' : Hp}
theorem Rf.ext (own : Own.own T) (h : Rf Ps C b l T W ru past st wv pv H) (e : Ext H H') : Rf Ps C b l T W ru past st wv pv H' := ⟨h.bat.ext e, h.web.ext e, h.past.ext e, h.tb.ext e, tabS_own own e h.t⟩
theorem Rf.gt (h : Rf Ps C b l T W ru past st wv pv H) (g : Gt T H H') (t : TabS H' T rfQ) : Rf Ps C b l T W ru past st wv pv H' :=
  ⟨@BAt.ext ⟨fun _ => False⟩ _ _ _ _ _ _ _ _ h.bat g.ext, @WebAt.ext ⟨fun _ => False⟩ _ _ _ _ g.ext h.web, @LT2.ext ⟨fun _ => False⟩ _ _ _ _ g.ext h.past, @Lk.Tabs.ext ⟨fun _ => False⟩ _ _ _ h.tb g.ext, t⟩
/-- a refusal, as the helper tests it -/
theorem rf_test {CE : Addr} {wd : Str} {t : XK → TE} {s1 s2 : TS} {D : Ends} {σ : L2.St} (own : Own.own T) (R : Rf Ps C b l T W ru past st wv pv H)
    (ht : ∀ H1, Gt T H H1 → Rf Ps C b l T W ru past st wv pv H1 → ∀ (E : XK) (Q : VK), (∀ H', Ext H1 H' → E (.ref CE) none H') → t E σ H1 Q)
    (hk : ∀ H1, Gt T H H1 → Rf Ps C b l T W ru past st wv pv H1 → s2 D σ H1) : tIfS (tTest (tOp rNe (tGive T rfQ (TTref CE wd) t) (tC (.str wd)))) s1 s2 D σ H := by
  refine ⟨R.t, fun H1 g1 t1 Qx => ?_⟩
  have gt := lamGt R.t g1.1 t1
  have R1 := R.gt gt t1
  refine ht H1 gt R1 _ _ fun H' e' => ⟨rfl, rfl, fun H'' e'' => ?_⟩
  refine ⟨rfl, false, congrArg V.bl (by rw [decide_eq_true rfl]; rfl), ?_⟩
  exact hk H'' (gt.trans (e'.trans e'').gt) (R1.ext own (e'.trans e''))
end
section
variable {wv rv : V} {l : Addr}
theorem fsB_look : (fsB wv rv l).lookup ("look" : Str) = none := rfl
theorem fsB_paint : (fsB wv rv l).lookup ("paint" : Str) = none := rfl
theorem fsB_apart : (fsB wv rv l).lookup ("apart" : Str) = none := rfl
theorem fsB_back : (fsB wv rv l).lookup ("back" : Str) = none := rfl
theorem fsB_tick : (fsB wv rv l).lookup ("tick" : Str) = none := rfl
end
def spLawRefused (C : Addr) (Ps : List Addr) (T : Addr) : Sp := fun vs H Q _ => ∃ (b l : Addr) (v p : V) (W : Web) (ru past : List (List Int)) (st : List Int), vs = [.ref b, v, p] ∧ BOk W ru (past ++ [st]) ∧ Rf Ps C b l T W ru past st v p H ∧ ∀ H', Q (.bl true) H'
theorem gtLst {T : Addr} {H H' : Hp} (e : Gt T H H') {a : Addr} {xs : List V} (h : H a = some (.lst xs)) : H' a = some (.lst xs) := @Ext.lst ⟨fun _ => False⟩ _ _ e.ext _ _ h
theorem gtDq {T : Addr} {H H' : Hp} (e : Gt T H H') {v : V} {d : PyData} (h : Dq H v d) : Dq H' v d := @Dq.ext ⟨fun _ => False⟩ _ _ e.ext _ _ h
theorem rep_dq {H : Hp} {x : V} {d : PyData} (h : Dq H x d) : ∀ n : Nat, DqAll H (List.replicate n [x]).flatten (List.replicate n d)
  | 0 => .nil
  | n + 1 => by
    rw [List.replicate_succ, List.flatten_cons, List.replicate_succ]
    exact .cons h (rep_dq h n)
theorem std_rep {W : Web} (ok : W.Ok) {n : Nat} {d : PyData} (h : n = W.tops.length → ∀ t, t ∈ W.tops → isW d 0 t = false) : isStD W (.tuple (List.replicate n d)) = false := by
  show (decide ((List.replicate n d).length = W.tops.length) && isZ (List.replicate n d) W.tops) = false
  by_cases e : n = W.tops.length
  · have h1 := ok.some_
    cases ht : W.tops with
    | nil => rw [ht] at h1; simp at h1
    | cons t ts =>
      have hz : isZ (List.replicate n d) (t :: ts) = false := by
        cases n with
        | zero => rw [← e] at h1; omega
        | succ n =>
          unfold isZ
          rw [List.replicate_succ, List.zip_cons_cons, List.all_cons]
          have := h e t (by rw [ht]; exact List.mem_cons_self ..)
          show (isW d 0 t && _) = false
          rw [this]
          rfl
      rw [hz, Bool.and_false]
  · rw [decide_eq_false (by rw [List.length_replicate]; exact e)]
    rfl
theorem isW_neg {i lo hi : Int} (h : ¬ (lo ≤ i ∧ i ≤ hi)) : isW (.int i) lo hi = false := by
  show isWhole i lo hi = false
  unfold isWhole
  by_cases a : lo ≤ i
  · rw [decide_eq_false (fun z => h ⟨a, z⟩), Bool.and_false]
  · rw [decide_eq_false a]
    rfl
section
variable {P : Program} {w : World} {K : PySem.W.Frag} {mg : Str → Option Value} {base : Heap} {Ps : List Addr} {CX C CF CS CN CT TA gR : Addr} {Ad : Str → Addr} {cdR : Value}
theorem ok_law_refused {f : Addr} {fd : FuncData} (F : FunL K mg base "_law_refused" s__law_refused f fd TA) (own : Own.own TA) (B : Blt mg) (GR : GDef K mg "_law_refusal" s__law_refusal gR cdR) (T : BenchT K C)
    (TS : RefG K mg CX CS Ad 0) (TF : RefG K mg CX CF Ad 1) (TN : RefG K mg CX CN Ad 4) (TT : RefG K mg CX CT Ad 10)
    (m_look : MCal P w K mg base (L2.CX P w) 5 C "look" ["self", "folk"] (spBLook C CF)) (m_paint : MCal P w K mg base (L2.CX P w) 3 C "paint" ["self", "folk", "mood"] (spBPaint C CF CN))
    (m_apart : MCal P w K mg base (L2.CX P w) 5 C "apart" ["self", "other"] (spBApart C CS Ps)) (m_back : MCal P w K mg base (L2.CX P w) 1 C "back" ["self"] (spBBack C CT)) :
    FnOk P w K mg base CX0 10 f fd ["bench", "web", "past"] (spLawRefused C Ps TA) := by
  refine F.ok sc__law_refused (fun vs H Q E h => ?_) (fun cT A outer s0 H vs Q E TB hr h => ?_)
  · obtain ⟨b, l, v, p, W, ru, past, st, rfl, _⟩ := h
    rfl
  · obtain ⟨b, l, v, p, W, ru, past, st, rfl, ok, R, k⟩ := h
    refine ⟨_, (pss_cons (ps_set (i := 3) sc__law_refused.nd rfl (by first | exact Or.inl rfl | exact Or.inr rfl) (pe_callB call_lenT (by rfl) B.len PySem.boot_len (pa_cons (pe_ix ix_tT (pv 1) pe_int (fun _ _ => rfl)) pa_nil)))
      (pss_cons (ps_for PassesOwn.never rfl (pi_list (pe_lst (pa_cons pe_non (pa_cons (pe_un un_neg pe_int) (pa_cons (pv 3) (pa_cons pe_bl (pa_cons pe_str pa_nil))))))) (pg_name (i := 4) sc__law_refused.nd rfl (by first | exact Or.inl rfl | exact Or.inr rfl))
        (pss_cons (ps_if (pt_cmpR op_ne (pe_give (k := 5) (q := rfQ) (by rfl) GR sc__law_refusal rfl (by first | exact Or.inl rfl | exact Or.inr rfl) rfl (refusal_gives TF B) TB rfl (hr.mono (by decide)) (lamS_by (by rfl)) (by rfl) (fun _ _ _ _ _ => rfl) (fun Aa o2 s2 H2 E2 f2' c2 hr2 => pe_mcal m_look T.cl (hr2.mono (by decide)) (E := E2) (passes_call (takes_of rfl rfl rfl rfl) fun _ _ _ _ h => h) (pv 0) (pa_cons (pv 4) pa_nil))) pe_str (nomark _))
          (pss_one (ps_ret pe_bl)) pss_nil)
        (pss_one (ps_if (pt_cmpR op_ne (pe_give (k := 5) (q := rfQ) (by rfl) GR sc__law_refusal rfl (by first | exact Or.inl rfl | exact Or.inr rfl) rfl (refusal_gives TF B) TB rfl (hr.mono (by decide)) (lamS_by (by rfl)) (by rfl) (fun _ _ _ _ _ => rfl) (fun Aa o2 s2 H2 E2 f2' c2 hr2 => pe_mcal m_paint T.cl (hr2.mono (by decide)) (E := E2) (passes_call (takes_of rfl rfl rfl rfl) fun _ _ _ _ h => h) (pv 0) (pa_cons (pv 4) (pa_cons pe_non pa_nil)))) pe_str (nomark _))
          (pss_one (ps_ret pe_bl)) pss_nil))))
      (pss_cons (ps_for PassesOwn.never rfl (pi_list (pe_lst (pa_cons pe_non (pa_cons (pe_un un_neg pe_int) (pa_cons (pe_op op_add (pe_ix ix_tT (pe_ix ix_tT (pv 1) pe_int (fun _ _ => rfl)) pe_int (fun _ _ => rfl)) pe_int) (pa_cons pe_bl pa_nil)))))) (pg_name (i := 4) sc__law_refused.nd rfl (by first | exact Or.inl rfl | exact Or.inr rfl))
        (pss_one (ps_if (pt_cmpR op_ne (pe_give (k := 5) (q := rfQ) (by rfl) GR sc__law_refusal rfl (by first | exact Or.inl rfl | exact Or.inr rfl) rfl (refusal_gives TN B) TB rfl (hr.mono (by decide)) (lamS_by (by rfl)) (by rfl) (fun _ _ _ _ _ => rfl) (fun Aa o2 s2 H2 E2 f2' c2 hr2 => pe_mcal m_paint T.cl (hr2.mono (by decide)) (E := E2) (passes_call (takes_of rfl rfl rfl rfl) fun _ _ _ _ h => h) (pv 0) (pa_cons pe_int (pa_cons (pv 4) pa_nil)))) pe_str (nomark _))
          (pss_one (ps_ret pe_bl)) pss_nil)))
      (pss_cons (ps_for PassesOwn.never rfl (pi_list (pe_lst (pa_cons pe_non (pa_cons (pe_op op_rep (pe_lst (pa_cons pe_int pa_nil)) (pv 3)) (pa_cons (pe_op op_repU (pe_tup (pa_cons pe_int pa_nil)) (pe_op op_add (pv 3) pe_int)) (pa_cons (pe_op op_repU (pe_tup (pa_cons (pe_un un_neg pe_int) pa_nil)) (pv 3)) (pa_cons (pe_op op_repU (pe_tup (pa_cons pe_bl pa_nil)) (pv 3)) (pa_cons (pe_op op_repU (pe_tup (pa_cons pe_int pa_nil)) (pv 3)) pa_nil)))))))) (pg_name (i := 4) sc__law_refused.nd rfl (by first | exact Or.inl rfl | exact Or.inr rfl))
        (pss_one (ps_if (pt_cmpR op_ne (pe_give (k := 5) (q := rfQ) (by rfl) GR sc__law_refusal rfl (by first | exact Or.inl rfl | exact Or.inr rfl) rfl (refusal_gives TS B) TB rfl (hr.mono (by decide)) (lamS_by (by rfl)) (by rfl) (fun _ _ _ _ _ => rfl) (fun Aa o2 s2 H2 E2 f2' c2 hr2 => pe_mcal m_apart T.cl (hr2.mono (by decide)) (E := E2) (passes_call (takes_of rfl rfl rfl rfl) fun _ _ _ _ h => h) (pv 0) (pa_cons (pv 4) pa_nil))) pe_str (nomark _))
          (pss_one (ps_ret pe_bl)) pss_nil)))
      (pss_one (ps_ret (pe_or (pe_cmpR (op_neLT2 hr.units) (pv 2) (pe_lst pa_nil) (nomark _)) (pe_one (pe_cmpR op_eq (pe_give (k := 5) (q := rfQ) (by rfl) GR sc__law_refusal rfl (by first | exact Or.inl rfl | exact Or.inr rfl) rfl (refusal_gives TT B) TB rfl (hr.mono (by decide)) (lamS_by (by rfl)) (by rfl) (fun _ _ _ _ _ => rfl) (fun Aa o2 s2 H2 E2 f2' c2 hr2 => pe_mcal0 m_back T.cl (hr2.mono (by decide)) (E := E2) (passes_call (takes_of rfl rfl rfl rfl) fun _ _ _ _ h => h) (pv 0))) pe_str (nomark _)))))))))), ?_⟩
    have h1 := ok.ok.some_
    have h6 := ok.ok.few
    obtain ⟨a, t, lk, rfl, ha, ⟨tt, rfl, ht⟩, hl⟩ := id R.web
    refine ⟨_, rfl, a, _, _, _, rfl, rfl, ha, at_of (j := 0) rfl rfl, tt, _, rfl, .inr ht, ?_⟩
    rw [iv_len]
    have so := ok.st st (by simp)
    have topsOk : ∀ t ∈ W.tops, 1 ≤ t ∧ t ≤ 3 := ok.ok.tops
    have t0 : ∃ t, W.tops[0]? = some t := ⟨_, List.getElem?_eq_getElem (by omega)⟩
    obtain ⟨top0, ht0⟩ := t0
    have tA0 : topAt W ((0 : Nat) : Int) = top0 := by
      have := topAt_get (W := W) (i := ((0 : Nat) : Int)) (by omega) (by omega)
      rw [Int.toNat_natCast, ht0] at this
      exact (Option.some.inj this).symm
    have hb1 : ∀ H1, Rf Ps C b l TA W ru past st (.ref a) p H1 → ∃ dx wv rv, H1 b = some (.ins C dx (fsB wv rv l)) := fun H1 R1 => by
      obtain ⟨dx, wv, rv, vs, h1, _⟩ := R1.bat.ex
      exact ⟨dx, wv, rv, h1⟩
    -- folk who are none
    refine ⟨_, rfl, _, rfl, by show 5 ≤ sizeLine; decide, fun q0 hq0 => ?_⟩
    have x0 := Ext.new hq0 (.lst [V.non, V.int (-1), V.int (W.tops.length : Nat), V.bl true, V.str "0"])
    refine ⟨q0, rfl, ⟨_, SqL.of upd_same⟩, for_list (K := K) (a := q0) (xs := [V.non, V.int (-1), V.int (W.tops.length : Nat), V.bl true, V.str "0"]) (fun i σ H' => ∃ o4 : Option V, σ = [some (.ref b), some (.ref a), some p, some (.int (W.tops.length : Nat)), o4] ∧ Rf Ps C b l TA W ru past st (.ref a) p H' ∧ H' q0 = some (.lst [V.non, V.int (-1), V.int (W.tops.length : Nat), V.bl true, V.str "0"]))
      ⟨_, rfl, R.ext own x0, upd_same⟩ (fun i σ H' _ ⟨_, _, _, h⟩ => SqL.of h) ?_ ?_⟩
    · rintro i x σ H1 hi ⟨o4, rfl, R1, hq1⟩
      have hd : ∃ d, Dq H1 x d ∧ isW d 0 (W.tops.length - 1) = false := by
        have := List.mem_of_getElem? hi
        simp only [List.mem_cons, List.not_mem_nil, or_false] at this
        rcases this with rfl | rfl | rfl | rfl | rfl
        · exact ⟨_, .non, rfl⟩
        · exact ⟨_, .int _, isW_neg (by omega)⟩
        · exact ⟨_, .int _, isW_neg (by omega)⟩
        · exact ⟨_, .bl _, rfl⟩
        · exact ⟨_, .str _, rfl⟩
      obtain ⟨d, hd, hw⟩ := hd
      refine nmB ?_
      refine rf_test own R1 (fun H2 g2 R2 E Q hE => ?_) fun H2 g2 R2 => ?_
      · obtain ⟨dx, wv, rv, hb2⟩ := hb1 H2 R2
        exact ⟨_, rfl, b, dx, _, rfl, hb2, fsB_look, _, rfl, b, l, x, W, ru, past, st, rfl, R2.bat, ok, .inr ⟨d, gtDq g2 hd, hw, hE H2 (Ext.refl _)⟩⟩
      refine nxB ?_
      refine rf_test own R2 (fun H3 g3 R3 E Q hE => ?_) fun H3 g3 R3 => ?_
      · obtain ⟨dx, wv, rv, hb2⟩ := hb1 H3 R3
        exact ⟨_, rfl, b, dx, _, rfl, hb2, fsB_paint, _, rfl, b, l, x, .non, W, ru, past, st, rfl, R3.bat, ok, .inr ⟨d, gtDq g3 (gtDq g2 hd), hw, hE H3 (Ext.refl _)⟩⟩
      exact ⟨_, rfl, R3, gtLst g3 (gtLst g2 hq1)⟩
    · rintro σ H1 ⟨o4, rfl, R1, _⟩
      -- moods that are none
      obtain ⟨a1, t1, lk1, e1, ha1, ⟨tt1, rfl, ht1⟩, hl1⟩ := id R1.web
      cases e1
      refine ⟨_, rfl, _, rfl, a, _, _, _, rfl, rfl, ha1, at_of (j := 0) rfl rfl, tt1, _, _, _, rfl, rfl, ht1, at_of (j := 0) rfl (iv_at ht0), _, _, rfl, rfl, by show 4 ≤ sizeLine; decide, fun q1 hq1 => ?_⟩
      have x1 := Ext.new hq1 (.lst [V.non, V.int (-1), V.int (top0 + 1), V.bl true])
      refine ⟨q1, rfl, ⟨_, SqL.of upd_same⟩, for_list (K := K) (a := q1) (xs := [V.non, V.int (-1), V.int (top0 + 1), V.bl true]) (fun i σ H' => ∃ o4 : Option V, σ = [some (.ref b), some (.ref a), some p, some (.int (W.tops.length : Nat)), o4] ∧ Rf Ps C b l TA W ru past st (.ref a) p H' ∧ H' q1 = some (.lst [V.non, V.int (-1), V.int (top0 + 1), V.bl true]))
        ⟨_, rfl, R1.ext own x1, upd_same⟩ (fun i σ H' _ ⟨_, _, _, h⟩ => SqL.of h) ?_ ?_⟩
      · rintro i x σ H1 hi ⟨o4, rfl, R1, hq1⟩
        have hd : ∃ d, Dq H1 x d ∧ isW d 0 top0 = false := by
          have := List.mem_of_getElem? hi
          simp only [List.mem_cons, List.not_mem_nil, or_false] at this
          rcases this with rfl | rfl | rfl | rfl
          · exact ⟨_, .non, rfl⟩
          · exact ⟨_, .int _, isW_neg (by omega)⟩
          · exact ⟨_, .int _, isW_neg (by omega)⟩
          · exact ⟨_, .bl _, rfl⟩
        obtain ⟨d, hd, hw⟩ := hd
        refine nmB ?_
        refine rf_test own R1 (fun H2 g2 R2 E Q hE => ?_) fun H2 g2 R2 => ?_
        · obtain ⟨dx, wv, rv, hb2⟩ := hb1 H2 R2
          exact ⟨_, rfl, b, dx, _, rfl, hb2, fsB_paint, _, rfl, b, l, .int ((0 : Nat) : Int), x, W, ru, past, st, rfl, R2.bat, ok, .inl ⟨0, rfl, by omega, .inr ⟨d, gtDq g2 hd, by rw [tA0]; exact hw, hE H2 (Ext.refl _)⟩⟩⟩
        exact ⟨_, rfl, R2, gtLst g2 hq1⟩
      · rintro σ H1 ⟨o4, rfl, R1, _⟩
        -- states that are none
        have n0 : (((W.tops.length : Nat) : Int)).toNat = W.tops.length := by omega
        refine ⟨(by show 1 ≤ sizeLine; decide), fun p1 hp1 => ⟨_, rfl, p1, _, _, rfl, rfl, upd_same, by omega, by omega, ?_, fun p2 hp2 => ?_⟩⟩
        · rw [List.length_singleton, n0]
          exact Nat.le_of_lt (small1000 (by omega))
        have y1 := (Ext.new hp1 (.lst [V.int 0])).trans (Ext.new hp2 (.lst (List.replicate ((W.tops.length : Nat) : Int).toNat [V.int 0]).flatten))
        have d1 : Dq (L2.upd (L2.upd H1 p1 (.lst [V.int 0])) p2 (.lst (List.replicate ((W.tops.length : Nat) : Int).toNat [V.int 0]).flatten)) (.ref p2) (.list (List.replicate W.tops.length (.int 0))) := .lst upd_same (by rw [n0]; exact rep_dq (.int 0) _)
        generalize L2.upd (L2.upd H1 p1 (.lst [V.int 0])) p2 (.lst (List.replicate ((W.tops.length : Nat) : Int).toNat [V.int 0]).flatten) = H2 at y1 d1 ⊢
        refine ⟨(by show 1 ≤ sizeLine; decide), fun p3 hp3 => ⟨_, rfl, _, _, rfl, rfl, p3, _, _, rfl, rfl, upd_same, by simp, by omega, by omega, by simp, fun H3 p4 e3 hp4 => ?_⟩⟩
        have y3 := (Ext.new hp3 (.tup [V.int 0])).trans e3
        have d3 : Dq H3 (.ref p4) (.tuple (List.replicate (W.tops.length + 1) (.int 0))) := .tup hp4 (by rw [show (((W.tops.length : Nat) : Int) + 1).toNat = W.tops.length + 1 by omega]; exact rep_dq (.int 0) _)
        refine ⟨_, rfl, (by show 1 ≤ sizeLine; decide), fun p5 hp5 => ⟨_, rfl, p5, _, _, rfl, rfl, upd_same, by simp, by omega, by omega, by simp, fun H4 p6 e4 hp6 => ?_⟩⟩
        have y4 := (Ext.new hp5 (.tup [V.int (-1)])).trans e4
        have d4 : Dq H4 (.ref p6) (.tuple (List.replicate W.tops.length (.int (-1)))) := .tup hp6 (by rw [n0]; exact rep_dq (.int (-1)) _)
        refine ⟨(by show 1 ≤ sizeLine; decide), fun p7 hp7 => ⟨_, rfl, p7, _, _, rfl, rfl, upd_same, by simp, by omega, by omega, by simp, fun H5 p8 e5 hp8 => ?_⟩⟩
        have y5 := (Ext.new hp7 (.tup [V.bl true])).trans e5
        have d5 : Dq H5 (.ref p8) (.tuple (List.replicate W.tops.length (.bool true))) := .tup hp8 (by rw [n0]; exact rep_dq (.bl true) _)
        refine ⟨(by show 1 ≤ sizeLine; decide), fun p9 hp9 => ⟨_, rfl, p9, _, _, rfl, rfl, upd_same, by simp, by omega, by omega, by simp, fun H6 p10 e6 hp10 => ?_⟩⟩
        have y6 := (Ext.new hp9 (.tup [V.int 9])).trans e6
        have d6 : Dq H6 (.ref p10) (.tuple (List.replicate W.tops.length (.int 9))) := .tup hp10 (by rw [n0]; exact rep_dq (.int 9) _)
        refine ⟨(by show 6 ≤ sizeLine; decide), fun q2 hq2 => ?_⟩
        have x2 := Ext.new hq2 (.lst [V.non, V.ref p2, V.ref p4, V.ref p6, V.ref p8, V.ref p10])
        have z5 := y6.trans x2
        have z4 := y5.trans z5
        have z3 := y4.trans z4
        have z2 := y3.trans z3
        have z1 := y1.trans z2
        have hL : ∀ x, x ∈ [V.non, V.ref p2, V.ref p4, V.ref p6, V.ref p8, V.ref p10] → ∃ d, Dq (L2.upd H6 q2 (.lst [V.non, V.ref p2, V.ref p4, V.ref p6, V.ref p8, V.ref p10])) x d ∧ isStD W d = false := by
          intro x this
          simp only [List.mem_cons, List.not_mem_nil, or_false] at this
          rcases this with rfl | rfl | rfl | rfl | rfl | rfl
          · exact ⟨_, .non, rfl⟩
          · exact ⟨_, d1.ext z2, rfl⟩
          · exact ⟨_, d3.ext z3, std_rep ok.ok fun e => by omega⟩
          · exact ⟨_, d4.ext z4, std_rep ok.ok fun _ t ht => isW_neg (by omega)⟩
          · exact ⟨_, d5.ext z5, std_rep ok.ok fun _ t ht => rfl⟩
          · exact ⟨_, d6.ext x2, std_rep ok.ok fun _ t ht => isW_neg (by have := topsOk t ht; omega)⟩
        have RL := R1.ext own z1
        have hqL : L2.upd H6 q2 (.lst [V.non, V.ref p2, V.ref p4, V.ref p6, V.ref p8, V.ref p10]) q2 = some (.lst [V.non, V.ref p2, V.ref p4, V.ref p6, V.ref p8, V.ref p10]) := upd_same
        generalize L2.upd H6 q2 (.lst [V.non, V.ref p2, V.ref p4, V.ref p6, V.ref p8, V.ref p10]) = H7 at hL RL hqL ⊢
        refine ⟨q2, rfl, ⟨_, SqL.of hqL⟩, for_list (K := K) (a := q2) (xs := [V.non, V.ref p2, V.ref p4, V.ref p6, V.ref p8, V.ref p10]) (fun i σ H' => ∃ o4 : Option V, σ = [some (.ref b), some (.ref a), some p, some (.int (W.tops.length : Nat)), o4] ∧ Rf Ps C b l TA W ru past st (.ref a) p H' ∧ H' q2 = some (.lst [V.non, V.ref p2, V.ref p4, V.ref p6, V.ref p8, V.ref p10]) ∧ Gt TA H7 H')
          ⟨_, rfl, RL, hqL, Gt.refl _⟩ (fun i σ H' _ ⟨_, _, _, h, _⟩ => SqL.of h) ?_ ?_⟩
        · rintro i x σ H8 hi ⟨o4, rfl, R8, hq8, g8⟩
          obtain ⟨d, hd, hw⟩ := hL x (List.mem_of_getElem? hi)
          refine nmB ?_
          refine rf_test own R8 (fun H2 g2 R2 E Q hE => ?_) fun H2 g2 R2 => ?_
          · obtain ⟨dx, wv, rv, hb2⟩ := hb1 H2 R2
            exact ⟨_, rfl, b, dx, _, rfl, hb2, fsB_apart, _, rfl, b, l, x, W, ru, past, st, rfl, R2.bat, ok, R2.tb, .inr ⟨d, gtDq (g8.trans g2) hd, hw, hE⟩⟩
          exact ⟨_, rfl, R2, gtLst g2 hq8, g8.trans g2⟩
        · rintro σ H8 ⟨o4, rfl, R8, _, _⟩
          -- a step back
          refine ⟨_, rfl, (by show 0 ≤ sizeLine; decide), fun q3 hq3 => ?_⟩
          have x3 := Ext.new hq3 (.lst [])
          have R9 := R8.ext own x3
          refine ⟨past, [], R9.past, ⟨q3, [], rfl, upd_same, .nil⟩, ?_⟩
          by_cases hp : past = []
          · refine ⟨_, rfl, ?_⟩
            rw [show (!decide (past = [])) = false from by rw [decide_eq_true hp]; rfl]
            refine iteF ⟨R9.t, fun H2 g1 t1 Qx => ?_⟩
            have gt := lamGt R9.t g1.1 t1
            have R2 := R9.gt gt t1
            obtain ⟨dx, wv, rv, hb2⟩ := hb1 H2 R2
            refine ⟨_, rfl, b, dx, _, rfl, hb2, fsB_back, b, l, W, ru, past, st, rfl, R2.bat, ok, .inr ⟨hp, rfl, rfl, fun H'' e'' => ?_⟩⟩
            exact ⟨rfl, k _⟩
          · refine ⟨_, rfl, ?_⟩
            rw [show (!decide (past = [])) = true from by rw [decide_eq_false hp]; rfl]
            exact iteT (k _)
end
end Lk


/-! ## D25 -/
set_option Elab.async false
set_option linter.all false
set_option maxRecDepth 100000
set_option maxHeartbeats 2000000
namespace Lk
open PySem PySem.Spec PyProof.Rows L2 Gx
open GxR (TabG Tabbed TabB)
variable [Own]
abbrev s__law_state : Stmt := top 57
theorem sc__law_state : FnScope ["row", "web", "top"] ["row", "web"] (defScope s__law_state) := ⟨rfl, rfl, rfl, by decide +kernel, rfl, by decide +kernel, by decide +kernel⟩
def spLawState (K : PySem.W.Frag) : Sp := fun vs H Q _ => ∃ (r sc : Addr) (ns : List Int) (v : V) (W : Web), vs = [.ref r, v] ∧ Rw K H r sc ns ∧ WebAt H v W ∧ W.Ok ∧
  ∀ H' u st, ExtB r H H' → Rw K H' r sc ns → H u = none → H' u = some (.tup (iv st)) → StOk W st → Q (.ref u) H'
section
variable {P : Program} {w : World} {K : PySem.W.Frag} {mg : Str → Option Value} {base : Heap} {Ps : List Addr}
theorem ok_law_state {f : Addr} {fd : FuncData} (F : Fun K "_law_state" "_law_state" s__law_state f fd) (B : Blt mg) (c__law_taken : Cal P w K mg base CX0 1 "_law_taken" ["row", "many"] (spTaken K)) : FnOk P w K mg base CX0 2 f fd ["row", "web"] (spLawState K) := by
  refine F.ok sc__law_state (fun vs H Q E h => ?_) (fun cdv A outer s0 H vs Q E hr h => ?_)
  · obtain ⟨r, sc, ns, v, W, rfl, _⟩ := h
    rfl
  · obtain ⟨r, sc, ns, v, W, rfl, hR, ⟨a, t, l, rfl, ha, ⟨tt, rfl, ht⟩, hl⟩, ok, k⟩ := h
    refine ⟨_, (pss_one (ps_ret (pe_tupleL (by rfl) B.tuple (pe_lc (own := [("top", 2)]) rfl sc__law_state.nd (pi_tup (pe_ix ix_tT (pv 1) pe_int (fun _ _ => rfl))) (blkOk_by (N := ["row", "web", "top"]) (sc := defScope s__law_state) (by decide +kernel)) (fun _ _ _ _ _ => (pg_name (i := 2) sc__law_state.nd rfl (by first | exact Or.inl rfl | exact Or.inr rfl))) (fun _ _ _ _ _ => pts_nil) (fun _ _ _ _ _ => (pe_c0 c__law_taken (hr.mono (by decide)) (by rfl) (pa_cons (pv 0) (pa_cons (pe_op op_add (pv 2) pe_int) pa_nil)))))))), ?_⟩
    have h6 := ok.few
    refine ⟨_, rfl, a, _, _, _, rfl, rfl, ha, rfl, tt, rfl, ⟨_, SqT.of ht⟩, fun D hD => ?_⟩
    have hDr := hR.ne_none hD
    refine lc_tup (K := K) (a := tt) (xs := iv W.tops) (fun i H' => ∃ st, H' D = some (.lst (iv st)) ∧ ExtB r H H' ∧ Rw K H' r sc ns ∧ st.length = i ∧ ∀ j, j < i → 0 ≤ st.getD j 0 ∧ st.getD j 0 ≤ W.tops.getD j 0) ⟨[], upd_same, (Ext.new hD _).b, hR.new hD _, rfl, fun j hj => by omega⟩ (fun i H' _ ⟨_, _, e, _⟩ => SqT.of (hR.tup e ht)) (fun i x H' hi ⟨st, h1, e1, R1, l1, b1⟩ => ?_) fun H' ⟨st, h1, e1, R1, l1, b1⟩ => ?_
    · obtain ⟨t, et, rfl⟩ := iv_get hi
      have tb := ok.tops t (List.mem_of_getElem? et)
      have hi6 : i < W.tops.length := (List.getElem?_eq_some_iff.mp et).1
      refine ⟨rfl, yes ?_⟩
      refine ⟨_, rfl, _, rfl, _, _, rfl, rfl, r, sc, ns, _, rfl, R1, ⟨by omega, by omega⟩, fun H2 m e2 R2 same hm => ?_⟩
      refine ⟨iv st, same_at same hDr h1, by rw [iv_len]; exact small1000 (by omega), st ++ [m], ?_, (e1.trans e2).put hD _, R2.put hR hD _, by rw [List.length_append, l1]; rfl, fun j hj => ?_⟩
      · rw [upd_same]
        unfold iv
        rw [List.map_append]
        rfl
      · by_cases hj2 : j < i
        · rw [List.getD_eq_getElem?_getD, List.getElem?_append_left (by omega), ← List.getD_eq_getElem?_getD]
          exact b1 j hj2
        · have ej : j = i := by omega
          rw [ej, List.getD_eq_getElem?_getD, List.getElem?_append_right (by omega), l1, Nat.sub_self, List.getD_eq_getElem?_getD (l := W.tops), et]
          show 0 ≤ m ∧ m ≤ t
          omega
    · rw [iv_len] at l1 b1
      refine ⟨D, iv st, rfl, h1, fun u hu => ?_⟩
      exact k _ u st (e1.trans (Ext.new hu _).b) (R1.new hu _) (e1.free hu) upd_same ⟨l1, fun i h0 hi => b1 i.toNat (by omega)⟩
end
end Lk


/-! ## D27 -/
set_option Elab.async false
set_option linter.all false
set_option maxRecDepth 100000
set_option maxHeartbeats 2000000
namespace Lk
open PySem PySem.Spec PyProof.Rows L2 Gx
open GxR (TabG Tabbed TabB)
variable [Own]
abbrev s__law_rules : Stmt := top 56
theorem sc__law_rules : FnScope ["row", "web", "folk"] ["row", "web"] (defScope s__law_rules) := ⟨rfl, rfl, rfl, by decide +kernel, rfl, by decide +kernel, by decide +kernel⟩
def spLawRules (K : PySem.W.Frag) : Sp := fun vs H Q _ => ∃ (r sc : Addr) (ns : List Int) (v : V) (W : Web), vs = [.ref r, v] ∧ Rw K H r sc ns ∧ WebAt H v W ∧ W.Ok ∧
  ∀ H' u us ru, ExtB r H H' → Rw K H' r sc ns → H u = none → H' u = some (.tup us) → Paired (TI H') us ru → Ru0 W ru → firstBad W ru = none → Q (.ref u) H'
theorem bad_none {W : Web} {ru : List (List Int)} (h : ∀ f, f < W.tops.length → isTable W (f : Int) (ru.getD f []) = true) : firstBad W ru = none := by
  unfold firstBad
  rw [List.find?_eq_none]
  intro f hf
  rw [h f (List.mem_range.mp hf)]
  simp
theorem table_len27 {W : Web} (ok : W.Ok) {f : Int} {tb : List Int} (h : isTable W f tb = true) : tb.length ≤ 256 := by
  rw [isTable_iff ok] at h
  rw [h.1, ← rws_len, ← rowsAt_rws]
  exact (rowsAt_len ok f).2
section
variable {P : Program} {w : World} {K : PySem.W.Frag} {mg : Str → Option Value} {base : Heap} {Ps : List Addr}
theorem ok_law_rules {f : Addr} {fd : FuncData} (F : Fun K "_law_rules" "_law_rules" s__law_rules f fd) (B : Blt mg) (c__law_table : Cal P w K mg base CX0 3 "_law_table" ["row", "web", "folk"] (spLawTable K)) : FnOk P w K mg base CX0 4 f fd ["row", "web"] (spLawRules K) := by
  refine F.ok sc__law_rules (fun vs H Q E h => ?_) (fun cdv A outer s0 H vs Q E hr h => ?_)
  · obtain ⟨r, sc, ns, v, W, rfl, _⟩ := h
    rfl
  · obtain ⟨r, sc, ns, v, W, rfl, hR, hW, ok, k⟩ := h
    obtain ⟨a, t, l, rfl, ha, ⟨tt, rfl, ht⟩, hl⟩ := id hW
    refine ⟨_, (pss_one (ps_ret (pe_tupleL (by rfl) B.tuple (pe_lc (own := [("folk", 2)]) rfl sc__law_rules.nd (pi_range1 (by rfl) B.range (pa_cons (pe_callB call_lenT (by rfl) B.len PySem.boot_len (pa_cons (pe_ix ix_tT (pv 1) pe_int (fun _ _ => rfl)) pa_nil)) pa_nil)) (blkOk_by (N := ["row", "web", "folk"]) (sc := defScope s__law_rules) (by decide +kernel)) (fun _ _ _ _ _ => (pg_name (i := 2) sc__law_rules.nd rfl (by first | exact Or.inl rfl | exact Or.inr rfl))) (fun _ _ _ _ _ => pts_nil) (fun _ _ _ _ _ => (pe_c0 c__law_table (hr.mono (by decide)) (by rfl) (pa_cons (pv 0) (pa_cons (pv 1) (pa_cons (pv 2) pa_nil))))))))), ?_⟩
    have h6 := ok.few
    refine ⟨_, rfl, a, _, _, _, rfl, rfl, ha, rfl, tt, _, rfl, .inr ht, _, rfl, by omega, by rw [iv_len]; omega, fun D hD => ?_⟩
    have hDr := hR.ne_none hD
    have en : ((iv W.tops).length : Int).toNat = W.tops.length := by rw [iv_len]; omega
    rw [en]
    refine lc_range (lo := 0) (n := W.tops.length) (fun i H' => ∃ us ru, H' D = some (.lst us) ∧ ExtB r H H' ∧ Rw K H' r sc ns ∧ Paired (TI H') us ru ∧ ru.length = i ∧ ∀ j, j < i → isTable W (j : Int) (ru.getD j []) = true) ⟨[], [], upd_same, (Ext.new hD _).b, hR.new hD _, .nil, rfl, fun j hj => by omega⟩ (fun i H' hi ⟨us, ru, h1, e1, R1, p1, l1, b1⟩ => ?_) fun H' ⟨us, ru, h1, e1, R1, p1, l1, b1⟩ => ?_
    · have ei : (0 : Int) + (i : Int) = (i : Int) := Int.zero_add _
      rw [ei]
      refine ⟨rfl, yes ?_⟩
      refine ⟨_, rfl, _, rfl, _, rfl, r, sc, ns, _, W, _, rfl, R1, hR.web e1 hW, ok, ⟨by omega, by omega⟩, fun H2 u mks e2 R2 hu0 okm hu => ?_⟩
      have htb := table_ok ok (f := (i : Int)) ⟨by omega, by omega⟩ okm
      have hDH2 : H2 D = some (.lst us) := e2.lst hDr h1
      have hlen := paired_len p1
      refine ⟨us, hDH2, small1000 (by omega), us ++ [.ref u], ru ++ [tableOf (signsAt W i) (rowsAt W i) mks], upd_same, (e1.trans e2).put hD _, R2.put hR hD _, ?_, by rw [List.length_append, l1]; rfl, fun j hj => ?_⟩
      · exact pTI.put hDH2 (fun _ _ h => h) (paired_snoc ⟨u, rfl, hu⟩ (R1.pTI e2 p1))
      · by_cases hj2 : j < i
        · rw [List.getD_eq_getElem?_getD, List.getElem?_append_left (by omega), ← List.getD_eq_getElem?_getD]
          exact b1 j hj2
        · have ej : j = i := by omega
          rw [ej, List.getD_eq_getElem?_getD, List.getElem?_append_right (by omega), l1, Nat.sub_self]
          exact htb
    · refine ⟨D, us, rfl, h1, fun u hu => ?_⟩
      refine k _ u us ru (e1.trans (Ext.new hu _).b) (R1.new hu _) (e1.free hu) upd_same (pTI.ext (Ext.new hu _) p1) ⟨l1, fun t ht => ?_⟩ (bad_none b1)
      obtain ⟨j, hj, rfl⟩ := List.getElem_of_mem ht
      have := table_len27 ok (b1 j (by omega))
      rw [List.getD_eq_getElem?_getD, List.getElem?_eq_getElem hj] at this
      have : ru[j].length ≤ 256 := this
      omega
end
end Lk


/-! ## D28 -/
set_option Elab.async false
set_option linter.all false
set_option maxRecDepth 100000
set_option maxHeartbeats 2000000
namespace Lk
open PySem PySem.Spec PyProof.Rows L2 Gx
open GxR (TabG Tabbed TabB)
variable [Own]
theorem units1 {k : Nat} {A : Around} (h : Room k A) : A.units + 65 < cLine := by
  have := h.un
  omega
abbrev s__law_told : Stmt := top 58
theorem sc__law_told : FnScope ["web", "rules", "state", "folk", "seen", "one", "sign", "rows"] ["web", "rules", "state", "folk"] (defScope s__law_told) := ⟨rfl, rfl, rfl, by decide +kernel, rfl, by decide +kernel, by decide +kernel⟩
abbrev s__law_behind : Stmt := top 59
theorem sc__law_behind : FnScope ["web", "rules", "state", "folk"] ["web", "rules", "state"] (defScope s__law_behind) := ⟨rfl, rfl, rfl, by decide +kernel, rfl, by decide +kernel, by decide +kernel⟩
abbrev s__law_settled : Stmt := top 60
theorem sc__law_settled : FnScope ["web", "rules", "state"] ["web", "rules"] (defScope s__law_settled) := ⟨rfl, rfl, rfl, by decide +kernel, rfl, by decide +kernel, by decide +kernel⟩
abbrev spLawTold : Sp := spMoodTold
abbrev spLawBehind : Sp := spStateTold
def spLawSettled : Sp := fun vs H Q _ => ∃ (v r : V) (W : Web) (ru : List (List Int)), vs = [v, r] ∧ WebAt H v W ∧ W.Ok ∧ TT2 H r ru ∧ RuOk W ru ∧ ∀ H' u, Ext H H' → LT2 H' (.ref u) (settledStates W ru) → Q (.ref u) H'
section
variable {P : Program} {w : World} {K : PySem.W.Frag} {mg : Str → Option Value} {base : Heap} {Ps : List Addr}
theorem ok_law_told {f : Addr} {fd : FuncData} (F : Fun K "_law_told" "_law_told" s__law_told f fd) (B : Blt mg)
    (c__law_seen : Cal P w K mg base CX0 1 "_law_seen" ["web", "folk"] spLawSeen) (c__law_moods : Cal P w K mg base CX0 1 "_law_moods" ["tops"] spLawMoods) : FnOk P w K mg base CX0 2 f fd ["web", "rules", "state", "folk"] spLawTold := by
  refine F.ok sc__law_told (fun vs H Q E h => ?_) (fun cdv A outer s0 H vs Q E hr h => ?_)
  · obtain ⟨v, r, z, W, ru, st, n, rfl, _⟩ := h
    rfl
  · obtain ⟨v, r, z, W, ru, st, n, rfl, hW, ok, hru, rok, hst, so, hn, k⟩ := h
    obtain ⟨a, t, l, rfl, ha, ⟨tt, rfl, ht⟩, hl⟩ := id hW
    obtain ⟨ra, rv, rfl, hra, hrv⟩ := id hru
    obtain ⟨sa, rfl, hsa⟩ := id hst
    refine ⟨_, (pss_cons (ps_set (i := 4) sc__law_told.nd rfl (by first | exact Or.inl rfl | exact Or.inr rfl) (pe_c0 c__law_seen (hr.mono (by decide)) (by rfl) (pa_cons (pv 0) (pa_cons (pv 3) pa_nil))))
      (pss_cons (ps_set (i := 7) sc__law_told.nd rfl (by first | exact Or.inl rfl | exact Or.inr rfl) (pe_c0 c__law_moods (hr.mono (by decide)) (by rfl) (pa_cons (pe_lc (own := [("one", 5), ("sign", 6)]) rfl sc__law_told.nd (pi_list (pv 4)) (blkOk_by (N := ["web", "rules", "state", "folk", "seen", "one", "sign", "rows"]) (sc := defScope s__law_told) (by decide +kernel)) (fun _ _ _ _ _ => (pg_tupT (n := 2) rfl (pgs_cons (pg_name (i := 5) sc__law_told.nd rfl (by first | exact Or.inl rfl | exact Or.inr rfl)) (pgs_cons (pg_name (i := 6) sc__law_told.nd rfl (by first | exact Or.inl rfl | exact Or.inr rfl)) pgs_nil)))) (fun _ _ _ _ _ => pts_nil) (fun _ _ _ _ _ => (pe_ix ix_tT (pe_ix ix_tT (pv 0) pe_int (fun _ _ => rfl)) (pv 5) (fun _ _ => rfl)))) pa_nil)))
      (pss_one (ps_ret (pe_ix ix_tT (pe_ix ix_tT (pv 1) (pv 3) (fun _ _ => rfl)) (pe_bmL PySem.F.plainAttrs_list PySem.F.slot_list_index PySem.F.type_list_index (mt_indexTI (units1 hr)) (pv 7) (pa_cons (pe_tupleL (by rfl) B.tuple (pe_lc (own := [("one", 5), ("sign", 6)]) rfl sc__law_told.nd (pi_list (pv 4)) (blkOk_by (N := ["web", "rules", "state", "folk", "seen", "one", "sign", "rows"]) (sc := defScope s__law_told) (by decide +kernel)) (fun _ _ _ _ _ => (pg_tupT (n := 2) rfl (pgs_cons (pg_name (i := 5) sc__law_told.nd rfl (by first | exact Or.inl rfl | exact Or.inr rfl)) (pgs_cons (pg_name (i := 6) sc__law_told.nd rfl (by first | exact Or.inl rfl | exact Or.inr rfl)) pgs_nil)))) (fun _ _ _ _ _ => pts_nil) (fun _ _ _ _ _ => (pe_ix ix_tT (pv 2) (pv 5) (fun _ _ => rfl))))) pa_nil)) (fun _ _ => rfl)))))), ?_⟩
    refine ⟨_, rfl, _, rfl, _, W, n, rfl, hW, ok.most, fun H1 p vs E1 hp0 hp hvs => ?_⟩
    have lvs : vs.length = (looksOf W n).length := by rw [paired_len hvs, List.length_map]
    have l4 := looks_len ok n
    refine ⟨_, rfl, p, rfl, ⟨_, SqL.of hp⟩, fun D hD => ?_⟩
    refine lc_list (K := K) (a := p) (xs := vs) (fun i H' => H' D = some (.lst (iv (((looksOf W n).take i).map fun l => topAt W l.1))) ∧ Ext H1 H') ⟨by rw [upd_same]; rfl, Ext.new hD _⟩ (fun i H' _ ⟨_, e⟩ => SqL.of (e.lst hp)) (fun i x H' hi ⟨h1, e1⟩ => ?_) fun H2 ⟨h2, E2⟩ => ?_
    · obtain ⟨lk, q, hlk, rfl, hq⟩ := row2_at (pTI.ext e1 hvs) hi
      have lo := looksOf_ok ok lk (List.mem_of_getElem? hlk)
      refine ⟨q, _, rfl, hq, rfl, _, _, rfl, _, _, rfl, rfl, rfl, yes ?_⟩
      refine ⟨_, rfl, a, _, _, _, rfl, rfl, (E1.trans e1).tup ha, rfl, _, rfl, tt, _, _, _, rfl, rfl, (E1.trans e1).tup ht, at_of (j := lk.1.toNat) (by omega) (iv_at (topAt_get lo.1.1 lo.1.2)), _, h1, ?_, ?_, e1.put hD _⟩
      · rw [iv_len, List.length_map, List.length_take]
        exact small1000 (by omega)
      · rw [upd_same, take_snoc hlk, List.map_append]
        unfold iv
        rw [List.map_append]
        rfl
    rw [lvs, List.take_length] at h2
    have tk := topsAt_ok ok n
    refine ⟨D, true, _, rfl, h2, by rw [List.length_map]; omega, fun t ht => by have := tk t ht; omega, fun H3 rw_ E3 hrw0 hrw => ?_⟩
    have E13 := E2.trans E3
    obtain ⟨_, rvs, e, hrws, hrvs⟩ := id hrw
    cases e
    have hr1 : ru[n.toNat]? = some (ru.getD n.toNat []) := by rw [List.getD_eq_getElem?_getD, List.getElem?_eq_getElem (by rw [rok.len]; omega)]; rfl
    obtain ⟨tv, htv, ta, rfl, hta⟩ := paired_get hrv hr1
    have E3' := E1.trans E13
    refine ⟨_, rfl, _, rfl, ra, _, _, _, rfl, rfl, E3'.tup hra, at_of (j := n.toNat) (by omega) htv, ?_⟩
    refine ⟨_, rfl, ⟨rw_, rvs, rfl, hrws⟩, ?_⟩
    refine ⟨_, rfl, p, rfl, ⟨_, SqL.of (E13.lst hp)⟩, fun D' hD' => ?_⟩
    refine lc_list (K := K) (a := p) (xs := vs) (fun i H' => H' D' = some (.lst (iv (((looksOf W n).take i).map fun l => stAt st l.1))) ∧ Ext H3 H') ⟨by rw [upd_same]; rfl, Ext.new hD' _⟩ (fun i H' _ ⟨_, e⟩ => SqL.of (e.lst (E13.lst hp))) (fun i x H' hi ⟨h1, e1⟩ => ?_) fun H4 ⟨h4, E4⟩ => ?_
    · obtain ⟨lk, q, hlk, rfl, hq⟩ := row2_at (pTI.ext (E13.trans e1) hvs) hi
      have lo := looksOf_ok ok lk (List.mem_of_getElem? hlk)
      refine ⟨q, _, rfl, hq, rfl, _, _, rfl, _, _, rfl, rfl, rfl, yes ?_⟩
      refine ⟨_, rfl, _, rfl, sa, _, _, _, rfl, rfl, (E3'.trans e1).tup hsa, at_of (j := lk.1.toNat) (by omega) (iv_at (stAt_get lo.1.1 (by rw [so.len]; exact lo.1.2))), _, h1, ?_, ?_, e1.put hD' _⟩
      · rw [iv_len, List.length_map, List.length_take]
        exact small1000 (by omega)
      · rw [upd_same, take_snoc hlk, List.map_append]
        unfold iv
        rw [List.map_append]
        rfl
    rw [lvs, List.take_length] at h4
    refine ⟨D', _, rfl, h4, fun u hu => ?_⟩
    have E5 := E4.trans (Ext.new hu (.tup (iv ((looksOf W n).map fun l => stAt st l.1))))
    obtain ⟨p0, p1⟩ := place_row (W := W) (st := st) (ls := looksOf W n) fun l hl => by
      have lo := looksOf_ok ok l hl
      exact so.bd l.1 lo.1.1 lo.1.2
    rw [← rowsAt_rws] at p1
    have hpl : ((ru.getD n.toNat []).length : Int) = manyRows W n := rok.rows n hn.1 hn.2
    have hlt : (placeOf W st n).toNat < (ru.getD n.toNat []).length := by
      have h1 := (List.getElem?_eq_some_iff.mp p1).1
      rw [rowsAt_rws, rws_len, pr_prod] at h1
      rw [many_eq ok] at hpl
      have : (placeOf W st n).toNat < prodOf W (looksOf W n) := h1
      omega
    refine ⟨_, (looksOf W n).map fun l : Int × Int => stAt st l.1, rowsAt W n, (placeOf W st n).toNat, rfl, ⟨u, rfl, upd_same⟩, hrw.ext E5, p1, fun m hm h2 => ?_, ?_⟩
    · rw [rowsAt_rws] at p1 h2
      have := rws_inj p1 h2
      have : (placeOf W st n).toNat = m := this
      omega
    · refine ⟨ta, _, _, _, rfl, rfl, (E3'.trans E5).tup hta, at_of (j := (placeOf W st n).toNat) rfl (iv_at (n := moodTold W ru st n) ?_), k _ (E3'.trans E5)⟩
      unfold moodTold
      rw [List.getD_eq_getElem?_getD (l := ru.getD n.toNat []), List.getElem?_eq_getElem hlt]
      rfl
theorem ok_law_behind {f : Addr} {fd : FuncData} (F : Fun K "_law_behind" "_law_behind" s__law_behind f fd) (B : Blt mg)
    (c__law_told : Cal P w K mg base CX0 2 "_law_told" ["web", "rules", "state", "folk"] spLawTold) : FnOk P w K mg base CX0 3 f fd ["web", "rules", "state"] spLawBehind := by
  refine F.ok sc__law_behind (fun vs H Q E h => ?_) (fun cdv A outer s0 H vs Q E hr h => ?_)
  · obtain ⟨v, r, z, W, ru, st, rfl, _⟩ := h
    rfl
  · obtain ⟨v, r, z, W, ru, st, rfl, hW, ok, hru, rok, hst, so, k⟩ := h
    obtain ⟨a, t, l, rfl, ha, ⟨tt, rfl, ht⟩, hl⟩ := id hW
    refine ⟨_, (pss_one (ps_ret (pe_tupleL (by rfl) B.tuple (pe_lc (own := [("folk", 3)]) rfl sc__law_behind.nd (pi_range1 (by rfl) B.range (pa_cons (pe_callB call_lenT (by rfl) B.len PySem.boot_len (pa_cons (pe_ix ix_tT (pv 0) pe_int (fun _ _ => rfl)) pa_nil)) pa_nil)) (blkOk_by (N := ["web", "rules", "state", "folk"]) (sc := defScope s__law_behind) (by decide +kernel)) (fun _ _ _ _ _ => (pg_name (i := 3) sc__law_behind.nd rfl (by first | exact Or.inl rfl | exact Or.inr rfl))) (fun _ _ _ _ _ => pts_nil) (fun _ _ _ _ _ => (pe_c0 c__law_told (hr.mono (by decide)) (by rfl) (pa_cons (pv 0) (pa_cons (pv 1) (pa_cons (pv 2) (pa_cons (pv 3) pa_nil)))))))))), ?_⟩
    have h6 := ok.few
    refine ⟨_, rfl, a, _, _, _, rfl, rfl, ha, rfl, tt, _, rfl, .inr ht, _, rfl, by omega, by rw [iv_len]; omega, fun D hD => ?_⟩
    have en : ((iv W.tops).length : Int).toNat = W.tops.length := by rw [iv_len]; omega
    rw [en]
    refine lc_range (lo := 0) (n := W.tops.length) (fun i H' => H' D = some (.lst (iv ((List.range i).map fun f : Nat => moodTold W ru st (f : Int)))) ∧ Ext H H') ⟨upd_same, Ext.new hD _⟩ (fun i H' hi ⟨h1, e1⟩ => ?_) fun H' ⟨h1, e1⟩ => ?_
    · have ei : (0 : Int) + (i : Int) = (i : Int) := Int.zero_add _
      rw [ei]
      refine ⟨rfl, yes ?_⟩
      refine ⟨_, rfl, _, rfl, _, rfl, _, rfl, _, _, _, W, ru, st, _, rfl, hW.ext e1, ok, hru.ext e1, rok, hst.ext e1, so, ⟨by omega, by omega⟩, fun H2 e2 => ?_⟩
      refine ⟨_, e2.lst h1, ?_, ?_, (e1.trans e2).put hD _⟩
      · rw [iv_len, List.length_map, List.length_range]
        exact small1000 (by omega)
      · rw [upd_same, List.range_succ, List.map_append]
        unfold iv
        rw [List.map_append]
        rfl
    · refine ⟨D, _, rfl, h1, fun u hu => ?_⟩
      refine k _ u (e1.trans (Ext.new hu _)) (e1.free hu) ?_
      rw [upd_same]
      unfold stateTold
      rw [so.len]
theorem ok_law_settled {f : Addr} {fd : FuncData} (F : Fun K "_law_settled" "_law_settled" s__law_settled f fd) (B : Blt mg)
    (c__law_moods : Cal P w K mg base CX0 1 "_law_moods" ["tops"] spLawMoods) (c__law_behind : Cal P w K mg base CX0 3 "_law_behind" ["web", "rules", "state"] spLawBehind) : FnOk P w K mg base CX0 4 f fd ["web", "rules"] spLawSettled := by
  refine F.ok sc__law_settled (fun vs H Q E h => ?_) (fun cdv A outer s0 H vs Q E hr h => ?_)
  · obtain ⟨v, r, W, ru, rfl, _⟩ := h
    rfl
  · obtain ⟨v, r, W, ru, rfl, hW, ok, hru, rok, k⟩ := h
    obtain ⟨a, t, l, rfl, ha, ⟨tt, rfl, ht⟩, hl⟩ := id hW
    refine ⟨_, (pss_one (ps_ret (pe_lc (own := [("state", 2)]) rfl sc__law_settled.nd (pi_list (pe_c0 c__law_moods (hr.mono (by decide)) (by rfl) (pa_cons (pe_ix ix_tT (pv 0) pe_int (fun _ _ => rfl)) pa_nil))) (blkOk_by (N := ["web", "rules", "state"]) (sc := defScope s__law_settled) (by decide +kernel)) (fun _ _ _ _ _ => (pg_name (i := 2) sc__law_settled.nd rfl (by first | exact Or.inl rfl | exact Or.inr rfl))) (fun _ _ _ _ _ => (pts_one (pt_cmpR (op_eqTI hr.units) (pe_c0 c__law_behind (hr.mono (by decide)) (by rfl) (pa_cons (pv 0) (pa_cons (pv 1) (pa_cons (pv 2) pa_nil)))) (pv 2) (nomark _)))) (fun _ _ _ _ _ => (pv 2))))), ?_⟩
    have h6 := ok.few
    refine ⟨_, rfl, a, _, _, _, rfl, rfl, ha, rfl, tt, false, W.tops, rfl, ht, ok.few, fun t ht => by have := ok.tops t ht; omega, fun H1 p E1 hp0 hpl => ?_⟩
    obtain ⟨_, vs, e, hp, hvs⟩ := id hpl
    cases e
    refine ⟨p, rfl, ⟨_, SqL.of hp⟩, fun D hD => ?_⟩
    have hrl : (rowsOf W.tops).length ≤ 4096 := by
      have h1 := rows_len4 (tops := W.tops) (fun t ht => (ok.tops t ht).2) [[]]
      have h2 : 4 ^ W.tops.length ≤ 4 ^ 6 := Nat.pow_le_pow_right (by decide) ok.few
      simp only [List.length_singleton, Nat.one_mul] at h1
      exact Nat.le_trans h1 h2
    refine lc_list (K := K) (a := p) (xs := vs) (fun i H' => ∃ acc, H' D = some (.lst acc) ∧ Ext H1 H' ∧ acc.length ≤ i ∧ Paired (TI H') acc (((rowsOf W.tops).take i).filter fun st => decide (stateTold W ru st = st))) ⟨[], upd_same, Ext.new hD _, Nat.le_refl _, .nil⟩ (fun i H' _ ⟨_, _, e, _⟩ => SqL.of (e.lst hp)) (fun i x H' hi ⟨acc, hacc, e, hl, hpa⟩ => ?_) fun H' ⟨acc, hacc, e, hl, hpa⟩ => ?_
    · obtain ⟨st, hst, hx⟩ := paired_get' (pTI.ext e hvs) hi
      have E2 := E1.trans e
      have so := rows_st (W := W) (List.mem_of_getElem? hst)
      have hi4 : i < 4096 := by
        have := (List.getElem?_eq_some_iff.mp hst).1
        omega
      refine ⟨rfl, _, rfl, _, rfl, _, rfl, _, _, _, W, ru, st, rfl, hW.ext E2, ok, hru.ext E2, rok, hx, so, fun H3 u E3 hu0 hu => ?_⟩
      refine ⟨_, rfl, _, st, ⟨u, rfl, hu⟩, hx.ext E3, _, rfl, ?_⟩
      rw [List.take_add_one, hst, List.filter_append]
      by_cases hc : stateTold W ru st = st
      · rw [decide_eq_true hc]
        refine iteT ⟨_, rfl, acc, E3.lst hacc, Nat.lt_of_lt_of_le (show acc.length < 5000 by omega) (by decide), acc ++ [x], upd_same, (e.trans E3).put hD _, by rw [List.length_append]; simp; omega, ?_⟩
        · have F1 : List.filter (fun st => decide (stateTold W ru st = st)) (some st).toList = [st] := by simp [hc]
          rw [F1]
          exact pTI.put (E3.lst hacc) (fun _ _ h => h) (paired_snoc (hx.ext E3) (pTI.ext E3 hpa))
      · rw [decide_eq_false hc]
        have F1 : List.filter (fun st => decide (stateTold W ru st = st)) (some st).toList = [] := by simp [hc]
        rw [F1, List.append_nil]
        exact iteF ⟨acc, E3.lst hacc, e.trans E3, by omega, pTI.ext E3 hpa⟩
    · have hvl : vs.length = (rowsOf W.tops).length := paired_len hvs
      rw [hvl, List.take_length] at hpa
      exact k _ D (E1.trans e) ⟨D, acc, rfl, hacc, hpa⟩
end
end Lk


/-! ## D30 -/
set_option Elab.async false
set_option linter.all false
set_option maxRecDepth 100000
set_option maxHeartbeats 2000000
namespace Lk
open PySem PySem.Spec PyProof.Rows L2 Gx
open GxR (TabG Tabbed TabB)
variable [Own]
abbrev s__law_web : Stmt := top 50
theorem sc__law_web : FnScope ["row", "folk", "most", "looks", "one", "tops", "found", "seen", "turn", "other", "sign", "key"] ["row", "folk", "most", "looks"] (defScope s__law_web) := ⟨rfl, rfl, rfl, by decide +kernel, rfl, by decide +kernel, by decide +kernel⟩
def spLawWeb (K : PySem.W.Frag) : Sp := fun vs H Q _ => ∃ (r sc : Addr) (ns : List Int) (n most looks : Nat), vs = [.ref r, .int n, .int most, .int looks] ∧ Rw K H r sc ns ∧ (1 ≤ n ∧ n ≤ 6) ∧ (1 ≤ most ∧ most ≤ 3) ∧ looks ≤ 1000 ∧
  ∀ H' v W, ExtB r H H' → Rw K H' r sc ns → WebAt H' v W → W.Ok → W.tops.length = n → (∀ t ∈ W.tops, t ≤ most) → Q v H'
/-- looks drawn so far, the first first -/
structure FdOk (n : Nat) (L : List Look3) : Prop where
  nd : (L.map fun l => (l.1, l.2.1)).Nodup
  rng : ∀ l ∈ L, (0 ≤ l.1 ∧ l.1 < n) ∧ (0 ≤ l.2.1 ∧ l.2.1 < n) ∧ (l.2.2 = 1 ∨ l.2.2 = -1)
  len : L.length ≤ 14
  four : ∀ f : Int, (L.filter fun l => l.2.1 == f).length ≤ 4
def kvOf (L : List Look3) : List (List Key × V) := L.map fun l => ([Sum.inl l.1, Sum.inl l.2.1], V.int l.2.2)
def cntOf (n : Nat) (L : List Look3) : List Int := (List.range n).map fun o : Nat => (((L.filter fun l => l.2.1 == (o : Int)).length : Nat) : Int)
theorem cntOf_len (n : Nat) (L : List Look3) : (cntOf n L).length = n := by unfold cntOf; rw [List.length_map, List.length_range]
theorem cntOf_at {n : Nat} {L : List Look3} {b : Int} (h0 : 0 ≤ b) (h1 : b < n) : (cntOf n L)[b.toNat]? = some (((L.filter fun l => l.2.1 == b).length : Nat) : Int) := by
  unfold cntOf
  rw [List.getElem?_map, List.getElem?_range (by omega)]
  show some (((L.filter fun l => l.2.1 == ((b.toNat : Nat) : Int)).length : Nat) : Int) = _
  rw [show ((b.toNat : Nat) : Int) = b by omega]
theorem cntOf_snoc {n : Nat} {L : List Look3} {l : Look3} (h0 : 0 ≤ l.2.1) (h1 : l.2.1 < n) : (cntOf n L).set l.2.1.toNat ((((L.filter fun k => k.2.1 == l.2.1).length : Nat) : Int) + 1) = cntOf n (L ++ [l]) := by
  refine List.ext_getElem? fun j => ?_
  rw [List.getElem?_set, cntOf_len]
  by_cases hj : j < n
  · have e : (cntOf n (L ++ [l]))[j]? = some ((((L ++ [l]).filter fun k => k.2.1 == (j : Int)).length : Nat) : Int) := by
      unfold cntOf
      rw [List.getElem?_map, List.getElem?_range hj]
      rfl
    rw [e, List.filter_append, List.length_append]
    by_cases hb : l.2.1.toNat = j
    · have hb2 : (j : Int) = l.2.1 := by omega
      rw [if_pos hb, if_pos (by omega), hb2, List.filter_cons, if_pos (by simp)]
      simp
    · have e1 : (cntOf n L)[j]? = some (((L.filter fun k => k.2.1 == (j : Int)).length : Nat) : Int) := by
        unfold cntOf
        rw [List.getElem?_map, List.getElem?_range hj]
        rfl
      have hb2 : (l.2.1 == (j : Int)) = false := by
        rw [beq_eq_false_iff_ne]
        omega
      rw [if_neg hb, e1, List.filter_cons, hb2]
      simp
  · have e : (cntOf n (L ++ [l]))[j]? = none := List.getElem?_eq_none (by rw [cntOf_len]; omega)
    have e1 : (cntOf n L)[j]? = none := List.getElem?_eq_none (by rw [cntOf_len]; omega)
    rw [e, e1]
    by_cases hb : l.2.1.toNat = j
    · omega
    · rw [if_neg hb]
theorem kv_not {L : List Look3} {a b : Int} (h : valV (kvOf L) [Sum.inl a, Sum.inl b] = none) : (a, b) ∉ L.map fun l => (l.1, l.2.1) := by
  intro hm
  refine valV_not h ?_
  obtain ⟨l, hl, e⟩ := List.mem_map.mp hm
  refine List.mem_map.mpr ⟨([Sum.inl l.1, Sum.inl l.2.1], V.int l.2.2), List.mem_map.mpr ⟨l, hl, rfl⟩, ?_⟩
  injection e with e1 e2
  show [Sum.inl l.1, Sum.inl l.2.1] = _
  rw [e1, e2]
theorem kv_get : ∀ {L : List Look3} {l : Look3}, (L.map fun l => (l.1, l.2.1)).Nodup → l ∈ L → valV (kvOf L) [Sum.inl l.1, Sum.inl l.2.1] = some (.int l.2.2)
  | [], l, _, h => by cases h
  | k :: L, l, nd, h => by
    rw [List.map_cons, List.nodup_cons] at nd
    show valV (([Sum.inl k.1, Sum.inl k.2.1], V.int k.2.2) :: kvOf L) _ = _
    rcases List.mem_cons.mp h with e | h
    · rw [e]
      exact valV_pos rfl
    · rw [valV_neg]
      · exact kv_get nd.2 h
      · intro e
        injection e with e1 e2
        injection e1 with e1
        injection e2 with e2
        injection e2 with e2
        exact nd.1 (List.mem_map.mpr ⟨l, h, by rw [e1, e2]⟩)
theorem FdOk.nil (n : Nat) : FdOk n [] := ⟨by simp, (fun _ h => by cases h), by simp, fun _ => by simp⟩
theorem FdOk.snoc {n : Nat} {L : List Look3} (h : FdOk n L) {l : Look3} (h1 : (l.1, l.2.1) ∉ L.map fun l => (l.1, l.2.1)) (h2 : (0 ≤ l.1 ∧ l.1 < n) ∧ (0 ≤ l.2.1 ∧ l.2.1 < n) ∧ (l.2.2 = 1 ∨ l.2.2 = -1)) (h3 : L.length < 14) (h4 : (L.filter fun k => k.2.1 == l.2.1).length < 4) : FdOk n (L ++ [l]) := by
  refine ⟨?_, fun k hk => ?_, by rw [List.length_append]; simp; omega, fun f => ?_⟩
  · rw [List.map_append, List.nodup_append]
    refine ⟨h.nd, by simp, fun x hx y hy e => ?_⟩
    rw [List.mem_singleton.mp hy] at e
    rw [e] at hx
    exact h1 hx
  · rcases List.mem_append.mp hk with q | q
    · exact h.rng k q
    · rw [List.mem_singleton.mp q]
      exact h2
  · rw [List.filter_append, List.length_append]
    by_cases hf : l.2.1 = f
    · rw [← hf]
      have := List.length_filter_le (fun k : Look3 => k.2.1 == l.2.1) [l]
      simp only [List.length_singleton] at this
      omega
    · have hb2 : (l.2.1 == f) = false := by rw [beq_eq_false_iff_ne]; exact hf
      rw [List.filter_cons, hb2]
      simp
      exact h.four f
theorem perm_paired {α β : Type} {R : α → β → Prop} {ys xs : List α} (p : ys.Perm xs) : ∀ {L : List β}, Paired R xs L → ∃ L', L'.Perm L ∧ Paired R ys L' := by
  induction p with
  | nil => intro L h; exact ⟨L, .refl _, h⟩
  | cons x _ ih =>
    intro L h
    cases h with
    | cons r t =>
      obtain ⟨L', p', q⟩ := ih t
      exact ⟨_, p'.cons _, .cons r q⟩
  | swap x y l =>
    intro L h
    cases h with
    | cons r t =>
      cases t with
      | cons r2 t => exact ⟨_, .swap _ _ _, .cons r2 (.cons r t)⟩
  | trans _ _ ih1 ih2 =>
    intro L h
    obtain ⟨L1, p1, q1⟩ := ih2 h
    obtain ⟨L2, p2, q2⟩ := ih1 q1
    exact ⟨L2, p2.trans p1, q2⟩
theorem paired_pw {α β : Type} {R : α → β → Prop} {S : α → α → Prop} {T : β → β → Prop} (h : ∀ x y a b, R x a → R y b → S x y → T a b) : ∀ {ys : List α} {L : List β}, Paired R ys L → ys.Pairwise S → L.Pairwise T
  | _, _, .nil, _ => .nil
  | x :: ys, a :: L, .cons r t, p => by
    obtain ⟨p1, p2⟩ := List.pairwise_cons.mp p
    refine List.pairwise_cons.mpr ⟨fun b hb => ?_, paired_pw h t p2⟩
    obtain ⟨i, hi, rfl⟩ := List.getElem_of_mem hb
    obtain ⟨y, hy, ry⟩ := paired_get t (List.getElem?_eq_getElem hi)
    exact h x y _ _ r ry (p1 y (List.mem_of_getElem? hy))
/-- a key as a value -/
def KyAt (H : Hp) (y : V) (l : Look3) : Prop := ∃ b, y = .ref b ∧ H b = some (.tup [.int l.1, .int l.2.1])
theorem keys_ky {H : Hp} : ∀ {L : List Look3} {bs : List Addr}, IsKeys H (kvOf L) bs → Paired (KyAt H) (bs.map V.ref) L
  | [], _, .nil => .nil
  | l :: L, _, .cons r t => .cons ⟨_, rfl, r⟩ (keys_ky t)
section
variable {P : Program} {w : World} {K : PySem.W.Frag} {mg : Str → Option Value} {base : Heap} {Ps : List Addr}
theorem ok_law_web {f : Addr} {fd : FuncData} (F : Fun K "_law_web" "_law_web" s__law_web f fd) (B : Blt mg) (c__law_taken : Cal P w K mg base CX0 1 "_law_taken" ["row", "many"] (spTaken K)) : FnOk P w K mg base CX0 2 f fd ["row", "folk", "most", "looks"] (spLawWeb K) := by
  refine F.ok sc__law_web (fun vs H Q E h => ?_) (fun cdv A outer s0 H vs Q E hr h => ?_)
  · obtain ⟨r, sc, ns, n, most, looks, rfl, _⟩ := h
    rfl
  · obtain ⟨r, sc, ns, n, most, looks, rfl, hR, hn, hmost, hlooks, k⟩ := h
    refine ⟨_, (pss_cons (ps_asg (pe_tup (pa_cons (pe_tupleL (by rfl) B.tuple (pe_lc (own := [("one", 4)]) rfl sc__law_web.nd (pi_range1 (by rfl) B.range (pa_cons (pv 1) pa_nil)) (blkOk_by (N := ["row", "folk", "most", "looks", "one", "tops", "found", "seen", "turn", "other", "sign", "key"]) (sc := defScope s__law_web) (by decide +kernel)) (fun _ _ _ _ _ => (pg_name (i := 4) sc__law_web.nd rfl (by first | exact Or.inl rfl | exact Or.inr rfl))) (fun _ _ _ _ _ => pts_nil) (fun _ _ _ _ _ => (pe_op op_add pe_int (pe_c0 c__law_taken (hr.mono (by decide)) (by rfl) (pa_cons (pv 0) (pa_cons (pv 2) pa_nil))))))) (pa_cons pe_dnewT (pa_cons (pe_op op_rep (pe_lst (pa_cons pe_int pa_nil)) (pv 1)) pa_nil)))) (pg_tupT (n := 3) rfl (pgs_cons (pg_name (i := 5) sc__law_web.nd rfl (by first | exact Or.inl rfl | exact Or.inr rfl)) (pgs_cons (pg_name (i := 6) sc__law_web.nd rfl (by first | exact Or.inl rfl | exact Or.inr rfl)) (pgs_cons (pg_name (i := 7) sc__law_web.nd rfl (by first | exact Or.inl rfl | exact Or.inr rfl)) pgs_nil)))))
      (pss_cons (ps_for PassesOwn.never rfl (pi_range1 (by rfl) B.range (pa_cons (pe_c0 c__law_taken (hr.mono (by decide)) (by rfl) (pa_cons (pv 0) (pa_cons (pe_op op_add (pv 3) pe_int) pa_nil))) pa_nil)) (pg_name (i := 8) sc__law_web.nd rfl (by first | exact Or.inl rfl | exact Or.inr rfl))
        (pss_cons (ps_par (i := 4) (j := 9) rfl sc__law_web.nd rfl rfl (by decide) rfl rfl (pa_cons (pe_c0 c__law_taken (hr.mono (by decide)) (by rfl) (pa_cons (pv 0) (pa_cons (pv 1) pa_nil))) (pa_cons (pe_c0 c__law_taken (hr.mono (by decide)) (by rfl) (pa_cons (pv 0) (pa_cons (pv 1) pa_nil))) pa_nil)) (by rfl))
        (pss_cons (ps_set (i := 10) sc__law_web.nd rfl (by first | exact Or.inl rfl | exact Or.inr rfl) (pe_ix ix_lT (pe_lst (pa_cons pe_int (pa_cons (pe_un un_neg pe_int) pa_nil))) (pe_c0 c__law_taken (hr.mono (by decide)) (by rfl) (pa_cons (pv 0) (pa_cons pe_int pa_nil))) (fun _ _ => rfl)))
        (pss_one (ps_if (PW.pt (pw_and (pt_cmp (pc_dnotin (hu_of hr) (pe_tup (pa_cons (pv 4) (pa_cons (pv 9) pa_nil))) (pv 6))) (pw_and (pt_cmpR op_lt (pe_ix ix_lT (pv 7) (pv 9) (fun _ _ => rfl)) pe_int (nomark _)) (pw_and1 (pt_cmpR op_lt (pe_callB call_lenT (by rfl) B.len PySem.boot_len (pa_cons (pe_callTy (call_list_dT rfl) (by rfl) B.list boot_tyList (pa_cons (pv 6) pa_nil)) pa_nil)) pe_int (nomark _))))))
          (pss_cons (ps_dput (hu_of hr) (pv 6) (pe_tup (pa_cons (pv 4) (pa_cons (pv 9) pa_nil))) (pv 10) rfl)
          (pss_one (ps_asg (pe_op op_add (pe_ix ix_lT (pv 7) (pv 9) (fun _ _ => rfl)) pe_int) (pg_sub (pv 7) (pv 9) set_list)))) pss_nil)))))
      (pss_one (ps_ret (pe_tup (pa_cons (pv 5) (pa_cons (pe_tupleL (by rfl) B.tuple (pe_lc (own := [("key", 11)]) rfl sc__law_web.nd (pi_list (pe_callB (cr_sortT (d := 2) (B := 64) (by decide)) (by rfl) B.sorted boot_sorted (pa_cons (pe_callTy (call_list_dT rfl) (by rfl) B.list boot_tyList (pa_cons (pv 6) pa_nil)) pa_nil))) (blkOk_by (N := ["row", "folk", "most", "looks", "one", "tops", "found", "seen", "turn", "other", "sign", "key"]) (sc := defScope s__law_web) (by decide +kernel)) (fun _ _ _ _ _ => (pg_name (i := 11) sc__law_web.nd rfl (by first | exact Or.inl rfl | exact Or.inr rfl))) (fun _ _ _ _ _ => pts_nil) (fun _ _ _ _ _ => (pe_op op_catTT (pv 11) (pe_tup (pa_cons (pe_dget (hu_of hr) (pv 6) (pv 11) (fun _ _ => rfl)) pa_nil)))))) pa_nil))))))), ?_⟩
    refine ⟨_, rfl, n, rfl, by omega, by omega, fun D hD => ?_⟩
    have hDr := hR.ne_none hD
    have en : ((n : Nat) : Int).toNat = n := by omega
    rw [en]
    refine lc_range (lo := 0) (n := n) (fun i H' => ∃ ts, H' D = some (.lst (iv ts)) ∧ ExtB r H H' ∧ Rw K H' r sc ns ∧ ts.length = i ∧ ∀ t ∈ ts, 1 ≤ t ∧ t ≤ most) ⟨[], upd_same, (Ext.new hD _).b, hR.new hD _, rfl, (fun _ h => by cases h)⟩ (fun i H' hi ⟨ts, h1, e1, R1, l1, b1⟩ => ?_) fun H1 ⟨ts, h1, e1, R1, l1, b1⟩ => ?_
    · refine ⟨rfl, yes ?_⟩
      refine ⟨_, rfl, _, rfl, r, sc, ns, _, rfl, R1, ⟨by omega, by omega⟩, fun H2 m e2 R2 same hm => ?_⟩
      refine ⟨_, _, rfl, rfl, iv ts, same_at same hDr h1, by rw [iv_len]; exact small1000 (by omega), ts ++ [1 + m], ?_, (e1.trans e2).put hD _, R2.put hR hD _, by rw [List.length_append, l1]; rfl, fun t ht => ?_⟩
      · rw [upd_same]
        unfold iv
        rw [List.map_append]
        rfl
      · rcases List.mem_append.mp ht with q | q
        · exact b1 t q
        · rw [List.mem_singleton.mp q]
          omega
    refine ⟨D, _, rfl, h1, fun tu htu => ?_⟩
    refine fun d hd => ?_
    refine ⟨(by show 1 ≤ sizeLine; decide), fun z hz => ?_⟩
    refine ⟨_, rfl, z, _, _, rfl, rfl, upd_same, by omega, by omega, by rw [en]; exact Nat.le_of_lt (small1000 (by simp only [List.length_singleton]; omega)), fun s hs => ?_⟩
    refine ⟨(by show 3 ≤ sizeLine; decide), fun u hu => ⟨u, _, rfl, upd_same, rfl, _, _, rfl, _, _, rfl, _, _, rfl, rfl, ?_⟩⟩
    have erep : (List.replicate ((n : Nat) : Int).toNat [V.int 0]).flatten = iv (cntOf n []) := by
      rw [en]
      refine List.ext_getElem? fun j => ?_
      unfold iv cntOf
      rw [List.flatten_replicate_singleton, List.getElem?_map, List.getElem?_map, List.getElem?_replicate]
      by_cases hj : j < n
      · rw [if_pos hj, List.getElem?_range hj]
        rfl
      · rw [if_neg hj, List.getElem?_eq_none (by rw [List.length_range]; omega)]
        rfl
    rw [erep] at hu ⊢
    generalize hH2 : L2.upd _ tu _ = H2 at hd hz hs hu ⊢
    have ed : H2 d = none := hd
    generalize hH3 : L2.upd H2 d _ = H3 at hz hs hu ⊢
    have ez : H3 z = none := hz
    generalize hH4 : L2.upd H3 z _ = H4 at hs hu ⊢
    have es : H4 s = none := hs
    generalize hH5 : L2.upd H4 s _ = H5 at hu ⊢
    have X2 : Ext H1 H2 := by rw [← hH2]; exact Ext.new htu _
    have X3 : Ext H2 H3 := by rw [← hH3]; exact Ext.new ed _
    have X4 : Ext H3 H4 := by rw [← hH4]; exact Ext.new ez _
    have X5 : Ext H4 H5 := by rw [← hH5]; exact Ext.new es _
    have X6 : Ext H5 (L2.upd H5 u (.tup [.ref tu, .ref d, .ref s])) := Ext.new hu _
    have E6 : ExtB r H (L2.upd H5 u (.tup [.ref tu, .ref d, .ref s])) := e1.trans ((((X2.trans X3).trans X4).trans X5).trans X6).b
    have R6 : Rw K (L2.upd H5 u (.tup [.ref tu, .ref d, .ref s])) r sc ns := R1.ext ((((X2.trans X3).trans X4).trans X5).trans X6)
    have t6 : L2.upd H5 u (.tup [.ref tu, .ref d, .ref s]) tu = some (.tup (iv ts)) := (((X3.trans X4).trans X5).trans X6).tup (by rw [← hH2]; exact upd_same)
    have d3 : H3 d = some (.dT []) := by rw [← hH3]; exact upd_same
    have d6 : L2.upd H5 u (.tup [.ref tu, .ref d, .ref s]) d = some (.dT []) := ((X4.trans X5).trans X6).keep _ _ d3 rfl
    have s6 : L2.upd H5 u (.tup [.ref tu, .ref d, .ref s]) s = some (.lst (iv (cntOf n []))) := X6.lst (by rw [← hH5]; exact upd_same)
    have d0 : H d = none := e1.free (X2.free ed)
    have s0' : H s = none := e1.free (X2.free (X3.free (X4.free es)))
    have htd : tu ≠ d := ne_of t6 d6 (by intro q; cases q)
    have hts : tu ≠ s := ne_of t6 s6 (by intro q; cases q)
    have hds : d ≠ s := ne_of d6 s6 (by intro q; cases q)
    have hdr := hR.ne_none d0
    have hsr := hR.ne_none s0'
    have htr : tu ≠ r := by
      have : H1 tu = none := htu
      exact R1.ne_none this
    clear hH2 hH3 hH4 hH5 X2 X3 X4 X5 X6 erep
    generalize L2.upd H5 u (.tup [.ref tu, .ref d, .ref s]) = H6 at E6 R6 t6 d6 s6 ⊢
    refine ⟨_, rfl, _, rfl, _, _, rfl, rfl, r, sc, ns, _, rfl, R6, ⟨by omega, by omega⟩, fun H7 m E7 R7 same7 hm => ?_⟩
    refine ⟨_, rfl, by omega, by omega, for_range (lo := 0) (n := m.toNat) (fun i σ H' => ∃ (L : List Look3) (o4 o8 o9 o10 o11 : Option V), σ = [some (.ref r), some (.int n), some (.int most), some (.int looks), o4, some (.ref tu), some (.ref d), some (.ref s), o8, o9, o10, o11] ∧ ExtB r H H' ∧ Rw K H' r sc ns ∧ H' tu = some (.tup (iv ts)) ∧ H' d = some (.dT (kvOf L)) ∧ H' s = some (.lst (iv (cntOf n L))) ∧ FdOk n L)
      ⟨[], _, _, _, _, _, rfl, E6.trans E7, R7, E7.keep _ _ htr t6 rfl, same_at same7 hdr d6, same_at same7 hsr s6, .nil n⟩ ?_ ?_⟩
    · rintro i σ H8 hi ⟨L, o4, o8, o9, o10, o11, rfl, e8, R8, t8, d8, s8, ok8⟩
      refine ⟨_, rfl, _, rfl, r, sc, ns, _, rfl, R8, ⟨by omega, by omega⟩, fun H9 a E9 R9 same9 ha => ?_⟩
      refine ⟨_, rfl, _, rfl, r, sc, ns, _, rfl, R9, ⟨by omega, by omega⟩, fun HA b EA RA sameA hb => ?_⟩
      refine ⟨_, _, rfl, ?_⟩
      refine ⟨_, rfl, (by show 2 ≤ sizeLine; decide), fun q hq => ?_⟩
      refine ⟨_, rfl, r, sc, ns, _, rfl, RA.new hq _, ⟨by decide, by decide⟩, fun HB g EB RB sameB hg => ?_⟩
      have hqr := RA.ne_none hq
      have q8 : HB q = some (.lst [.int 1, .int (-1)]) := same_at sameB hqr upd_same
      have tB := EB.keep _ _ htr ((Ext.new hq (.lst [.int 1, .int (-1)])).keep _ _ (EA.keep _ _ htr (E9.keep _ _ htr t8 rfl) rfl) rfl) rfl
      have dA : HA d = some (.dT (kvOf L)) := same_at sameA hdr (same_at same9 hdr d8)
      have sA : HA s = some (.lst (iv (cntOf n L))) := same_at sameA hsr (same_at same9 hsr s8)
      have dB : HB d = some (.dT (kvOf L)) := same_at sameB hdr ((Ext.new hq (.lst [.int 1, .int (-1)])).keep _ _ dA rfl)
      have sB : HB s = some (.lst (iv (cntOf n L))) := same_at sameB hsr ((Ext.new hq (.lst [.int 1, .int (-1)])).keep _ _ sA rfl)
      have eB : ExtB r H HB := ((e8.trans E9).trans EA).trans ((Ext.new hq _).b.trans EB)
      obtain ⟨sg, hsg, hat⟩ : ∃ sg : Int, (sg = 1 ∨ sg = -1) ∧ atI [V.int 1, V.int (-1)] g = some (.int sg) := by
        rcases (by omega : g = 0 ∨ g = 1) with e | e <;> subst e
        · exact ⟨1, .inl rfl, rfl⟩
        · exact ⟨-1, .inr rfl, rfl⟩
      refine ⟨q, _, _, _, rfl, rfl, q8, hat, ?_⟩
      refine ⟨_, rfl, _, rfl, (by show 2 ≤ sizeLine; decide), fun y hy => ?_⟩
      have XC := Ext.new hy (.tup [.int a, .int b])
      have tC := XC.tup tB
      have dC := XC.keep _ _ dB rfl
      have sC := XC.lst sB
      have RC := RB.ext XC
      have eC := eB.trans XC.b
      have inv0 : ∀ (H' : Hp) (L' : List Look3), ExtB r H H' → Rw K H' r sc ns → H' tu = some (.tup (iv ts)) → H' d = some (.dT (kvOf L')) → H' s = some (.lst (iv (cntOf n L'))) → FdOk n L' →
          ∃ (L : List Look3) (p4 p8 p9 p10 p11 : Option V), ([some (.ref r), some (.int n), some (.int most), some (.int looks), some (.int a), some (.ref tu), some (.ref d), some (.ref s), some (.int (0 + (i : Int))), some (.int b), some (.int sg), o11] : L2.St) = [some (.ref r), some (.int n), some (.int most), some (.int looks), p4, some (.ref tu), some (.ref d), some (.ref s), p8, p9, p10, p11] ∧ ExtB r H H' ∧ Rw K H' r sc ns ∧ H' tu = some (.tup (iv ts)) ∧ H' d = some (.dT (kvOf L)) ∧ H' s = some (.lst (iv (cntOf n L))) ∧ FdOk n L :=
        fun H' L' h1 h2 h3 h4 h5 h6 => ⟨L', _, _, _, _, _, rfl, h1, h2, h3, h4, h5, h6⟩
      refine ⟨_, rfl, d, valV (kvOf L) [Sum.inl a, Sum.inl b], rfl, .inr ⟨kvOf L, _, y, .inl dC, rfl, upd_same, rfl⟩, _, rfl, ?_⟩
      cases ev : valV (kvOf L) [Sum.inl a, Sum.inl b] with
      | some v => exact iteF (inv0 _ L eC RC tC dC sC ok8)
      | none =>
        refine iteT ?_
        have hbn : 0 ≤ b ∧ b < n := by omega
        refine ⟨_, rfl, _, rfl, s, _, _, _, rfl, rfl, sC, at_of (j := b.toNat) (by omega) (iv_at (cntOf_at hbn.1 hbn.2)), _, _, rfl, rfl, _, rfl, ?_⟩
        by_cases h4 : (((L.filter fun l => l.2.1 == b).length : Nat) : Int) < 4
        · rw [decide_eq_true h4]
          refine iteT ?_
          refine ⟨_, rfl, d, kvOf L, rfl, .inl dC, fun p bs hp hk => ?_⟩
          have XD := Ext.new hp (.lst (bs.map V.ref))
          have lbs : (bs.map V.ref).length = L.length := by rw [paired_len (keys_ky hk)]
          refine ⟨p, _, rfl, .inl upd_same, _, _, rfl, rfl, _, rfl, ?_⟩
          rw [lbs]
          have tD := XD.tup tC
          have dD := XD.keep _ _ dC rfl
          have sD := XD.lst sC
          have RD := RC.ext XD
          have eD := eC.trans XD.b
          by_cases h14 : ((L.length : Nat) : Int) < 14
          · rw [decide_eq_true h14]
            refine iteT ?_
            refine ⟨_, rfl, _, rfl, _, rfl, _, rfl, (by show 2 ≤ sizeLine; decide), fun y2 hy2 => ?_⟩
            have XE := Ext.new hy2 (.tup [.int a, .int b])
            have dE := XE.keep _ _ dD rfl
            have lkv : (kvOf L).length = L.length := by unfold kvOf; rw [List.length_map]
            refine ⟨d, _, rfl, .inr ⟨kvOf L, [Sum.inl a, Sum.inl b], y2, dE, rfl, upd_same, by rw [lkv]; exact small1000 (by omega), rfl⟩, ?_⟩
            have ek : putK (kvOf L) [Sum.inl a, Sum.inl b] (V.int sg) = kvOf (L ++ [(a, b, sg)]) := by
              rw [putK_new _ ev]
              unfold kvOf
              rw [List.map_append]
              rfl
            rw [ek]
            have eE := (eD.trans XE.b).put d0 (.dT (kvOf (L ++ [(a, b, sg)])))
            have RE := (RD.ext XE).put hR d0 (.dT (kvOf (L ++ [(a, b, sg)])))
            have sE : L2.upd (L2.upd (L2.upd (L2.upd HB y (.tup [.int a, .int b])) p (.lst (bs.map V.ref))) y2 (.tup [.int a, .int b])) d (.dT (kvOf (L ++ [(a, b, sg)]))) s = some (.lst (iv (cntOf n L))) := by rw [upd_ne hds.symm]; exact XE.lst sD
            refine ⟨_, rfl, _, rfl, s, _, _, _, rfl, rfl, sE, at_of (j := b.toNat) (by omega) (iv_at (cntOf_at hbn.1 hbn.2)), _, _, rfl, rfl, ?_⟩
            refine ⟨_, rfl, _, rfl, s, _, _, b.toNat, rfl, rfl, sE, ?_, ?_⟩
            · rw [iv_len, cntOf_len]
              unfold ixN
              rw [if_pos hbn.1, if_pos hbn.2]
            · have es : (iv (cntOf n L)).set b.toNat (V.int ((((L.filter fun l => l.2.1 == b).length : Nat) : Int) + 1)) = iv (cntOf n (L ++ [(a, b, sg)])) := by
                rw [← cntOf_snoc (l := (a, b, sg)) hbn.1 hbn.2]
                unfold iv
                rw [List.map_set]
              rw [es]
              refine inv0 _ (L ++ [(a, b, sg)]) (eE.put s0' _) (RE.put hR s0' _) ?_ ?_ upd_same (ok8.snoc (kv_not ev) ⟨by omega, hbn, hsg⟩ (by omega) (by show (L.filter fun k => k.2.1 == b).length < 4; omega))
              · rw [upd_ne hts, upd_ne htd]
                exact XE.tup tD
              · rw [upd_ne hds, upd_same]
          · rw [decide_eq_false h14]
            exact iteF (inv0 _ L eD RD tD dD sD ok8)
        · rw [decide_eq_false h4]
          exact iteF (inv0 _ L eC RC tC dC sC ok8)
    · rintro σ H8 ⟨L, o4, o8, o9, o10, o11, rfl, e8, R8, t8, d8, s8, ok8⟩
      refine ⟨_, rfl, _, rfl, d, kvOf L, rfl, .inl d8, fun p bs hp hk => ?_⟩
      have XA := Ext.new hp (.lst (bs.map V.ref))
      have hky : Paired (KyAt (L2.upd H8 p (.lst (bs.map V.ref)))) (bs.map V.ref) L := paired_mono (fun x l ⟨b, e, h⟩ => ⟨b, e, XA.tup h⟩) (keys_ky hk)
      have lbs : (bs.map V.ref).length = L.length := paired_len hky
      refine ⟨p, _, rfl, SqL.of upd_same, by rw [lbs]; have := ok8.len; omega, fun x hx => ?_, fun ys q perm pw hq => ?_⟩
      · obtain ⟨i, hi, rfl⟩ := List.getElem_of_mem hx
        obtain ⟨l, hl, b, e, hb⟩ := paired_get' hky (List.getElem?_eq_getElem hi)
        have h1 := ok8.rng l (List.mem_of_getElem? hl)
        rw [e]
        refine ⟨[l.1, l.2.1], ⟨b, rfl, SqT.of hb⟩, rfl, fun m hm => ?_⟩
        rcases List.mem_cons.mp hm with h | hm
        · omega
        · rw [List.mem_singleton.mp hm]
          omega
      obtain ⟨L', pL, hys⟩ := perm_paired perm hky
      have rng' : ∀ l ∈ L', (0 ≤ l.1 ∧ l.1 < n) ∧ (0 ≤ l.2.1 ∧ l.2.1 < n) ∧ (l.2.2 = 1 ∨ l.2.2 = -1) := fun l hl => ok8.rng l (pL.mem_iff.mp hl)
      have pw1 : L'.Pairwise fun k l => TS.code 64 [k.1, k.2.1] ≤ TS.code 64 [l.1, l.2.1] := paired_pw (fun x y k l ⟨b, e1, h1⟩ ⟨c, e2, h2⟩ hs => hs _ _ ⟨b, e1, SqT.of h1⟩ ⟨c, e2, SqT.of h2⟩) hys pw
      have nd' : (L'.map fun l => (l.1, l.2.1)).Nodup := (pL.map _).nodup_iff.mpr ok8.nd
      have asc : L'.Pairwise fun k l => k.1 < l.1 ∨ k.1 = l.1 ∧ k.2.1 < l.2.1 := by
        refine List.Pairwise.imp_of_mem (fun {k l} hk hl h => ?_) (pw1.and (List.pairwise_map.mp nd'))
        have g1 := rng' k hk
        have g2 := rng' l hl
        refine pair_lt h.1 (fun e => h.2 ?_) ⟨by omega, by omega⟩ ⟨by omega, by omega⟩ ⟨by omega, by omega⟩ ⟨by omega, by omega⟩
        injection e with e1 e2
        injection e2 with e2
        rw [e1, e2]
      have lL : L'.length = L.length := pL.length_eq
      have l14 := ok8.len
      have Wok : Web.Ok ⟨ts, L'⟩ := by
        refine ⟨by show 1 ≤ ts.length; omega, by show ts.length ≤ 6; omega, fun t ht => by have := b1 t ht; omega, by show L'.length ≤ 14; omega, fun l hl => ?_, asc, fun f => ?_⟩
        · have := rng' l hl
          have e : ts.length = n := l1
          show (0 ≤ l.1 ∧ l.1 < (ts.length : Int)) ∧ (0 ≤ l.2.1 ∧ l.2.1 < (ts.length : Int)) ∧ _
          rw [e]
          exact this
        · show ((L'.map fun l => l.2.1).filter fun o => o == f).length ≤ 4
          rw [List.filter_map, List.length_map, (pL.filter _).length_eq]
          exact ok8.four f
      have XB := XA.trans (Ext.new hq (.lst ys))
      have hys2 : Paired (KyAt (L2.upd (L2.upd H8 p (.lst (bs.map V.ref))) q (.lst ys))) ys L' := paired_mono (fun x l ⟨b, e, h⟩ => ⟨b, e, (Ext.new hq (.lst ys)).tup h⟩) hys
      refine ⟨q, rfl, ⟨_, SqL.of upd_same⟩, fun D2 hD2 => ?_⟩
      have lys : ys.length = L'.length := paired_len hys
      generalize hHB : L2.upd (L2.upd H8 p (.lst (bs.map V.ref))) q (.lst ys) = HB at XB hys2 hD2 ⊢
      have hqB : HB q = some (.lst ys) := by rw [← hHB]; exact upd_same
      clear hHB
      refine lc_list (K := K) (a := q) (xs := ys) (fun i H' => ∃ acc, H' D2 = some (.lst acc) ∧ Ext HB H' ∧ acc.length = i ∧ Paired (TI H') acc ((L'.take i).map row3)) ⟨[], upd_same, Ext.new hD2 _, rfl, by simpa using Paired.nil⟩ (fun i H' _ ⟨_, _, e, _⟩ => SqL.of (e.lst hqB)) (fun i x H' hi ⟨acc, hacc, e, hl, hpa⟩ => ?_) fun H' ⟨acc, hacc, e, hl, hpa⟩ => ?_
      · obtain ⟨l, hlk, b, rfl, hb⟩ := paired_get' hys2 hi
        have hlL : l ∈ L := pL.mem_iff.mp (List.mem_of_getElem? hlk)
        have hi14 : i < L'.length := (List.getElem?_eq_some_iff.mp hlk).1
        refine ⟨rfl, yes ?_⟩
        refine ⟨_, rfl, _, rfl, _, rfl, d, .int l.2.2, rfl, .inr ⟨kvOf L, [Sum.inl l.1, Sum.inl l.2.1], b, .inl ((XB.trans e).keep _ _ d8 rfl), rfl, e.tup hb, (kv_get ok8.nd hlL).symm⟩, (by show 1 ≤ sizeLine; decide), fun w hw => ?_⟩
        have hb' := e.tup hb
        have hbw : b ≠ w := ne_of_none hb' hw
        refine ⟨b, w, [.int l.1, .int l.2.1], [.int l.2.2], rfl, rfl, by rw [upd_ne hbw]; exact hb', upd_same, (by show 3 ≤ sizeLine; decide), (fun h => by cases h), (fun _ h => by cases h), fun _ _ x hx => ?_⟩
        have EE := (Ext.new hw (.tup [V.int l.2.2])).trans (Ext.new hx (.tup ([.int l.1, .int l.2.1] ++ [.int l.2.2])))
        have hac := EE.lst hacc
        refine ⟨acc, hac, small1000 (by omega), acc ++ [.ref x], upd_same, (e.trans EE).put hD2 _, by rw [List.length_append, hl]; rfl, ?_⟩
        rw [take_snoc hlk, List.map_append]
        exact pTI.put hac (fun _ _ h => h) (paired_snoc ⟨x, rfl, upd_same⟩ (pTI.ext EE hpa))
      · rw [lys, List.take_length] at hpa
        refine ⟨D2, acc, rfl, hacc, fun v hv => ⟨(by show 2 ≤ sizeLine; decide), fun wv hwv => ?_⟩⟩
        have EV := (XB.trans e).trans ((Ext.new hv (.tup acc)).trans (Ext.new hwv (.tup [.ref tu, .ref v])))
        refine k _ _ ⟨ts, L'⟩ (e8.trans EV.b) (R8.ext EV) ⟨wv, .ref tu, .ref v, rfl, upd_same, ⟨tu, rfl, EV.tup t8⟩, ⟨v, acc, rfl, ?_, pTI.ext ((Ext.new hv _).trans (Ext.new hwv _)) hpa⟩⟩ Wok l1 fun t ht => (b1 t ht).2
        exact (Ext.new hwv _).tup upd_same
end
end Lk


/-! ## D31 -/
set_option Elab.async false
set_option linter.all false
set_option maxRecDepth 100000
set_option maxHeartbeats 2000000
namespace Lk
open PySem PySem.Spec PyProof.Rows L2 Gx
open GxR (TabG Tabbed TabB)
variable [Own]
abbrev s__law_alike : Stmt := top 61
theorem sc__law_alike : FnScope ["found", "due", "k"] ["found", "due"] (defScope s__law_alike) := ⟨rfl, rfl, rfl, by decide +kernel, rfl, by decide +kernel, by decide +kernel⟩
/-- the same int, the same truth value -/
def spAlike0 : Sp := fun vs H Q _ => ((∃ i : Int, vs = [.int i, .int i]) ∨ ∃ b : Bool, vs = [.bl b, .bl b]) ∧ ∀ H', Ext H H' → Q (.bl true) H'
/-- two lists, two tuples, whose items are alike -/
def spAlikeS (sp : Sp) : Sp := fun vs H Q _ => ∃ (a b : Addr) (k : Bool) (xs ys : List V), vs = [.ref a, .ref b] ∧ SqB k H a xs ∧ SqB k H b ys ∧ ys.length = xs.length ∧ xs.length ≤ 1000000 ∧
  (∀ (H' : Hp) (i : Nat) (x y : V) (Q' : VK) (E' : XK), Ext H H' → xs[i]? = some x → ys[i]? = some y → (∀ H'', Ext H' H'' → Q' (.bl true) H'') → sp [x, y] H' Q' E') ∧ ∀ H', Ext H H' → Q (.bl true) H'
def rIxS : R2 := fun x y H Q => ∃ p k xs i v, x = .ref p ∧ y = .int i ∧ SqB k H p xs ∧ atI xs i = some v ∧ Q v H
theorem ix_sT {X : Cx} : IxR X rIxS := by
  intro value slice pins s σ H x y v u Q I rx ry h hs
  obtain ⟨p, k, xs, i, z, e1, e2, hq, he, q⟩ := h
  cases k with
  | true => exact ix_lT value slice pins s σ H x y v u Q I rx ry ⟨p, xs, i, z, e1, e2, hq, he, q⟩ hs
  | false => exact ix_tT value slice pins s σ H x y v u Q I rx ry ⟨p, xs, i, z, e1, e2, hq, he, q⟩ hs
theorem kit2 {K : PySem.W.Frag} {t a b : String} {r1 r2 : Bool} (h1 : kitB t a = some r1) (h2 : kitB t b = some r2) : W.kitAny K (.type t) [.type a, .type b] = some (r1 || r2) := by
  unfold W.kitAny
  rw [kit_ty h1]
  cases r1 with
  | true => rfl
  | false =>
    show W.kitAny K _ _ = _
    unfold W.kitAny
    rw [kit_ty h2]
    cases r2 <;> rfl
theorem isi_seq {K : PySem.W.Frag} {k : Bool} {H : Hp} {a : Addr} {xs : List V} (h : SqB k H a xs) : TyX K H (.ref a) (.type (if k = true then "list" else "tuple")) := by
  cases k with
  | true => exact .base (.lst h)
  | false => exact .base (.tup h)
section
variable {P : Program} {w : World} {K : PySem.W.Frag} {mg : Str → Option Value} {base : Heap} {Ps : List Addr}
theorem ok_alike0 {f : Addr} {fd : FuncData} (F : Fun K "_law_alike" "_law_alike" s__law_alike f fd) (B : Blt mg) : FnOk P w K mg base CX0 1 f fd ["found", "due"] spAlike0 := by
  refine F.ok sc__law_alike (fun vs H Q E h => ?_) (fun cdv A outer s0 H vs Q E hr h => ?_)
  · obtain ⟨⟨i, rfl⟩ | ⟨b, rfl⟩, _⟩ := h <;> rfl
  · obtain ⟨hv, k⟩ := h
    refine ⟨_, (pss_cons (ps_if (pt_val (pe_callB call_isiT (by rfl) B.isi boot_isinstance (pa_cons (pv 1) (pa_cons (pe_tup (pa_cons (pe_bltn (v := .ty "tuple") (by rfl) B.tuple boot_tyTuple rfl) (pa_cons (pe_bltn (v := .ty "list") (by rfl) B.list boot_tyList rfl) pa_nil))) pa_nil))))
        (pss_cons (ps_if (PW.pt (pw_or (pt_not (pt_val (pe_callB call_isiT (by rfl) B.isi boot_isinstance (pa_cons (pv 0) (pa_cons (pe_tup (pa_cons (pe_bltn (v := .ty "tuple") (by rfl) B.tuple boot_tyTuple rfl) (pa_cons (pe_bltn (v := .ty "list") (by rfl) B.list boot_tyList rfl) pa_nil))) pa_nil))))) (pw_or1 (pt_cmpR op_ne (pe_callB call_isi (by rfl) B.isi boot_isinstance (pa_cons (pv 0) (pa_cons (pe_bltn (v := .ty "list") (by rfl) B.list boot_tyList rfl) pa_nil))) (pe_callB call_isi (by rfl) B.isi boot_isinstance (pa_cons (pv 1) (pa_cons (pe_bltn (v := .ty "list") (by rfl) B.list boot_tyList rfl) pa_nil))) (nomark _)))))
          (pss_one (ps_ret pe_bl)) pss_nil)
        (pss_cons (ps_if (pt_cmpR op_ne (pe_callB call_lenT (by rfl) B.len PySem.boot_len (pa_cons (pv 0) pa_nil)) (pe_callB call_lenT (by rfl) B.len PySem.boot_len (pa_cons (pv 1) pa_nil)) (nomark _))
          (pss_one (ps_ret pe_bl)) pss_nil)
        (pss_one ps_never))) pss_nil)
      (pss_cons (ps_if (PW.pt (pw_or (pt_cmpR op_isN (pv 1) pe_non (nomark _)) (pw_or1 (pt_val (pe_callB call_isi (by rfl) B.isi boot_isinstance (pa_cons (pv 1) (pa_cons (pe_bltn (v := .ty "str") (by rfl) B.str boot_tyStr rfl) pa_nil)))))))
        (pss_one (ps_ret (pe_and (pe_cmpR op_eq (pv 0) (pv 1) (nomark _)) (pe_one (pe_cmpR op_eq (pe_callB call_isi (by rfl) B.isi boot_isinstance (pa_cons (pv 0) (pa_cons (pe_bltn (v := .ty "str") (by rfl) B.str boot_tyStr rfl) pa_nil))) (pe_callB call_isi (by rfl) B.isi boot_isinstance (pa_cons (pv 1) (pa_cons (pe_bltn (v := .ty "str") (by rfl) B.str boot_tyStr rfl) pa_nil))) (nomark _)))))) pss_nil)
      (pss_one (ps_ret (pe_and (pe_callB call_isi (by rfl) B.isi boot_isinstance (pa_cons (pv 0) (pa_cons (pe_bltn (v := .ty "int") (by rfl) B.int boot_tyInt rfl) pa_nil))) (pe_and (pe_cmpR op_eq (pe_callB call_isi (by rfl) B.isi boot_isinstance (pa_cons (pv 0) (pa_cons (pe_bltn (v := .ty "bool") (by rfl) B.bool boot_tyBool rfl) pa_nil))) (pe_callB call_isi (by rfl) B.isi boot_isinstance (pa_cons (pv 1) (pa_cons (pe_bltn (v := .ty "bool") (by rfl) B.bool boot_tyBool rfl) pa_nil))) (nomark _)) (pe_one (pe_cmpR op_eq (pv 0) (pv 1) (nomark _))))))))), ?_⟩
    obtain ⟨t, r1, x, hx, k1, k2, k3, k4, k5, ty, nn, sc⟩ : ∃ (t : String) (r1 : Bool) (x : V), vs = [x, x] ∧ kitB t "tuple" = some false ∧ kitB t "list" = some false ∧ kitB t "str" = some false ∧ kitB t "int" = some true ∧ kitB t "bool" = some r1 ∧ (∀ H', TyX K H' x (.type t)) ∧ x ≠ .non ∧ scal x x = true := by
      rcases hv with ⟨i, rfl⟩ | ⟨b, rfl⟩
      · exact ⟨"int", false, _, rfl, by decide +kernel, by decide +kernel, by decide +kernel, by decide +kernel, by decide +kernel, fun H' => .base (.int i), (by intro z; cases z), rfl⟩
      · exact ⟨"bool", true, _, rfl, by decide +kernel, by decide +kernel, by decide +kernel, by decide +kernel, by decide +kernel, fun H' => .base (.bl b), (by intro z; cases z), rfl⟩
    subst hx
    refine ⟨_, rfl, (by show 2 ≤ sizeLine; decide), fun p hp => ⟨_, p, _, _, _, _, rfl, upd_same, .cons (.ty _) (.cons (.ty _) .nil), ty _, kit2 k1 k2, _, rfl, iteF ?_⟩⟩
    have e := Ext.new hp (.tup [V.ty "tuple", V.ty "list"])
    refine ⟨_, rfl, rfl, _, rfl, ?_⟩
    rw [decide_eq_false nn]
    refine iteF ?_
    refine ⟨_, rfl, _, _, _, _, false, rfl, .ty "str", ty _, kit_ty k3, _, rfl, iteF ?_⟩
    refine ⟨_, rfl, _, _, _, _, true, rfl, .ty "int", ty _, kit_ty k4, _, rfl, iteT ?_⟩
    refine ⟨_, rfl, _, _, _, _, r1, rfl, .ty "bool", ty _, kit_ty k5, _, rfl, _, _, _, _, r1, rfl, .ty "bool", ty _, kit_ty k5, rfl, _, rfl, ?_⟩
    rw [decide_eq_true rfl]
    refine iteT ⟨_, rfl, _, rfl, sc, ?_⟩
    rw [decide_eq_true rfl]
    exact k _ e
theorem ok_alikeS {n : Nat} {sp : Sp} (len : ∀ vs H Q E, sp vs H Q E → vs.length = 2) {f : Addr} {fd : FuncData} (F : Fun K "_law_alike" "_law_alike" s__law_alike f fd) (B : Blt mg) (c__law_alike : Cal P w K mg base CX0 (n + 1) "_law_alike" ["found", "due"] sp) : FnOk P w K mg base CX0 (n + 2) f fd ["found", "due"] (spAlikeS sp) := by
  refine F.ok sc__law_alike (fun vs H Q E h => ?_) (fun cdv A outer s0 H vs Q E hr h => ?_)
  · obtain ⟨a, b, k, xs, ys, rfl, _⟩ := h
    rfl
  · obtain ⟨a, b, kk, xs, ys, rfl, ha, hb, ly, hl, ks, k⟩ := h
    refine ⟨_, (pss_cons (ps_if (pt_val (pe_callB call_isiT (by rfl) B.isi boot_isinstance (pa_cons (pv 1) (pa_cons (pe_tup (pa_cons (pe_bltn (v := .ty "tuple") (by rfl) B.tuple boot_tyTuple rfl) (pa_cons (pe_bltn (v := .ty "list") (by rfl) B.list boot_tyList rfl) pa_nil))) pa_nil))))
        (pss_cons (ps_if (PW.pt (pw_or (pt_not (pt_val (pe_callB call_isiT (by rfl) B.isi boot_isinstance (pa_cons (pv 0) (pa_cons (pe_tup (pa_cons (pe_bltn (v := .ty "tuple") (by rfl) B.tuple boot_tyTuple rfl) (pa_cons (pe_bltn (v := .ty "list") (by rfl) B.list boot_tyList rfl) pa_nil))) pa_nil))))) (pw_or1 (pt_cmpR op_ne (pe_callB call_isi (by rfl) B.isi boot_isinstance (pa_cons (pv 0) (pa_cons (pe_bltn (v := .ty "list") (by rfl) B.list boot_tyList rfl) pa_nil))) (pe_callB call_isi (by rfl) B.isi boot_isinstance (pa_cons (pv 1) (pa_cons (pe_bltn (v := .ty "list") (by rfl) B.list boot_tyList rfl) pa_nil))) (nomark _)))))
          (pss_one (ps_ret pe_bl)) pss_nil)
        (pss_cons (ps_if (pt_cmpR op_ne (pe_callB call_lenT (by rfl) B.len PySem.boot_len (pa_cons (pv 0) pa_nil)) (pe_callB call_lenT (by rfl) B.len PySem.boot_len (pa_cons (pv 1) pa_nil)) (nomark _))
          (pss_one (ps_ret pe_bl)) pss_nil)
        (pss_one (ps_ret (pe_cmpR (op_eqLn hr.units) (pe_lc (own := [("k", 2)]) rfl sc__law_alike.nd (pi_range1 (by rfl) B.range (pa_cons (pe_callB call_lenT (by rfl) B.len PySem.boot_len (pa_cons (pv 1) pa_nil)) pa_nil)) (blkOk_by (N := ["found", "due", "k"]) (sc := defScope s__law_alike) (by decide +kernel)) (fun _ _ _ _ _ => (pg_name (i := 2) sc__law_alike.nd rfl (by first | exact Or.inl rfl | exact Or.inr rfl))) (fun _ _ _ _ _ => (pts_one (pt_not (pt_val (pe_c0 c__law_alike hr (by rfl) (pa_cons (pe_ix ix_sT (pv 0) (pv 2) (fun _ _ => rfl)) (pa_cons (pe_ix ix_sT (pv 1) (pv 2) (fun _ _ => rfl)) pa_nil))))))) (fun _ _ _ _ _ => (pv 2))) (pe_lst pa_nil) (nomark _)))))) pss_nil)
      (pss_cons (ps_if (PW.pt (pw_or (pt_cmpR op_isN (pv 1) pe_non (nomark _)) (pw_or1 (pt_val (pe_callB call_isi (by rfl) B.isi boot_isinstance (pa_cons (pv 1) (pa_cons (pe_bltn (v := .ty "str") (by rfl) B.str boot_tyStr rfl) pa_nil)))))))
        (pss_one (ps_ret (pe_and (pe_cmpR op_eq (pv 0) (pv 1) (nomark _)) (pe_one (pe_cmpR op_eq (pe_callB call_isi (by rfl) B.isi boot_isinstance (pa_cons (pv 0) (pa_cons (pe_bltn (v := .ty "str") (by rfl) B.str boot_tyStr rfl) pa_nil))) (pe_callB call_isi (by rfl) B.isi boot_isinstance (pa_cons (pv 1) (pa_cons (pe_bltn (v := .ty "str") (by rfl) B.str boot_tyStr rfl) pa_nil))) (nomark _)))))) pss_nil)
      (pss_one (ps_ret (pe_and (pe_callB call_isi (by rfl) B.isi boot_isinstance (pa_cons (pv 0) (pa_cons (pe_bltn (v := .ty "int") (by rfl) B.int boot_tyInt rfl) pa_nil))) (pe_and (pe_cmpR op_eq (pe_callB call_isi (by rfl) B.isi boot_isinstance (pa_cons (pv 0) (pa_cons (pe_bltn (v := .ty "bool") (by rfl) B.bool boot_tyBool rfl) pa_nil))) (pe_callB call_isi (by rfl) B.isi boot_isinstance (pa_cons (pv 1) (pa_cons (pe_bltn (v := .ty "bool") (by rfl) B.bool boot_tyBool rfl) pa_nil))) (nomark _)) (pe_one (pe_cmpR op_eq (pv 0) (pv 1) (nomark _))))))))), ?_⟩
    have both : W.kitAny K (.type (if kk = true then "list" else "tuple")) [.type "tuple", .type "list"] = some true := by
      cases kk with
      | true => exact kit2 (r1 := false) (r2 := true) (by decide +kernel) (by decide +kernel)
      | false => exact kit2 (r1 := true) (r2 := false) (by decide +kernel) (by decide +kernel)
    have isl : W.kitOne K (.type (if kk = true then "list" else "tuple")) (.type "list") = some kk := by
      cases kk with
      | true => exact kit_ty (by decide +kernel)
      | false => exact kit_ty (by decide +kernel)
    refine ⟨_, rfl, (by show 2 ≤ sizeLine; decide), fun p hp => ?_⟩
    have e1 := Ext.new hp (.tup [V.ty "tuple", V.ty "list"])
    refine ⟨_, p, _, _, _, _, rfl, upd_same, .cons (.ty _) (.cons (.ty _) .nil), isi_seq (hb.ext e1), both, _, rfl, iteT ?_⟩
    refine ⟨_, rfl, (by show 2 ≤ sizeLine; decide), fun p2 hp2 => ?_⟩
    have e2 := e1.trans (Ext.new hp2 (.tup [V.ty "tuple", V.ty "list"]))
    refine ⟨_, p2, _, _, _, _, rfl, upd_same, .cons (.ty _) (.cons (.ty _) .nil), isi_seq (ha.ext e2), both, _, rfl, iteF ?_⟩
    refine ⟨_, rfl, _, _, _, _, _, rfl, .ty "list", isi_seq (ha.ext e2), isl, _, rfl, _, _, _, _, _, rfl, .ty "list", isi_seq (hb.ext e2), isl, rfl, _, rfl, ?_⟩
    have en : (!decide (V.bl kk = V.bl kk)) = false := by rw [decide_eq_true rfl]; rfl
    rw [en]
    refine iteF ?_
    have lenOf : ∀ {H' : Hp} {c : Addr} {zs : List V}, SqB kk H' c zs → H' c = some (.lst zs) ∨ H' c = some (.tup zs) := fun {H' c zs} h => by
      cases kk with
      | true => exact .inl h
      | false => exact .inr h
    refine ⟨_, rfl, a, xs, rfl, lenOf (ha.ext e2), _, rfl, b, ys, rfl, lenOf (hb.ext e2), rfl, _, rfl, ?_⟩
    have en2 : (!decide (V.int (xs.length : Nat) = V.int (ys.length : Nat))) = false := by rw [ly, decide_eq_true rfl]; rfl
    rw [en2]
    refine iteF ?_
    refine ⟨_, rfl, b, ys, rfl, lenOf (hb.ext e2), _, rfl, by omega, by omega, fun D hD => ?_⟩
    have en3 : ((ys.length : Nat) : Int).toNat = xs.length := by omega
    rw [en3]
    generalize hH2 : L2.upd (L2.upd H p _) p2 _ = H2 at e2 hD ⊢
    clear hH2
    refine lc_range (lo := 0) (n := xs.length) (fun i H' => H' D = some (.lst []) ∧ Ext H2 H') ⟨upd_same, Ext.new hD _⟩ (fun i H' hi ⟨h1, e⟩ => ?_) fun H' ⟨h1, e⟩ => ?_
    · have ei : (0 : Int) + (i : Int) = (i : Int) := Int.zero_add _
      rw [ei]
      have hx : xs[i]? = some xs[i] := List.getElem?_eq_getElem hi
      have hy : ys[i]? = some (ys[i]'(by omega)) := List.getElem?_eq_getElem (by omega)
      refine ⟨rfl, ?_⟩
      refine ⟨_, rfl, _, rfl, a, kk, xs, _, _, rfl, rfl, (ha.ext e2).ext e, at_of (j := i) rfl hx, _, rfl, _, rfl, b, kk, ys, _, _, rfl, rfl, (hb.ext e2).ext e, at_of (j := i) rfl hy, ?_⟩
      refine ks H' i _ _ _ _ (e2.trans e) hx hy fun H'' e'' => ⟨_, rfl, iteF ⟨e''.lst h1, e.trans e''⟩⟩
    · refine ⟨(by show 0 ≤ sizeLine; decide), fun u hu => ?_⟩
      refine ⟨D, u, 0, rfl, rfl, by rw [upd_ne (ne_of_none h1 hu)]; exact h1, upd_same, ?_⟩
      exact k _ ((e2.trans e).trans (Ext.new hu _))
end
end Lk


/-! ## AlT -/
set_option Elab.async false
set_option linter.all false
set_option maxRecDepth 100000
set_option maxHeartbeats 4000000
/-! Rows alike. -/
namespace Lk
open PySem PySem.Spec PyProof.Rows L2 Gx
variable [Own]
theorem al1 (l : List Int) (H : Hp) : ∀ (H' : Hp) (i : Nat) (x y : V) (Q' : VK) (E' : XK), Ext H H' → (iv l)[i]? = some x → (iv l)[i]? = some y → (∀ H'', Ext H' H'' → Q' (.bl true) H'') → spAlike0 [x, y] H' Q' E' := fun H' i x y Q' E' e hx hy k' => by
  rw [hx] at hy
  cases hy
  obtain ⟨n, _, rfl⟩ := iv_get hx
  exact ⟨.inl ⟨n, rfl⟩, k'⟩
theorem al2 {H : Hp} {xs ys : List V} {rows : List (List Int)} (p1 : Paired (TI H) xs rows) (p2 : Paired (TI H) ys rows) (hr : ∀ r ∈ rows, r.length ≤ 100) :
    ∀ (H' : Hp) (i : Nat) (x y : V) (Q' : VK) (E' : XK), Ext H H' → xs[i]? = some x → ys[i]? = some y → (∀ H'', Ext H' H'' → Q' (.bl true) H'') → spAlikeS spAlike0 [x, y] H' Q' E' := fun H' i x y Q' E' e hx hy k' => by
  obtain ⟨r1, g1, c, rfl, hc⟩ := paired_get' (pTI.ext e p1) hx
  obtain ⟨r2, g2, d, rfl, hd⟩ := paired_get' (pTI.ext e p2) hy
  rw [g1] at g2
  cases g2
  have hl := hr r1 (List.mem_of_getElem? g1)
  exact ⟨c, d, false, iv r1, iv r1, rfl, hc, hd, rfl, by rw [iv_len]; omega, al1 r1 H', k'⟩
end Lk


/-! ## AlN -/
set_option Elab.async false
set_option linter.all false
set_option maxRecDepth 100000
set_option maxHeartbeats 4000000
/-! Nothing against nothing. -/
namespace Lk
open PySem PySem.Spec PyProof.Rows L2 Gx
open GxR (Tabbed TabG)
variable [Own]
/-- nothing against nothing -/
def spAlikeN : Sp := fun vs H Q _ => vs = [.non, .non] ∧ ∀ H', Ext H H' → Q (.bl true) H'
def spOr (a b : Sp) : Sp := fun vs H Q E => a vs H Q E ∨ b vs H Q E
section
variable {P : Program} {w : World} {K : PySem.W.Frag} {mg : Str → Option Value} {base : Heap} {Ps : List Addr}
theorem ok_alikeN {f : Addr} {fd : FuncData} (F : Fun K "_law_alike" "_law_alike" s__law_alike f fd) (B : Blt mg) : FnOk P w K mg base CX0 2 f fd ["found", "due"] spAlikeN := by
  refine F.ok sc__law_alike (fun vs H Q E h => ?_) (fun cdv A outer s0 H vs Q E hr h => ?_)
  · obtain ⟨rfl, _⟩ := h
    rfl
  · obtain ⟨rfl, k⟩ := h
    refine ⟨_, (pss_cons (ps_if (pt_val (pe_callB call_isiT (by rfl) B.isi boot_isinstance (pa_cons (pv 1) (pa_cons (pe_tup (pa_cons (pe_bltn (v := .ty "tuple") (by rfl) B.tuple boot_tyTuple rfl) (pa_cons (pe_bltn (v := .ty "list") (by rfl) B.list boot_tyList rfl) pa_nil))) pa_nil))))
        (pss_cons (ps_if (PW.pt (pw_or (pt_not (pt_val (pe_callB call_isiT (by rfl) B.isi boot_isinstance (pa_cons (pv 0) (pa_cons (pe_tup (pa_cons (pe_bltn (v := .ty "tuple") (by rfl) B.tuple boot_tyTuple rfl) (pa_cons (pe_bltn (v := .ty "list") (by rfl) B.list boot_tyList rfl) pa_nil))) pa_nil))))) (pw_or1 (pt_cmpR op_ne (pe_callB call_isi (by rfl) B.isi boot_isinstance (pa_cons (pv 0) (pa_cons (pe_bltn (v := .ty "list") (by rfl) B.list boot_tyList rfl) pa_nil))) (pe_callB call_isi (by rfl) B.isi boot_isinstance (pa_cons (pv 1) (pa_cons (pe_bltn (v := .ty "list") (by rfl) B.list boot_tyList rfl) pa_nil))) (nomark _)))))
          (pss_one (ps_ret pe_bl)) pss_nil)
        (pss_cons (ps_if (pt_cmpR op_ne (pe_callB call_lenT (by rfl) B.len PySem.boot_len (pa_cons (pv 0) pa_nil)) (pe_callB call_lenT (by rfl) B.len PySem.boot_len (pa_cons (pv 1) pa_nil)) (nomark _))
          (pss_one (ps_ret pe_bl)) pss_nil)
        (pss_one ps_never))) pss_nil)
      (pss_cons (ps_if (PW.pt (pw_or (pt_cmpR op_isN (pv 1) pe_non (nomark _)) (pw_or1 (pt_val (pe_callB call_isi (by rfl) B.isi boot_isinstance (pa_cons (pv 1) (pa_cons (pe_bltn (v := .ty "str") (by rfl) B.str boot_tyStr rfl) pa_nil)))))))
        (pss_one (ps_ret (pe_and (pe_cmpR op_eq (pv 0) (pv 1) (nomark _)) (pe_one (pe_cmpR op_eq (pe_callB call_isi (by rfl) B.isi boot_isinstance (pa_cons (pv 0) (pa_cons (pe_bltn (v := .ty "str") (by rfl) B.str boot_tyStr rfl) pa_nil))) (pe_callB call_isi (by rfl) B.isi boot_isinstance (pa_cons (pv 1) (pa_cons (pe_bltn (v := .ty "str") (by rfl) B.str boot_tyStr rfl) pa_nil))) (nomark _)))))) pss_nil)
      (pss_one (ps_ret (pe_and (pe_callB call_isi (by rfl) B.isi boot_isinstance (pa_cons (pv 0) (pa_cons (pe_bltn (v := .ty "int") (by rfl) B.int boot_tyInt rfl) pa_nil))) (pe_and (pe_cmpR op_eq (pe_callB call_isi (by rfl) B.isi boot_isinstance (pa_cons (pv 0) (pa_cons (pe_bltn (v := .ty "bool") (by rfl) B.bool boot_tyBool rfl) pa_nil))) (pe_callB call_isi (by rfl) B.isi boot_isinstance (pa_cons (pv 1) (pa_cons (pe_bltn (v := .ty "bool") (by rfl) B.bool boot_tyBool rfl) pa_nil))) (nomark _)) (pe_one (pe_cmpR op_eq (pv 0) (pv 1) (nomark _))))))))), ?_⟩
    refine ⟨_, rfl, (by show 2 ≤ sizeLine; decide), fun p hp => ⟨_, p, _, _, _, _, rfl, upd_same, .cons (.ty _) (.cons (.ty _) .nil), .base .non, kit2 (r1 := false) (r2 := false) (by decide +kernel) (by decide +kernel), _, rfl, iteF ?_⟩⟩
    have e := Ext.new hp (.tup [V.ty "tuple", V.ty "list"])
    refine ⟨_, rfl, rfl, _, rfl, iteT ?_⟩
    refine ⟨_, rfl, _, rfl, rfl, _, rfl, iteT ?_⟩
    refine ⟨_, rfl, _, _, _, _, false, rfl, .ty "str", .base .non, kit_ty (by decide +kernel), _, rfl, _, _, _, _, false, rfl, .ty "str", .base .non, kit_ty (by decide +kernel), rfl, ?_⟩
    exact k _ e
end
end Lk


/-! ## N4 -/
set_option Elab.async false
set_option linter.all false
set_option maxRecDepth 100000
set_option maxHeartbeats 8000000
/-! The law of benches. -/
namespace Lk
open PySem PySem.Spec PyProof.Rows L2 Gx LamX NdefX
open GxR (Tabbed TabG)
open RZ (ItzT pi_zipA)
variable [Own]
abbrev s_law : Stmt := top 64
theorem sc_law : FnScope ["script", "row", "web", "rules", "state", "past", "bench", "every", "turn", "way", "folk", "mood", "due", "one", "uneasy", "other", "apart", "mate"] ["script"] (defScope s_law) := ⟨rfl, rfl, rfl, by decide +kernel, rfl, by decide +kernel, by decide +kernel⟩
theorem tabS_ownL {T r : Addr} {q : Str} {H H' : Hp} {rs : List V} (ho : Own.own T) (hr : H r = some (.lst rs)) (e : ExtB r H H') (t : LamX.TabS H T q) : LamX.TabS H' T q := by
  obtain ⟨ps, a1, a2, a3⟩ := t
  refine ⟨ps, e.own T ps ho a1, a2, fun pos cv hc => ?_⟩
  obtain ⟨c, e1, e2⟩ := a3 pos cv hc
  exact ⟨c, e1, e.keep _ _ (ne_of hr e2 (by intro z; cases z)).symm e2 rfl⟩
theorem LT2.extB {r a : Addr} {H H' : Hp} {rs : List V} {rows : List (List Int)} (e : ExtB r H H') (hr : H r = some (.lst rs)) (n : a ≠ r) (h : LT2 H (.ref a) rows) : LT2 H' (.ref a) rows := by
  obtain ⟨_, vs, q, h, p⟩ := h
  cases q
  exact ⟨a, vs, rfl, e.lst n h, pTI.extB e hr p⟩
/-- what stands while the law goes on -/
structure BL (K : PySem.W.Frag) (Ps : List Addr) (C T rr sc b l wa ra ea : Addr) (ns : List Int) (W : Web) (ru : List (List Int)) (H : Hp) : Prop where
  rw : Rw K H rr sc ns
  web : WebAt H (.ref wa) W
  hru : TT2 H (.ref ra) ru
  hea : LT2 H (.ref ea) (settledStates W ru)
  tb : Lk.Tabs Ps H
  t : TabS H T rfQ
  scr : ScrAt K H l sc (iv ns)
  ls : ∃ vs, H l = some (.lst vs)
  n1 : rr ≠ l
  n4 : ea ≠ l
  n5 : ea ≠ rr
/-- the bench and what the law makes of it -/
structure BS (C : Addr) (rr b l sa pa : Addr) (W : Web) (ru past : List (List Int)) (st : List Int) (H : Hp) : Prop where
  bat : BAt C H b l W ru (past ++ [st])
  hst : TI H (.ref sa) st
  hpa : LT2 H (.ref pa) past
  n2 : pa ≠ l
  n3 : pa ≠ rr
section
variable {K : PySem.W.Frag} {Ps : List Addr} {C T rr sc b l wa ra ea sa pa : Addr} {ns : List Int} {W : Web} {ru past : List (List Int)} {st : List Int} {H H' : Hp}
theorem BL.ext (own : Own.own T) (h : BL K Ps C T rr sc b l wa ra ea ns W ru H) (e : Ext H H') : BL K Ps C T rr sc b l wa ra ea ns W ru H' := by
  obtain ⟨vs, hv⟩ := h.ls
  exact ⟨h.rw.ext e, h.web.ext e, h.hru.ext e, h.hea.ext e, h.tb.ext e, tabS_own own e h.t, h.scr.extB e.b, ⟨vs, e.lst hv⟩, h.n1, h.n4, h.n5⟩
theorem BL.row (own : Own.own T) (h : BL K Ps C T rr sc b l wa ra ea ns W ru H) (e : ExtB rr H H') (R : Rw K H' rr sc ns) : BL K Ps C T rr sc b l wa ra ea ns W ru H' := by
  obtain ⟨rs, hr⟩ := h.rw.lst
  obtain ⟨vs, hv⟩ := h.ls
  exact ⟨R, h.web.extB e hr, h.hru.extB e hr, LT2.extB e hr h.n5 h.hea, h.tb.extB e, tabS_ownL own hr e h.t, h.scr.ne R.scr, ⟨vs, e.lst h.n1.symm hv⟩, h.n1, h.n4, h.n5⟩
theorem BL.list (own : Own.own T) (h : BL K Ps C T rr sc b l wa ra ea ns W ru H) (e : ExtB l H H') (hl : ∃ vs, H' l = some (.lst vs)) : BL K Ps C T rr sc b l wa ra ea ns W ru H' := by
  obtain ⟨vs, hv⟩ := h.ls
  exact ⟨h.rw.extL h.scr h.n1 e, h.web.extB e hv, h.hru.extB e hv, LT2.extB e hv h.n4 h.hea, h.tb.extB e, tabS_ownL own hv e h.t, h.scr.extB e, hl, h.n1, h.n4, h.n5⟩
theorem BS.ext (h : BS C rr b l sa pa W ru past st H) (e : Ext H H') : BS C rr b l sa pa W ru past st H' := ⟨h.bat.ext e, h.hst.ext e, h.hpa.ext e, h.n2, h.n3⟩
theorem BS.row (h : BS C rr b l sa pa W ru past st H) (hL : BL K Ps C T rr sc b l wa ra ea ns W ru H) (e : ExtB rr H H') : BS C rr b l sa pa W ru past st H' := by
  obtain ⟨rs, hr⟩ := hL.rw.lst
  exact ⟨h.bat.extB hr hL.n1.symm e, h.hst.extB e hr, LT2.extB e hr h.n3 h.hpa, h.n2, h.n3⟩
end
theorem cut_last (xs : List V) (h : xs ≠ []) : cutV xs none (some (-1)) = xs.dropLast := by
  have h0 : 0 < xs.length := List.length_pos_iff.mpr h
  have e : HT.sIx xs.length xs.length (some (-1)) = xs.length - 1 := by
    show (if (-1 : Int) < 0 then ((-1 : Int) + xs.length).toNat else min ((-1 : Int)).toNat xs.length) = xs.length - 1
    rw [if_pos (by decide)]
    omega
  unfold cutV
  rw [e, List.dropLast_eq_take]
  rfl
theorem look_setS {W : Web} {ru : List (List Int)} {x : List Int} (sx : StOk W x) {n : Nat} (hn : n < W.tops.length) : setS x n (moodTold W ru x (n : Int)) = lookOne W ru (n : Int) x := by
  unfold setS
  refine List.ext_getElem? fun i => ?_
  have lx := sx.len
  have get : ∀ j, j < x.length → x[j]? = some (stAt x (j : Int)) := fun j hj => by
    have := stAt_get (st := x) (i := (j : Int)) (by omega) (by omega)
    rw [Int.toNat_natCast] at this
    exact this
  unfold lookOne
  rw [List.getElem?_map]
  have lt : (x.take n).length = n := by rw [List.length_take]; omega
  have lt2 : (x.take n ++ [moodTold W ru x (n : Int)]).length = n + 1 := by rw [List.length_append, lt]; rfl
  rcases Nat.lt_trichotomy i n with h | h | h
  · rw [List.getElem?_append_left (by omega), List.getElem?_append_left (by omega), List.getElem?_take_of_lt h, List.getElem?_range (by omega), get i (by omega)]
    show _ = some (if (i : Int) = (n : Int) then _ else _)
    rw [if_neg (by omega)]
  · subst h
    rw [List.getElem?_append_left (by omega), List.getElem?_append_right (by omega), lt, Nat.sub_self, List.getElem?_range (by omega)]
    show _ = some (if (i : Int) = (i : Int) then _ else _)
    rw [if_pos rfl]
    rfl
  · rw [List.getElem?_append_right (by omega), lt2, List.getElem?_drop, show n + 1 + (i - (n + 1)) = i by omega]
    by_cases hi : i < W.tops.length
    · rw [List.getElem?_range hi, get i (by omega)]
      show _ = some (if (i : Int) = (n : Int) then _ else _)
      rw [if_neg (by omega)]
    · rw [List.getElem?_eq_none (by omega), List.getElem?_eq_none (by rw [List.length_range]; omega)]
      rfl
theorem nums_range (n : Nat) : nums 0 (0 + n) = (List.range n).map fun i : Nat => (i : Int) := by
  refine List.ext_getElem? fun i => ?_
  by_cases h : i < n
  · rw [nums_get (by omega), List.getElem?_map, List.getElem?_range h, Int.zero_add]
    rfl
  · rw [List.getElem?_eq_none (by rw [nums_len]; omega), List.getElem?_eq_none (by rw [List.length_map, List.length_range]; omega)]
theorem fm_filter {α : Type} {p : α → Bool} (l : List α) : l.filterMap (fun b => if p b = true then some b else none) = l.filter p := by
  induction l with
  | nil => rfl
  | cons a l ih =>
    rw [List.filterMap_cons, List.filter_cons]
    by_cases h : p a = true
    · rw [if_pos h, if_pos h]
      show a :: _ = _
      rw [ih]
    · rw [if_neg h, if_neg h]
      exact ih
def spLaw (K : PySem.W.Frag) (Ps : List Addr) (T : Addr) : Sp := fun vs H Q _ => ∃ (sc : Addr) (ns : List Int), vs = [.ref sc] ∧ SqL K H sc (iv ns) ∧ ns.length ≤ 63 ∧ Lk.Tabs Ps H ∧ H T = some (.tbl #[]) ∧ ∀ H', Q (.bl true) H'
theorem rw_sc {K : PySem.W.Frag} {H H' : Hp} {r l sc : Addr} {ns : List Int} (R : Rw K H r sc ns) (h0 : H l = none) (h : Rw K H' r sc ns) (e : ∀ a o, H a = some o → ∃ o', H' a = some o') : ScrAt K H' l sc (iv ns) := by
  have s := R.scr.sql
  rcases s with (s | ⟨o, s⟩) | s
  · exact .inl ⟨h.scr.sql, ne_of_none s h0⟩
  · exact .inl ⟨h.scr.sql, ne_of_none s h0⟩
  · exact .inr fun _ => .inr s
def spLawSettledN : Sp := fun vs H Q _ => ∃ (v r : V) (W : Web) (ru : List (List Int)), vs = [v, r] ∧ WebAt H v W ∧ W.Ok ∧ TT2 H r ru ∧ RuOk W ru ∧ ∀ H' u, Ext H H' → H u = none → LT2 H' (.ref u) (settledStates W ru) → Q (.ref u) H'
section
variable {P : Program} {w : World} {K : PySem.W.Frag} {mg : Str → Option Value} {base : Heap}
theorem ok_law_settledN {f : Addr} {fd : FuncData} (F : Fun K "_law_settled" "_law_settled" s__law_settled f fd) (B : Blt mg)
    (c__law_moods : Cal P w K mg base CX0 1 "_law_moods" ["tops"] spLawMoods) (c__law_behind : Cal P w K mg base CX0 3 "_law_behind" ["web", "rules", "state"] spLawBehind) : FnOk P w K mg base CX0 4 f fd ["web", "rules"] spLawSettledN := by
  refine F.ok sc__law_settled (fun vs H Q E h => ?_) (fun cdv A outer s0 H vs Q E hr h => ?_)
  · obtain ⟨v, r, W, ru, rfl, _⟩ := h
    rfl
  · obtain ⟨v, r, W, ru, rfl, hW, ok, hru, rok, k⟩ := h
    obtain ⟨a, t, l, rfl, ha, ⟨tt, rfl, ht⟩, hl⟩ := id hW
    refine ⟨_, (pss_one (ps_ret (pe_lc (own := [("state", 2)]) rfl sc__law_settled.nd (pi_list (pe_c0 c__law_moods (hr.mono (by decide)) (by rfl) (pa_cons (pe_ix ix_tT (pv 0) pe_int (fun _ _ => rfl)) pa_nil))) (blkOk_by (N := ["web", "rules", "state"]) (sc := defScope s__law_settled) (by decide +kernel)) (fun _ _ _ _ _ => (pg_name (i := 2) sc__law_settled.nd rfl (by first | exact Or.inl rfl | exact Or.inr rfl))) (fun _ _ _ _ _ => (pts_one (pt_cmpR (op_eqTI hr.units) (pe_c0 c__law_behind (hr.mono (by decide)) (by rfl) (pa_cons (pv 0) (pa_cons (pv 1) (pa_cons (pv 2) pa_nil)))) (pv 2) (nomark _)))) (fun _ _ _ _ _ => (pv 2))))), ?_⟩
    have h6 := ok.few
    refine ⟨_, rfl, a, _, _, _, rfl, rfl, ha, rfl, tt, false, W.tops, rfl, ht, ok.few, fun t ht => by have := ok.tops t ht; omega, fun H1 p E1 hp0 hpl => ?_⟩
    obtain ⟨_, vs, e, hp, hvs⟩ := id hpl
    cases e
    refine ⟨p, rfl, ⟨_, SqL.of hp⟩, fun D hD => ?_⟩
    have hrl : (rowsOf W.tops).length ≤ 4096 := by
      have h1 := rows_len4 (tops := W.tops) (fun t ht => (ok.tops t ht).2) [[]]
      have h2 : 4 ^ W.tops.length ≤ 4 ^ 6 := Nat.pow_le_pow_right (by decide) ok.few
      simp only [List.length_singleton, Nat.one_mul] at h1
      exact Nat.le_trans h1 h2
    refine lc_list (K := K) (a := p) (xs := vs) (fun i H' => ∃ acc, H' D = some (.lst acc) ∧ Ext H1 H' ∧ acc.length ≤ i ∧ Paired (TI H') acc (((rowsOf W.tops).take i).filter fun st => decide (stateTold W ru st = st))) ⟨[], upd_same, Ext.new hD _, Nat.le_refl _, .nil⟩ (fun i H' _ ⟨_, _, e, _⟩ => SqL.of (e.lst hp)) (fun i x H' hi ⟨acc, hacc, e, hl, hpa⟩ => ?_) fun H' ⟨acc, hacc, e, hl, hpa⟩ => ?_
    · obtain ⟨st, hst, hx⟩ := paired_get' (pTI.ext e hvs) hi
      have E2 := E1.trans e
      have so := rows_st (W := W) (List.mem_of_getElem? hst)
      have hi4 : i < 4096 := by
        have := (List.getElem?_eq_some_iff.mp hst).1
        omega
      refine ⟨rfl, _, rfl, _, rfl, _, rfl, _, _, _, W, ru, st, rfl, hW.ext E2, ok, hru.ext E2, rok, hx, so, fun H3 u E3 hu0 hu => ?_⟩
      refine ⟨_, rfl, _, st, ⟨u, rfl, hu⟩, hx.ext E3, _, rfl, ?_⟩
      rw [List.take_add_one, hst, List.filter_append]
      by_cases hc : stateTold W ru st = st
      · rw [decide_eq_true hc]
        refine iteT ⟨_, rfl, acc, E3.lst hacc, Nat.lt_of_lt_of_le (show acc.length < 5000 by omega) (by decide), acc ++ [x], upd_same, (e.trans E3).put hD _, by rw [List.length_append]; simp; omega, ?_⟩
        · have F1 : List.filter (fun st => decide (stateTold W ru st = st)) (some st).toList = [st] := by simp [hc]
          rw [F1]
          exact pTI.put (E3.lst hacc) (fun _ _ h => h) (paired_snoc (hx.ext E3) (pTI.ext E3 hpa))
      · rw [decide_eq_false hc]
        have F1 : List.filter (fun st => decide (stateTold W ru st = st)) (some st).toList = [] := by simp [hc]
        rw [F1, List.append_nil]
        exact iteF ⟨acc, E3.lst hacc, e.trans E3, by omega, pTI.ext E3 hpa⟩
    · have hvl : vs.length = (rowsOf W.tops).length := paired_len hvs
      rw [hvl, List.take_length] at hpa
      exact k _ D (E1.trans e) (E1.free hD) ⟨D, acc, rfl, hacc, hpa⟩
end
section
variable {P : Program} {w : World} {K : PySem.W.Frag} {mg : Str → Option Value} {base : Heap} {Ps : List Addr} {C CF CS CN CT TA fB : Addr} {fdB : FuncData} {psB : List Str}
theorem ok_law {f : Addr} {fd : FuncData} (F : Fun K "law" "law" s_law f fd) (own : Own.own TA) (B : Blt mg) (bmin : mg "min" = none) (T : BenchT K C)
    (MB : Mk K C fB) (FB : FnOk P w K mg base CX0 8 fB fdB psB (spBenchInit C Ps)) (mB : mg "Bench" = some (.ref C)) (bB : Binds K fdB psB [])
    (c__law_taken : Cal P w K mg base CX0 1 "_law_taken" ["row", "many"] (spTaken K)) (c__law_web : Cal P w K mg base CX0 2 "_law_web" ["row", "folk", "most", "looks"] (spLawWeb K)) (c__law_rules : Cal P w K mg base CX0 4 "_law_rules" ["row", "web"] (spLawRules K)) (c__law_state : Cal P w K mg base CX0 2 "_law_state" ["row", "web"] (spLawState K))
    (c__law_told : Cal P w K mg base CX0 2 "_law_told" ["web", "rules", "state", "folk"] spLawTold) (c__law_behind : Cal P w K mg base CX0 3 "_law_behind" ["web", "rules", "state"] spLawBehind) (c__law_settled : Cal P w K mg base CX0 4 "_law_settled" ["web", "rules"] spLawSettledN)
    (c_alike2 : Cal P w K mg base CX0 3 "_law_alike" ["found", "due"] (spAlikeS (spAlikeS spAlike0))) (c_alikeU : Cal P w K mg base CX0 2 "_law_alike" ["found", "due"] (spOr (spAlikeS spAlike0) spAlikeN))
    (c__law_refused : Cal P w K mg base CX0 10 "_law_refused" ["bench", "web", "past"] (spLawRefused C Ps TA))
    (m_tick : MCal P w K mg base CX0 5 C "tick" ["self"] (spBTick C)) (m_look : MCal P w K mg base (L2.CX P w) 5 C "look" ["self", "folk"] (spBLook C CF)) (m_paint : MCal P w K mg base (L2.CX P w) 3 C "paint" ["self", "folk", "mood"] (spBPaint C CF CN))
    (m_apart : MCal P w K mg base (L2.CX P w) 5 C "apart" ["self", "other"] (spBApart C CS Ps)) (m_back : MCal P w K mg base (L2.CX P w) 1 C "back" ["self"] (spBBack C CT))
    (p_state : PCal P w K mg base CX0 1 C "state" (spBState C)) (p_uneasy : PCal P w K mg base CX0 5 C "uneasy" (spBUneasy C)) (p_near : PCal P w K mg base CX0 6 C "near" (spBNear C)) :
    FnOk P w K mg base CX0 12 f fd ["script"] (spLaw K Ps TA) := by
  refine F.ok sc_law (fun vs H Q E h => ?_) (fun cT A outer s0 H vs Q E hr h => ?_)
  · obtain ⟨sc, ns, rfl, _⟩ := h
    rfl
  · obtain ⟨sc, ns, rfl, hsc, hlen, hTb, hT, k⟩ := h
    refine ⟨_, (pss_cons (ps_set (i := 1) sc_law.nd rfl (by first | exact Or.inl rfl | exact Or.inr rfl) (pe_lst (pa_cons (pv 0) (pa_cons pe_int (pa_cons pe_int (pa_cons pe_int pa_nil))))))
      (pss_cons (ps_set (i := 2) sc_law.nd rfl (by first | exact Or.inl rfl | exact Or.inr rfl) (pe_c0 c__law_web (hr.mono (by decide)) (by rfl) (pa_cons (pv 1) (pa_cons (pe_op op_add pe_int (pe_c0 c__law_taken (hr.mono (by decide)) (by rfl) (pa_cons (pv 1) (pa_cons pe_int pa_nil)))) (pa_cons pe_int (pa_cons (pe_op op_add pe_int (pe_c0 c__law_taken (hr.mono (by decide)) (by rfl) (pa_cons (pv 1) (pa_cons pe_int pa_nil)))) pa_nil))))))
      (pss_cons (ps_asg (pe_tup (pa_cons (pe_c0 c__law_rules (hr.mono (by decide)) (by rfl) (pa_cons (pv 1) (pa_cons (pv 2) pa_nil))) (pa_cons (pe_c0 c__law_state (hr.mono (by decide)) (by rfl) (pa_cons (pv 1) (pa_cons (pv 2) pa_nil))) (pa_cons (pe_lst pa_nil) pa_nil)))) (pg_tupT (n := 3) rfl (pgs_cons (pg_name (i := 3) sc_law.nd rfl (by first | exact Or.inl rfl | exact Or.inr rfl)) (pgs_cons (pg_name (i := 4) sc_law.nd rfl (by first | exact Or.inl rfl | exact Or.inr rfl)) (pgs_cons (pg_name (i := 5) sc_law.nd rfl (by first | exact Or.inl rfl | exact Or.inr rfl)) pgs_nil)))))
      (pss_cons (ps_par (i := 6) (j := 7) rfl sc_law.nd rfl rfl (by decide) rfl rfl (pa_cons (pe_make MB FB (hr.mono (by decide)) (by rfl) mB bB .nil pass0 (pa_cons (pv 2) (pa_cons (pv 3) (pa_cons (pv 4) pa_nil)))) (pa_cons (pe_c0 c__law_settled (hr.mono (by decide)) (by rfl) (pa_cons (pv 2) (pa_cons (pv 3) pa_nil))) pa_nil)) (by rfl))
      (pss_cons (ps_for PassesOwn.never rfl (pi_range1 (by rfl) B.range (pa_cons (pe_op op_add pe_int (pe_c0 c__law_taken (hr.mono (by decide)) (by rfl) (pa_cons (pv 1) (pa_cons pe_int pa_nil)))) pa_nil)) (pg_name (i := 8) sc_law.nd rfl (by first | exact Or.inl rfl | exact Or.inr rfl))
        (pss_cons (ps_par (i := 9) (j := 10) rfl sc_law.nd rfl rfl (by decide) rfl rfl (pa_cons (pe_c0 c__law_taken (hr.mono (by decide)) (by rfl) (pa_cons (pv 1) (pa_cons pe_int pa_nil))) (pa_cons (pe_c0 c__law_taken (hr.mono (by decide)) (by rfl) (pa_cons (pv 1) (pa_cons (pe_callB call_lenT (by rfl) B.len PySem.boot_len (pa_cons (pe_ix ix_tT (pv 2) pe_int (fun _ _ => rfl)) pa_nil)) pa_nil))) pa_nil)) (by rfl))
        (pss_cons (ps_if (PW.pt (pw_and (pt_cmpR op_eq (pv 9) pe_int (nomark _)) (pw_and1 (pt_cmpR (op_neLT2 hr.units) (pv 5) (pe_lst pa_nil) (nomark _)))))
          (pss_cons (ps_expr (pe_mcal0 m_back T.cl (hr.mono (by decide)) passL (pv 6)))
          (pss_one (ps_asg (pe_tup (pa_cons (pe_ix ix_list (pv 5) (pe_un un_neg pe_int) (fun _ _ => rfl)) (pa_cons (pe_slice sl_list (pv 5) po_none (po_some (pe_un un_neg pe_int))) pa_nil))) (pg_tupT (n := 2) rfl (pgs_cons (pg_name (i := 4) sc_law.nd rfl (by first | exact Or.inl rfl | exact Or.inr rfl)) (pgs_cons (pg_name (i := 5) sc_law.nd rfl (by first | exact Or.inl rfl | exact Or.inr rfl)) pgs_nil)))))) (pss_cons (ps_set (i := 5) sc_law.nd rfl (by first | exact Or.inl rfl | exact Or.inr rfl) (pe_op op_cat (pv 5) (pe_lst (pa_cons (pv 4) pa_nil))))
          (pss_one (ps_if (pt_cmpR op_eq (pv 9) pe_int (nomark _))
            (pss_cons (ps_expr (pe_mcal0 m_tick T.cl (hr.mono (by decide)) pass0 (pv 6)))
            (pss_one (ps_set (i := 4) sc_law.nd rfl (by first | exact Or.inl rfl | exact Or.inr rfl) (pe_c0 c__law_behind (hr.mono (by decide)) (by rfl) (pa_cons (pv 2) (pa_cons (pv 3) (pa_cons (pv 4) pa_nil))))))) (pss_cons (ps_set (i := 11) sc_law.nd rfl (by first | exact Or.inl rfl | exact Or.inr rfl) (pe_ifExp (pt_cmpR op_eq (pv 9) pe_int (nomark _)) (pe_c0 c__law_taken (hr.mono (by decide)) (by rfl) (pa_cons (pv 1) (pa_cons (pe_op op_add (pe_ix ix_tT (pe_ix ix_tT (pv 2) pe_int (fun _ _ => rfl)) (pv 10) (fun _ _ => rfl)) pe_int) pa_nil))) (pe_c0 c__law_told (hr.mono (by decide)) (by rfl) (pa_cons (pv 2) (pa_cons (pv 3) (pa_cons (pv 4) (pa_cons (pv 10) pa_nil)))))))
            (pss_cons (ps_if (pt_cmpR op_eq (pv 9) pe_int (nomark _))
              (pss_one (ps_expr (pe_mcal m_paint T.cl (hr.mono (by decide)) passL (pv 6) (pa_cons (pv 10) (pa_cons (pv 11) pa_nil))))) (pss_one (ps_expr (pe_mcal m_look T.cl (hr.mono (by decide)) passL (pv 6) (pa_cons (pv 10) pa_nil)))))
            (pss_one (ps_set (i := 4) sc_law.nd rfl (by first | exact Or.inl rfl | exact Or.inr rfl) (pe_op op_catU (pe_op op_catU (pe_slice sl_tU (pv 4) po_none (po_some (pv 10))) (pe_tup (pa_cons (pv 11) pa_nil))) (pe_slice sl_tU (pv 4) (po_some (pe_op op_add (pv 10) pe_int)) po_none))))))))))
        (pss_cons (ps_set (i := 12) sc_law.nd rfl (by first | exact Or.inl rfl | exact Or.inr rfl) (pe_c0 c__law_behind (hr.mono (by decide)) (by rfl) (pa_cons (pv 2) (pa_cons (pv 3) (pa_cons (pv 4) pa_nil)))))
        (pss_cons (ps_set (i := 14) sc_law.nd rfl (by first | exact Or.inl rfl | exact Or.inr rfl) (pe_tupleL (by rfl) B.tuple (pe_lc (own := [("one", 13)]) rfl sc_law.nd (pi_range1 (by rfl) B.range (pa_cons (pe_callB call_lenT (by rfl) B.len PySem.boot_len (pa_cons (pe_ix ix_tT (pv 2) pe_int (fun _ _ => rfl)) pa_nil)) pa_nil)) (blkOk_by (N := ["script", "row", "web", "rules", "state", "past", "bench", "every", "turn", "way", "folk", "mood", "due", "one", "uneasy", "other", "apart", "mate"]) (sc := defScope s_law) (by decide +kernel)) (fun _ _ _ _ _ => (pg_name (i := 13) sc_law.nd rfl (by first | exact Or.inl rfl | exact Or.inr rfl))) (fun _ _ _ _ _ => (pts_one (pt_cmpR op_ne (pe_ix ix_tT (pv 12) (pv 13) (fun _ _ => rfl)) (pe_ix ix_tT (pv 4) (pv 13) (fun _ _ => rfl)) (nomark _)))) (fun _ _ _ _ _ => (pv 13)))))
        (pss_cons (ps_if (pt_not (pt_val (pe_c0 c_alike2 (hr.mono (by decide)) (by rfl) (pa_cons (pe_lst (pa_cons (pe_pcal p_state T.cl (hr.mono (by decide)) (pv 6)) (pa_cons (pe_pcal p_uneasy T.cl (hr.mono (by decide)) (pv 6)) pa_nil))) (pa_cons (pe_lst (pa_cons (pv 4) (pa_cons (pv 14) pa_nil))) pa_nil)))))
          (pss_one (ps_ret pe_bl)) pss_nil)
        (pss_cons (ps_par (i := 15) (j := 16) rfl sc_law.nd rfl rfl (by decide) rfl rfl (pa_cons (pe_c0 c__law_state (hr.mono (by decide)) (by rfl) (pa_cons (pv 1) (pa_cons (pv 2) pa_nil))) (pa_cons (pe_lst pa_nil) pa_nil)) (by rfl))
        (pss_cons (ps_for PassesOwn.never rfl (pi_list (pe_op op_cat (pv 7) (pe_lst (pa_cons (pv 15) pa_nil)))) (pg_name (i := 13) sc_law.nd rfl (by first | exact Or.inl rfl | exact Or.inr rfl))
          (pss_one (ps_expr (pe_bmL PySem.F.plainAttrs_list PySem.F.slot_list_append PySem.F.type_list_append mt_append (pv 16) (pa_cons (pe_tup (pa_cons (pe_callB call_len_seq (by rfl) B.len PySem.boot_len (pa_cons (pe_lc (own := [("mood", 11), ("mate", 17)]) rfl sc_law.nd (pi_zipA (by rfl) B.zip (pa_cons (pv 4) (pa_cons (pv 13) pa_nil))) (blkOk_by (N := ["script", "row", "web", "rules", "state", "past", "bench", "every", "turn", "way", "folk", "mood", "due", "one", "uneasy", "other", "apart", "mate"]) (sc := defScope s_law) (by decide +kernel)) (fun _ _ _ _ _ => (pg_tupT (n := 2) rfl (pgs_cons (pg_name (i := 11) sc_law.nd rfl (by first | exact Or.inl rfl | exact Or.inr rfl)) (pgs_cons (pg_name (i := 17) sc_law.nd rfl (by first | exact Or.inl rfl | exact Or.inr rfl)) pgs_nil)))) (fun _ _ _ _ _ => (pts_one (pt_cmpR op_ne (pv 11) (pv 17) (nomark _)))) (fun _ _ _ _ _ => pe_int)) pa_nil)) (pa_cons (pv 13) pa_nil))) pa_nil)))))
        (pss_cons (ps_if (pt_cmpR op_ne (pe_mcal m_apart T.cl (hr.mono (by decide)) passL (pv 6) (pa_cons (pv 15) pa_nil)) (pe_ix ix_tT (pe_ix ix_list (pv 16) (pe_un un_neg pe_int) (fun _ _ => rfl)) pe_int (fun _ _ => rfl)) (nomark _))
          (pss_one (ps_ret pe_bl)) pss_nil)
        (pss_one (ps_if (pt_not (pt_val (pe_c0 c_alikeU (hr.mono (by decide)) (by rfl) (pa_cons (pe_pcal p_near T.cl (hr.mono (by decide)) (pv 6)) (pa_cons (pe_ifExp (pt_cmpR (op_neLT2 hr.units) (pv 7) (pe_lst pa_nil) (nomark _)) (pe_ix ix_tT (pe_callB (cr_minNR rfl hr.units) (by rfl) bmin boot_min (pa_cons (pe_slice sl_list (pv 16) po_none (po_some (pe_un un_neg pe_int))) pa_nil)) pe_int (fun _ _ => rfl)) pe_non) pa_nil)))))
          (pss_one (ps_ret pe_bl)) pss_nil)))))))))))
      (pss_one (ps_ret (pe_c0 c__law_refused (hr.mono (by decide)) (by rfl) (pa_cons (pv 6) (pa_cons (pv 2) (pa_cons (pv 5) pa_nil))))))))))), ?_⟩
    refine ⟨_, rfl, (by show 4 ≤ sizeLine; decide), fun rr hrr => ?_⟩
    have X0 := Ext.new hrr (.lst [.ref sc, .int 0, .int 1310, .int 0])
    have R0 : Rw K (L2.upd H rr (.lst [.ref sc, .int 0, .int 1310, .int 0])) rr sc ns := ⟨⟨0, 1310, 0⟩, upd_same, ScrAt.new hsc hrr _, hlen, ⟨by decide, by decide, by decide⟩⟩
    have T0 := hTb.ext X0
    have A0 := X0.own TA _ own hT
    generalize L2.upd H rr (.lst [.ref sc, .int 0, .int 1310, .int 0]) = H0 at X0 R0 T0 A0 ⊢
    -- the web
    refine ⟨_, rfl, _, rfl, rr, sc, ns, _, rfl, R0, ⟨by decide, by decide⟩, fun H1 m1 E1 R1 _ hm1 => ⟨_, _, rfl, rfl, ?_⟩⟩
    refine ⟨_, rfl, rr, sc, ns, _, rfl, R1, ⟨by decide, by decide⟩, fun H2 m2 E2 R2 _ hm2 => ⟨_, _, rfl, rfl, ?_⟩⟩
    refine ⟨rr, sc, ns, (1 + m1).toNat, 3, (2 + m2).toNat, by rw [show (((1 + m1).toNat : Nat) : Int) = 1 + m1 by omega, show (((2 + m2).toNat : Nat) : Int) = 2 + m2 by omega]; rfl, R2, ⟨by omega, by omega⟩, ⟨by decide, by decide⟩, by omega, fun H3 wv W E3 R3 hW3 ok hnw hmw => ?_⟩
    have T3 := ((T0.extB E1).extB E2).extB E3
    have A3 := E3.own TA _ own (E2.own TA _ own (E1.own TA _ own A0))
    obtain ⟨wa, tv, lv, rfl, hwa, ⟨tt, rfl, htt⟩, hlv⟩ := id hW3
    clear R2 R1 R0 T0 E3 E2 E1 X0 A0
    -- rules, a state
    refine ⟨_, rfl, _, rfl, rr, sc, ns, _, W, rfl, R3, hW3, ok, fun H4 ra us ru E4 R4 hu0 hus hpus r0 hb => ?_⟩
    have hW4 := R3.web E4 hW3
    refine ⟨_, rfl, _, rfl, rr, sc, ns, _, W, rfl, R4, hW4, ok, fun H5 sa st E5 R5 hs0 hs so => ?_⟩
    refine ⟨(by show 0 ≤ sizeLine; decide), fun pa hpa0 => ⟨(by show 3 ≤ sizeLine; decide), fun t ht => ?_⟩⟩
    refine ⟨t, _, rfl, upd_same, rfl, _, _, rfl, _, _, rfl, _, _, rfl, rfl, ?_⟩
    have hru4 : TT2 H4 (.ref ra) ru := ⟨ra, us, rfl, hus, hpus⟩
    have hru5 : TT2 H5 (.ref ra) ru := by
      obtain ⟨rs, hrs⟩ := R4.lst
      exact hru4.extB E5 hrs
    have hW5 := R4.web E5 hW4
    have T5 := (T3.extB E4).extB E5
    have A5 := E5.own TA _ own (E4.own TA _ own A3)
    have Xp := Ext.new hpa0 (.lst [])
    have Xt := Ext.new ht (.tup [V.ref ra, V.ref sa, V.ref pa])
    have X6 := Xp.trans Xt
    have R6 := R5.ext X6
    have hW6 := hW5.ext X6
    have hru6 := hru5.ext X6
    have hs6 : TI (L2.upd (L2.upd H5 pa (.lst [])) t (.tup [V.ref ra, V.ref sa, V.ref pa])) (.ref sa) st := ⟨sa, rfl, X6.tup hs⟩
    have hpa6 : L2.upd (L2.upd H5 pa (.lst [])) t (.tup [V.ref ra, V.ref sa, V.ref pa]) pa = some (.lst []) := Xt.lst upd_same
    have T6 := T5.ext X6
    have A6 := X6.own TA _ own A5
    have np6 : pa ≠ rr := fun z => by rw [z] at hpa0; obtain ⟨rs, hrs⟩ := R5.lst; rw [hrs] at hpa0; cases hpa0
    generalize L2.upd (L2.upd H5 pa (.lst [])) t (.tup [V.ref ra, V.ref sa, V.ref pa]) = H6 at R6 hW6 hru6 hs6 hpa6 T6 A6 ⊢
    clear X6 Xt Xp A5 T5 hW5 hru5 hru4 hs hs0 R5 R4 E5 E4 hus hpus hu0 hW4 R3 hW3 hwa htt hlv T3 A3 ht hpa0
    -- the bench
    refine ⟨_, rfl, _, rfl, _, rfl, fun b dx hb0 hdx0 hne => ?_⟩
    have xd := (Ext.new hdx0 (.own b)).trans (Ext.new (by rw [upd_ne hne.symm]; exact hb0) (.ins C dx []))
    refine ⟨b, dx, _, _, _, W, ru, st, rfl, upd_same, hW6.ext xd, hru6.ext xd, hs6.ext xd, ⟨ok, r0, hb, fun s hs => by rw [List.mem_singleton.mp hs]; exact so, by simp⟩, T6.ext xd, fun H7 l e7 hl0 hB => ⟨rfl, ?_⟩⟩
    have nb : ∀ a o, H6 a = some o → a ≠ b := fun a o h z => by rw [z, hb0] at h; cases h
    have e67 : Ext H6 H7 := ⟨fun a o h q => e7.keep a o (nb a o h) (xd.keep a o h q) q, fun P h => e7.tab P (xd.tab P h), fun a o h => by
      obtain ⟨o', h'⟩ := xd.tb a o h
      exact e7.tb a o' h', fun P ps o h => e7.own P ps o (xd.own P ps o h)⟩
    have hl6 := xd.free hl0
    refine ⟨_, rfl, _, rfl, _, _, W, ru, rfl, hW6.ext e67, ok, hru6.ext e67, rules_ok r0 hb, fun H8 ea e8 hea0 hea => ?_⟩
    have e68 := e67.trans e8
    have R8 := R6.ext e68
    have nl : ∀ a o, H6 a = some o → a ≠ l := fun a o h z => by rw [z, hl6] at h; cases h
    obtain ⟨rs6, hrs6⟩ := R6.lst
    have hl7 : ∃ vs, H7 l = some (.lst vs) := hB.lst
    have L8 : BL K Ps C TA rr sc b l wa ra ea ns W ru H8 := by
      obtain ⟨vs, hv⟩ := hl7
      exact ⟨R8, hW6.ext e68, hru6.ext e68, hea, T6.ext e68, LamX.TabS.nil (e68.own TA _ own A6), rw_sc R6 hl6 R8 e68.tb, ⟨vs, e8.lst hv⟩, nl _ _ hrs6, (fun z => by rw [z, hv] at hea0; cases hea0), (fun z => by rw [z, e67.lst hrs6] at hea0; cases hea0)⟩
    have S8 : BS C rr b l sa pa W ru [] st H8 := ⟨hB.ext e8, hs6.ext e68, ⟨pa, [], rfl, e68.lst hpa6, .nil⟩, nl _ _ hpa6, np6⟩
    clear hrs6 rs6 nl hl6 R8 e68 hea hea0 e8 hl7 e67 nb hB hl0 e7 xd hne hdx0 hb0 A6 T6 hpa6 hs6 hru6 hW6 R6 np6
    -- the turns
    have h6 := ok.few
    have h1 := ok.some_
    refine ⟨_, _, rfl, ?_⟩
    refine ⟨_, rfl, rr, sc, ns, _, rfl, L8.rw, ⟨by decide, by decide⟩, fun H9 m E9 R9 _ hm => ⟨_, _, rfl, rfl, _, rfl, by omega, by omega, ?_⟩⟩
    have L9 := L8.row own E9 R9
    have S9 := S8.row L8 E9
    obtain ⟨N, hN9⟩ : ∃ N : Nat, (4 + m).toNat = N := ⟨_, rfl⟩
    have lN : N ≤ 9 := by omega
    rw [hN9]
    refine for_range (lo := 0) (n := N) (fun i σ H' => ∃ (past : List (List Int)) (st : List Int) (sa pa : Addr) (o8 o9 o10 o11 o12 o13 o14 o15 o16 o17 : Option V), σ = [some (.ref sc), some (.ref rr), some (.ref wa), some (.ref ra), some (.ref sa), some (.ref pa), some (.ref b), some (.ref ea), o8, o9, o10, o11, o12, o13, o14, o15, o16, o17] ∧ BL K Ps C TA rr sc b l wa ra ea ns W ru H' ∧ BS C rr b l sa pa W ru past st H' ∧ (∀ s ∈ past ++ [st], StOk W s) ∧ past.length ≤ i)
      ⟨[], st, sa, pa, _, _, _, _, _, _, _, _, _, _, rfl, L9, S9, fun s hs => by rw [List.mem_singleton.mp hs]; exact so, Nat.zero_le _⟩ ?_ ?_
    · clear S9 L9 R9 E9 S8 L8 so
      rintro i σ H1 hi ⟨past, st, sa, pa, o8, o9, o10, o11, o12, o13, o14, o15, o16, o17, rfl, L1, S1, sk1, lp1⟩
      have bok : BOk W ru (past ++ [st]) := ⟨ok, r0, hb, sk1, by rw [List.length_append, List.length_singleton]; omega⟩
      have so : StOk W st := sk1 st (by simp)
      have ls := so.len
      -- which way, who
      refine ⟨_, rfl, rr, sc, ns, _, rfl, L1.rw, ⟨by decide, by decide⟩, fun H2 way E2 R2 _ hway => ?_⟩
      have L2' := L1.row own E2 R2
      have S2 := S1.row L1 E2
      obtain ⟨_, tv, lv, ew, hwa, ⟨tt, rfl, htt⟩, hlv⟩ := id L2'.web
      cases ew
      refine ⟨_, rfl, _, rfl, wa, _, _, _, rfl, rfl, hwa, at_of (j := 0) rfl rfl, tt, _, rfl, .inr htt, rr, sc, ns, _, rfl, L2'.rw, ⟨by rw [iv_len]; omega, by rw [iv_len]; omega⟩, fun H3 fo E3 R3 _ hfo => ?_⟩
      rw [iv_len] at hfo
      have L3 := L2'.row own E3 R3
      have S3 := S2.row L2' E3
      obtain ⟨n, rfl⟩ : ∃ n : Nat, fo = (n : Int) := ⟨fo.toNat, by omega⟩
      have hn : n < W.tops.length := by omega
      clear L2' S2 hlv htt hwa R3 E3 R2 E2 L1 S1
      refine ⟨_, _, rfl, nxB ?_⟩
      refine evS (P := fun σ' H' => ∃ (past : List (List Int)) (st : List Int) (sa pa : Addr) (o8 o9 o10 o11 : Option V), σ' = [some (.ref sc), some (.ref rr), some (.ref wa), some (.ref ra), some (.ref sa), some (.ref pa), some (.ref b), some (.ref ea), o8, o9, o10, o11, o12, o13, o14, o15, o16, o17] ∧ BL K Ps C TA rr sc b l wa ra ea ns W ru H' ∧ BS C rr b l sa pa W ru past st H' ∧ (∀ s ∈ past ++ [st], StOk W s) ∧ past.length ≤ i + 1) (fun Nx hNx => ?_) fun σ' H4 hσ => ?_
      · refine evI1 (P := fun c H' => c = true → past ≠ []) (fun R' hR => ?_) fun c H4 e4 hc => ?_
        · refine ⟨_, rfl, rfl, _, rfl, ?_⟩
          refine ite_of (fun hc => ?_) fun hc => hR _ _ (Ext.refl _) (fun z => by cases z)
          refine ⟨_, rfl, (by show 0 ≤ sizeLine; decide), fun q hq => ?_⟩
          have xq := Ext.new hq (.lst [])
          refine ⟨past, [], S3.hpa.ext xq, ⟨q, [], rfl, upd_same, .nil⟩, _, rfl, hR _ _ xq fun h z => ?_⟩
          rw [decide_eq_true z] at h
          cases h
        have L4 := L3.ext own e4
        have S4 := S3.ext e4
        clear L3 S3
        obtain ⟨dx, wv, rv, vs, hb1, _, _, hlv, hlp⟩ := S4.bat.ex
        cases c with
        | true =>
          have ne := hc rfl
          refine iteT ⟨_, rfl, b, dx, _, rfl, hb1, fsB_back, b, l, W, ru, past, st, rfl, S4.bat, bok, .inl ⟨ne, fun H5 e5 hB5 => ?_⟩⟩
          obtain ⟨past0, st0, rfl⟩ : ∃ p s, past = p ++ [s] := ⟨past.dropLast, past.getLast ne, (List.dropLast_concat_getLast ne).symm⟩
          have L5 := L4.list own e5 hB5.lst
          obtain ⟨vl, hvl⟩ := L4.ls
          have P5 := LT2.extB e5 hvl S4.n2 S4.hpa
          obtain ⟨_, ps, eq1, hps, hpp⟩ := id P5
          cases eq1
          obtain ⟨p0, x, rfl, pp0, hx⟩ := paired_last hpp
          obtain ⟨xa, rfl, hxa⟩ := id hx
          refine ⟨_, rfl, _, rfl, pa, _, _, _, rfl, rfl, SqL.of hps, atI_last _ _, _, rfl, _, rfl, _, rfl, pa, _, rfl, SqL.of hps, fun pn hpn => ?_⟩
          rw [cut_last _ (by simp), List.dropLast_concat]
          have xp := Ext.new hpn (.lst p0)
          refine ⟨(by show 2 ≤ sizeLine; decide), fun t ht => ?_⟩
          have xt := Ext.new ht (.tup [V.ref xa, V.ref pn])
          have X := xp.trans xt
          refine ⟨t, _, rfl, upd_same, rfl, _, _, rfl, _, _, rfl, rfl, hNx _ _ ⟨past0, st0, xa, pn, _, _, _, _, rfl, L5.ext own X, ⟨hB5.ext X, ⟨xa, rfl, X.tup hxa⟩, ⟨pn, p0, rfl, xt.lst upd_same, pTI.ext X pp0⟩, fun z => ?_, fun z => ?_⟩, fun s hs => sk1 s (List.mem_append_left _ hs), ?_⟩⟩
          · obtain ⟨v1, h1⟩ := L5.ls
            rw [z, h1] at hpn
            cases hpn
          · obtain ⟨v1, h1⟩ := L5.rw.lst
            rw [z, h1] at hpn
            cases hpn
          · rw [List.length_append, List.length_singleton] at lp1
            omega
        | false =>
          obtain ⟨_, ps, eq1, hps, hpp⟩ := id S4.hpa
          cases eq1
          refine iteF ⟨_, rfl, _, rfl, (by show 1 ≤ sizeLine; decide), fun q hq => ?_⟩
          have xq := Ext.new hq (.lst [V.ref sa])
          have lps := paired_len hpp
          refine ⟨pa, q, _, _, rfl, rfl, xq.lst hps, upd_same, ?_, fun pn hpn => ?_⟩
          · rw [lps]
            exact Nat.le_of_lt (small1000 (by simp only [List.length_singleton]; omega))
          have xp := Ext.new hpn (.lst (ps ++ [V.ref sa]))
          have X := xq.trans xp
          have L5 := L4.ext own X
          have S5 := S4.ext X
          have hpn5 : L2.upd (L2.upd H4 q (.lst [V.ref sa])) pn (.lst (ps ++ [V.ref sa])) pn = some (.lst (ps ++ [V.ref sa])) := upd_same
          have P5 : LT2 (L2.upd (L2.upd H4 q (.lst [V.ref sa])) pn (.lst (ps ++ [V.ref sa]))) (.ref pn) (past ++ [st]) := ⟨pn, _, rfl, upd_same, paired_snoc S5.hst (pTI.ext X hpp)⟩
          have hb5 := X.keep _ _ hb1 rfl
          have nl5 : pn ≠ l := fun z => by
            obtain ⟨v1, h1⟩ := (L4.ext own xq).ls
            rw [z, h1] at hpn
            cases hpn
          have nr5 : pn ≠ rr := fun z => by
            obtain ⟨v1, h1⟩ := (L4.ext own xq).rw.lst
            rw [z, h1] at hpn
            cases hpn
          generalize L2.upd (L2.upd H4 q (.lst [V.ref sa])) pn (.lst (ps ++ [V.ref sa])) = H5 at L5 S5 hpn5 P5 hb5 ⊢
          have lpn : (past ++ [st]).length ≤ i + 1 := by
            rw [List.length_append, List.length_singleton]
            omega
          clear X xp hpn lps xq hq hps hpp hlv hlp L4 S4
          have skn : ∀ s', StOk W s' → ∀ s ∈ past ++ [st] ++ [s'], StOk W s := fun s' h s hs => by
            rcases List.mem_append.mp hs with q | q
            · exact sk1 s q
            · rw [List.mem_singleton.mp q]
              exact h
          -- the end of each way
          have fin : ∀ (H5 H6 H7 : Hp) (s' : List Int) (u : Addr) (σ9 : L2.St), BL K Ps C TA rr sc b l wa ra ea ns W ru H5 → LT2 H5 (.ref pn) (past ++ [st]) → ExtB l H5 H6 → BAt C H6 b l W ru (past ++ [st] ++ [s']) → StOk W s' → Ext H6 H7 → TI H7 (.ref u) s' → (∃ (o8 o9 o10 o11 : Option V), σ9 = [some (.ref sc), some (.ref rr), some (.ref wa), some (.ref ra), some (.ref u), some (.ref pn), some (.ref b), some (.ref ea), o8, o9, o10, o11, o12, o13, o14, o15, o16, o17]) → Nx σ9 H7 := fun H5 H6 H7 s' u σ9 L5 P5 e6 hB6 so' e7 hu ⟨o8, o9, o10, o11, eσ⟩ => by
            obtain ⟨vl, hvl⟩ := L5.ls
            have L6 := L5.list own e6 hB6.lst
            have P6 := LT2.extB e6 hvl nl5 P5
            exact hNx _ _ ⟨past ++ [st], s', u, pn, o8, o9, o10, o11, eσ, L6.ext own e7, ⟨hB6.ext e7, hu, P6.ext e7, nl5, nr5⟩, skn s' so', lpn⟩
          refine nmC ?_
          refine ⟨_, rfl, rfl, _, rfl, ?_⟩
          refine ite_of (fun hc => ?_) fun hc => ?_
          · -- all at once
            refine ⟨_, rfl, b, dx, _, rfl, hb5, fsB_tick, b, l, W, ru, past, st, rfl, S5.bat, bok, fun H6 e6 hB6 => ?_⟩
            have L6 := L5.list own e6 hB6.lst
            obtain ⟨vl, hvl⟩ := L5.ls
            have st6 := S5.hst.extB e6 hvl
            refine ⟨_, rfl, _, rfl, _, rfl, _, _, _, W, ru, st, rfl, L6.web, ok, L6.hru, rules_ok r0 hb, st6, so, fun H7 u e7 _ hu => ?_⟩
            exact fin H5 H6 H7 _ u _ L5 P5 e6 hB6 (told_ok ok r0 hb so) e7 ⟨u, rfl, hu⟩ ⟨_, _, _, _, rfl⟩
          · obtain ⟨_, tv, lv, ew, hwa, ⟨tt, rfl, htt⟩, _⟩ := id L5.web
            cases ew
            have hget := topAt_get (W := W) (i := (n : Int)) (by omega) (by omega)
            have htop := ok.tops (topAt W (n : Int)) (List.mem_of_getElem? hget)
            by_cases hw1 : way = 1
            · -- painted
              refine ⟨_, rfl, rfl, _, rfl, ?_⟩
              rw [decide_eq_true (by rw [hw1])]
              refine iteT ⟨_, rfl, _, rfl, wa, _, _, _, rfl, rfl, hwa, at_of (j := 0) rfl rfl, _, rfl, tt, _, _, _, rfl, rfl, htt, at_of (j := n) rfl (iv_at hget), _, _, rfl, rfl, rr, sc, ns, _, rfl, L5.rw, ⟨by omega, by omega⟩, fun H6 m E6 R6 _ hm => ?_⟩
              have L6 := L5.row own E6 R6
              have S6 := S5.row L5 E6
              obtain ⟨rs, hrs⟩ := L5.rw.lst
              have P6 := LT2.extB E6 hrs nr5 P5
              obtain ⟨dx6, wv6, rv6, vs6, hb6, _⟩ := S6.bat.ex
              refine nmC ?_
              refine ⟨_, rfl, rfl, _, rfl, ?_⟩
              rw [decide_eq_true (by rw [hw1])]
              refine iteT ⟨_, rfl, b, dx6, _, rfl, hb6, fsB_paint, _, rfl, _, rfl, b, l, _, _, W, ru, past, st, rfl, S6.bat, bok, .inl ⟨n, rfl, hn, .inl ⟨m, rfl, ⟨by omega, by omega⟩, fun H7 e7 hB7 => ?_⟩⟩⟩
              obtain ⟨vl, hvl⟩ := L6.ls
              obtain ⟨_, e1, hsa⟩ := S6.hst.extB e7 hvl
              cases e1
              refine cut_put (st := st) (n := n) (m := m) (z := sa) (by omega) (by omega) rfl rfl rfl hsa fun H8 u e8 hu => ?_
              exact fin H6 H7 H8 _ u _ L6 P6 e7 hB7 (setS_ok so hn ⟨by omega, by omega⟩) e8 hu ⟨_, _, _, _, rfl⟩
            · -- one looks again
              refine ⟨_, rfl, rfl, _, rfl, ?_⟩
              rw [decide_eq_false (fun z => hw1 (V.int.inj z))]
              refine iteF ⟨_, rfl, _, rfl, _, rfl, _, rfl, _, _, _, W, ru, st, (n : Int), rfl, L5.web, ok, L5.hru, rules_ok r0 hb, S5.hst, so, ⟨by omega, by omega⟩, fun H6 e6 => ?_⟩
              have L6 := L5.ext own e6
              have S6 := S5.ext e6
              have P6 := P5.ext e6
              refine nmC ?_
              refine ⟨_, rfl, rfl, _, rfl, ?_⟩
              rw [decide_eq_false (fun z => hw1 (V.int.inj z))]
              refine iteF ⟨_, rfl, b, dx, _, rfl, e6.keep _ _ hb5 rfl, fsB_look, _, rfl, b, l, _, W, ru, past, st, rfl, S6.bat, bok, .inl ⟨n, rfl, hn, fun H7 e7 hB7 => ?_⟩⟩
              obtain ⟨vl, hvl⟩ := L6.ls
              obtain ⟨_, e1, hsa⟩ := S6.hst.extB e7 hvl
              cases e1
              refine cut_put (st := st) (n := n) (m := moodTold W ru st (n : Int)) (z := sa) (by omega) (by omega) rfl rfl rfl hsa fun H8 u e8 hu => ?_
              rw [look_setS so hn] at hu
              exact fin H6 H7 H8 _ u _ L6 P6 e7 hB7 (lookOne_ok ok r0 hb so _) e8 hu ⟨_, _, _, _, rfl⟩
      · obtain ⟨past, st, sa, pa, o8, o9, o10, o11, rfl, L4, S4, sk4, lp4⟩ := hσ
        clear L3 S3 sk1 lp1 so ls bok
        have bok : BOk W ru (past ++ [st]) := ⟨ok, r0, hb, sk4, by rw [List.length_append, List.length_singleton]; omega⟩
        have so : StOk W st := sk4 st (by simp)
        have ls := so.len
        -- who is not at rest
        refine ⟨_, rfl, _, rfl, _, rfl, _, _, _, W, ru, st, rfl, L4.web, ok, L4.hru, rules_ok r0 hb, S4.hst, so, fun H5 da e5 _ hda => ?_⟩
        have L5 := L4.ext own e5
        have S5 := S4.ext e5
        obtain ⟨_, tv, lv, ew, hwa, ⟨tt, rfl, htt⟩, _⟩ := id L5.web
        cases ew
        obtain ⟨_, e1, hsa⟩ := id S5.hst
        cases e1
        refine nmC ?_
        refine ⟨_, rfl, wa, _, _, _, rfl, rfl, hwa, at_of (j := 0) rfl rfl, tt, _, rfl, .inr htt, _, rfl, by omega, by rw [iv_len]; omega, fun D hD => ?_⟩
        rw [show ((iv W.tops).length : Int).toNat = W.tops.length by rw [iv_len]; omega]
        refine lc_fmR (lo := 0) (n := W.tops.length) (S := VI) stVI (fun f => if (!(moodTold W ru st f == stAt st f)) = true then some f else none) hD (Nat.le_of_lt (small1000 (by omega))) (fun f H6 Ky Kn e6 h0 hf1 k1 k2 => ?_) fun H6 acc e6 hacc hpa => ?_
        · have gd : (stateTold W ru st)[f.toNat]? = some (moodTold W ru st f) := by
            unfold stateTold
            rw [List.getElem?_map, List.getElem?_range (by omega)]
            show some (moodTold W ru st (f.toNat : Int)) = _
            rw [show ((f.toNat : Nat) : Int) = f by omega]
          have gs := stAt_get (st := st) (i := f) h0 (by omega)
          refine ⟨rfl, ?_⟩
          refine ⟨_, rfl, _, rfl, da, _, _, _, rfl, rfl, e6.tup hda, at_of (j := f.toNat) (by omega) (iv_at gd), _, rfl, _, rfl, sa, _, _, _, rfl, rfl, e6.tup hsa, at_of (j := f.toNat) (by omega) (iv_at gs), rfl, _, rfl, ?_⟩
          rw [dec_int]
          refine ite_of (fun hc => ?_) fun hc => ?_
          · exact ⟨_, rfl, k1 _ _ _ (if_pos hc) (Ext.refl _) rfl⟩
          · exact k2 _ (if_neg (by rw [hc]; decide)) (Ext.refl _)
        have ea0 := pVI hpa
        subst ea0
        clear hpa
        rw [nums_range, fm_filter] at hacc
        have eun : ((List.range W.tops.length).map fun i : Nat => (i : Int)).filter (fun f => !(moodTold W ru st f == stAt st f)) = uneasyL W ru st := by
          unfold uneasyL
          rw [ls]
        rw [eun] at hacc
        refine ⟨D, _, rfl, hacc, fun ua hua => ?_⟩
        have X7 := e6.trans (Ext.new hua (.tup (iv (uneasyL W ru st))))
        have L7 := L5.ext own X7
        have S7 := S5.ext X7
        have hu7 : L2.upd H6 ua (.tup (iv (uneasyL W ru st))) ua = some (.tup (iv (uneasyL W ru st))) := upd_same
        generalize L2.upd H6 ua (.tup (iv (uneasyL W ru st))) = H7 at L7 S7 hu7 ⊢
        clear X7 hua hacc e6 hD hsa htt hwa L5 S5 hda e5 L4 S4
        refine nmC ?_
        obtain ⟨dx, wv, rv, vs, hb7, _⟩ := S7.bat.ex
        refine ⟨_, rfl, b, dx, _, rfl, hb7, b, l, W, ru, past, st, rfl, S7.bat, fun z hz => ?_⟩
        refine ⟨_, rfl, b, dx, _, rfl, hb7, b, l, W, ru, past, st, rfl, S7.bat, bok, fun H8 y e8 hy => ?_⟩
        refine ⟨(by show 2 ≤ sizeLine; decide), fun q1 hq1 => ⟨_, rfl, _, rfl, (by show 2 ≤ sizeLine; decide), fun q2 hq2 => ?_⟩⟩
        have x1 := Ext.new hq1 (.lst [z, y])
        have x2 := Ext.new hq2 (.lst [V.ref sa, V.ref ua])
        have x12 := x1.trans x2
        refine ⟨q1, q2, true, _, _, rfl, x2.lst upd_same, upd_same, rfl, (by show 2 ≤ 1000000; decide), al2 (rows := [st, uneasyL W ru st]) (.cons (hz.ext (e8.trans x12)) (.cons (hy.ext x12) .nil)) (.cons (S7.hst.ext (e8.trans x12)) (.cons ⟨ua, rfl, (e8.trans x12).tup hu7⟩ .nil)) (fun r hr => ?_), fun H9 e9 => ⟨_, rfl, iteF (nxB ?_)⟩⟩
        · rcases List.mem_cons.mp hr with q | q
          · rw [q, ls]
            omega
          · rw [List.mem_singleton.mp q]
            unfold uneasyL
            refine Nat.le_trans (List.length_filter_le _ _) ?_
            rw [List.length_map, List.length_range, ls]
            omega
        have X := (e8.trans x12).trans e9
        have L9 := L7.ext own X
        have S9 := S7.ext X
        clear X e9 x12 x1 x2 hq1 hq2 hy hz e8 hb7 L7 S7 hu7
        -- another state
        refine ⟨_, rfl, _, rfl, rr, sc, ns, _, W, rfl, L9.rw, L9.web, ok, fun HA oa ot EA RA _ hoa oto => ?_⟩
        have LA := L9.row own EA RA
        have SA := S9.row L9 EA
        refine ⟨(by show 0 ≤ sizeLine; decide), fun ap hap => ⟨_, _, rfl, nxB ?_⟩⟩
        have xa := Ext.new hap (.lst [])
        have LB := LA.ext own xa
        have SB := SA.ext xa
        obtain ⟨_, ev, e1, hev, hevp⟩ := id LB.hea
        cases e1
        have lset : (settledStates W ru).length ≤ 4096 := Nat.le_trans (List.length_filter_le _ _) (rows_few ok)
        have lev := paired_len hevp
        refine ⟨_, rfl, _, rfl, (by show 1 ≤ sizeLine; decide), fun q hq => ?_⟩
        have xq := Ext.new hq (.lst [V.ref oa])
        refine ⟨ea, q, _, _, rfl, rfl, xq.lst hev, upd_same, ?_, fun el hel => ?_⟩
        · rw [lev]
          exact Nat.le_trans (show _ ≤ 5000 by simp only [List.length_singleton]; omega) (by decide)
        have xe := Ext.new hel (.lst (ev ++ [V.ref oa]))
        have XC := xq.trans xe
        have hap1 := XC.lst (upd_same (H := HA) (a := ap) (o := .lst []))
        have hel1 : L2.upd (L2.upd (L2.upd HA ap (.lst [])) q (.lst [V.ref oa])) el (.lst (ev ++ [V.ref oa])) el = some (.lst (ev ++ [V.ref oa])) := upd_same
        have help : Paired (TI (L2.upd (L2.upd (L2.upd HA ap (.lst [])) q (.lst [V.ref oa])) el (.lst (ev ++ [V.ref oa])))) (ev ++ [V.ref oa]) (settledStates W ru ++ [ot]) := paired_snoc ⟨oa, rfl, (xa.trans XC).tup hoa⟩ (pTI.ext XC hevp)
        have nea : el ≠ ap := fun z => by rw [z] at hel; rw [xq.lst (upd_same (H := HA) (a := ap) (o := .lst []))] at hel; cases hel
        have XA := xa.trans XC
        generalize L2.upd (L2.upd (L2.upd HA ap (.lst [])) q (.lst [V.ref oa])) el (.lst (ev ++ [V.ref oa])) = HC at hap1 hel1 help XA ⊢
        clear XC xe hel xq hq hevp hev LB SB xa
        have lel := paired_len help
        rw [List.length_append, List.length_singleton] at lel
        refine ⟨el, rfl, ⟨_, SqL.of hel1⟩, for_list (K := K) (a := el) (xs := ev ++ [V.ref oa]) (fun j σ H' => ∃ (av : List V) (o13 : Option V), σ = [some (.ref sc), some (.ref rr), some (.ref wa), some (.ref ra), some (.ref sa), some (.ref pa), some (.ref b), some (.ref ea), o8, o9, o10, o11, some (.ref da), o13, some (.ref ua), some (.ref oa), some (.ref ap), o17] ∧ Ext HA H' ∧ H' ap = some (.lst av) ∧ Paired (PrN H') av (((settledStates W ru ++ [ot]).take j).map fun s => (((apartN st s : Nat) : Int), s)) ∧ H' el = some (.lst (ev ++ [V.ref oa])) ∧ Paired (TI H') (ev ++ [V.ref oa]) (settledStates W ru ++ [ot]))
          ⟨[], _, rfl, XA, hap1, .nil, hel1, help⟩ (fun i σ H' _ ⟨_, _, _, _, _, _, h, _⟩ => SqL.of h) ?_ ?_⟩
        · rintro j x σ HD hj ⟨av, o13', rfl, eD, hapD, havD, helD, helpD⟩
          obtain ⟨s, hs, xa, rfl, hxa⟩ := paired_get' helpD hj
          have ss : StOk W s := by
            rcases List.mem_append.mp (List.mem_of_getElem? hs) with q | q
            · exact settled_st q
            · rw [List.mem_singleton.mp q]
              exact oto
          have lj := (List.getElem?_eq_some_iff.mp hs).1
          rw [List.length_append, List.length_singleton] at lj
          have hsaD : ∃ sa', (V.ref sa) = .ref sa' ∧ HD sa' = some (.tup (iv st)) := SA.hst.ext eD
          obtain ⟨_, e1, hsaD⟩ := hsaD
          cases e1
          refine ⟨_, rfl, ⟨ap, av, rfl, hapD⟩, ?_⟩
          refine ⟨_, rfl, _, rfl, sa, xa, _, _, rfl, .inr ⟨SqT.of hsaD, SqT.of hxa, fun D hD => ?_⟩⟩
          refine lc_walk (walk_zipT (K := K) (n := st.length) (xs := iv st) (ys := iv s) (by rw [iv_len, iv_len, ls, ss.len]; omega)) (fun i H' => ∃ acc : List Int, H' D = some (.lst (iv acc)) ∧ acc.length = apartN (st.take i) (s.take i) ∧ Ext HD H') ⟨[], by rw [upd_same]; rfl, rfl, Ext.new hD _⟩ (fun i H' _ ⟨_, _, _, e⟩ => ⟨SqT.of (e.tup hsaD), SqT.of (e.tup hxa)⟩) (fun i x H4 H5 hi ⟨acc, h1, la, e⟩ y => ?_) fun H4 ⟨acc, h4, la, e4⟩ => ?_
          · obtain ⟨u, x1, y1, rfl, hu, rfl, hx, hy⟩ := y
            obtain ⟨a, ha, rfl⟩ := iv_get hx
            obtain ⟨a', ha', rfl⟩ := iv_get hy
            have eu := e.trans (Ext.new hu (.tup [V.int a, V.int a']))
            have h2 := (Ext.new hu (.tup [V.int a, V.int a'])).lst h1
            refine ⟨u, _, rfl, upd_same, rfl, _, _, rfl, _, _, rfl, rfl, rfl, ?_⟩
            refine ⟨_, rfl, _, rfl, rfl, _, rfl, ?_⟩
            have al := apart_snoc ha ha'
            have lacc := apart_le (st.take i) (s.take i)
            rw [List.length_take] at lacc
            by_cases hc : a = a'
            · rw [show (!decide (V.int a = V.int a')) = false from by rw [decide_eq_true (by rw [hc])]; rfl]
              rw [if_pos hc] at al
              exact iteF ⟨acc, h2, by rw [la, al]; rfl, eu⟩
            · rw [show (!decide (V.int a = V.int a')) = true from by rw [decide_eq_false (fun z => hc (V.int.inj z))]; rfl]
              rw [if_neg hc] at al
              refine iteT ⟨_, h2, ?_, acc ++ [1], ?_, ?_, eu.put hD _⟩
              · rw [iv_len, la]
                exact small1000 (by omega)
              · rw [upd_same]
                unfold iv
                rw [List.map_append]
                rfl
              · rw [List.length_append, la, al]
                rfl
          · rw [List.take_of_length_le (Nat.le_refl _), List.take_of_length_le (by rw [ls, ss.len]; omega)] at la
            refine ⟨D, _, rfl, .inl (SqL.of h4), ?_⟩
            rw [iv_len, la]
            refine ⟨_, rfl, (by show 2 ≤ sizeLine; decide), fun tp htp => ?_⟩
            have xt := Ext.new htp (.tup [V.int (apartN st s : Nat), V.ref xa])
            have X := e4.trans xt
            have hap4 := X.lst hapD
            have lav := paired_len havD
            rw [List.length_map, List.length_take] at lav
            have hn4 : ∀ (p : Addr) (xs : List V), (L2.upd H4 tp (.tup [V.int (apartN st s : Nat), V.ref xa])) p = some (.tup xs) → (L2.upd (L2.upd H4 tp (.tup [V.int (apartN st s : Nat), V.ref xa])) ap (.lst (av ++ [V.ref tp]))) p = some (.tup xs) := fun p xs h => by rw [upd_ne (ne_of hap4 h (by intro z; cases z)).symm]; exact h
            refine ⟨ap, av, _, rfl, rfl, hap4, Nat.lt_of_le_of_lt (show av.length ≤ 5000 by omega) (by decide), av ++ [V.ref tp], _, rfl, (eD.trans X).put hap _, upd_same, ?_, ?_, paired_mono (fun v a h => stTI.put hap4 h) (pTI.ext X helpD)⟩
            · rw [take_snoc hs, List.map_append]
              exact paired_snoc ⟨tp, xa, rfl, hn4 _ _ upd_same, hn4 _ _ (X.tup hxa)⟩ (paired_mono (fun v a h => stPrN.put hap4 (PrN.ext X h)) havD)
            · rw [upd_ne nea]
              exact X.lst helD
        · rintro σ HD ⟨av, o13', rfl, eD, hapD, havD, helD, helpD⟩
          have LD := LA.ext own eD
          have SD := SA.ext eD
          rw [List.take_of_length_le (by rw [List.length_append, List.length_append, List.length_singleton, List.length_singleton]; omega), List.map_append] at havD
          obtain ⟨a0, x, rfl, hp0, hx⟩ := paired_last havD
          obtain ⟨xp, xq, rfl, hxp, hxq⟩ := hx
          obtain ⟨dx, wv, rv, vs, hbD, _⟩ := SD.bat.ex
          have hoD : TI HD (.ref oa) ot := ⟨oa, rfl, eD.tup hoa⟩
          refine nxB ?_
          refine ⟨_, rfl, b, dx, _, rfl, hbD, fsB_apart, _, rfl, b, l, _, W, ru, past, st, rfl, SD.bat, bok, LD.tb, .inl ⟨ot, hoD, oto, fun HE eE => ?_⟩⟩
          refine ⟨_, rfl, _, rfl, ap, _, _, _, rfl, rfl, SqL.of (eE.lst hapD), atI_last _ _, xp, _, _, _, rfl, rfl, eE.tup hxp, at_of (j := 0) rfl rfl, rfl, _, rfl, ?_⟩
          rw [show (!decide (V.int ((apartN st ot : Nat) : Int) = V.int ((apartN st ot : Nat) : Int))) = false from by rw [decide_eq_true rfl]; rfl]
          refine iteF (nxB ?_)
          have LE := LD.ext own eE
          have SE := SD.ext eE
          refine ⟨_, rfl, b, dx, _, rfl, eE.keep _ _ hbD rfl, b, l, W, ru, past, st, rfl, SE.bat, bok, fun HF v eF hv => ?_⟩
          have LF := LE.ext own eF
          have SF := SE.ext eF
          refine ⟨_, rfl, (by show 0 ≤ sizeLine; decide), fun q hq => ?_⟩
          have xq2 := Ext.new hq (.lst [])
          have LG := LF.ext own xq2
          have SG := SF.ext xq2
          refine ⟨settledStates W ru, [], LG.hea, ⟨q, [], rfl, upd_same, .nil⟩, _, rfl, ?_⟩
          have hap2 := xq2.lst (eF.lst (eE.lst hapD))
          have hp2 : Paired (PrN (L2.upd HF q (.lst []))) a0 ((settledStates W ru).map fun s => (((apartN st s : Nat) : Int), s)) := paired_mono (fun _ _ h => PrN.ext ((eE.trans eF).trans xq2) h) hp0
          generalize L2.upd HF q (.lst []) = HG at xq2 LG SG hap2 hp2 ⊢
          by_cases hne : settledStates W ru = []
          · rw [show (!decide (settledStates W ru = [])) = false from by rw [decide_eq_true hne]; rfl]
            have hv0 : v = .non := by
              rcases hv with h | ⟨r, hr, _⟩
              · exact h.2
              · have := hr.1
                rw [hne] at this
                cases this
            subst hv0
            refine iteF (.inr ⟨rfl, fun HH eH => ⟨_, rfl, iteF ?_⟩⟩)
            exact ⟨past, st, sa, pa, _, _, _, _, _, _, _, _, _, _, rfl, LG.ext own eH, SG.ext eH, sk4, lp4⟩
          · rw [show (!decide (settledStates W ru = [])) = true from by rw [decide_eq_false hne]; rfl]
            refine iteT ⟨_, rfl, _, rfl, _, rfl, ap, _, rfl, SqL.of hap2, fun pn hpn => ?_⟩
            rw [cut_last _ (by simp), List.dropLast_concat]
            have xn := Ext.new hpn (.lst a0)
            refine ⟨pn, a0, _, rfl, upd_same, paired_mono (fun _ _ h => PrN.ext xn h) hp2, fun z => hne (List.map_eq_nil_iff.mp z), fun v2 r hl hr2 => ?_⟩
            obtain ⟨p2, q2, rfl, hp3, hq3⟩ := hr2
            have hv2 : TI HF v r.2 := by
              rcases hv with h | ⟨r', hr', h⟩
              · exact absurd h.1 hne
              · rw [least_one hl hr']
                exact h
            obtain ⟨va, rfl, hva⟩ := hv2.ext (xq2.trans xn)
            have lr : r.2.length ≤ 100 := by
              obtain ⟨s, hs, e⟩ := List.mem_map.mp hl.1
              have := (settled_st hs).len
              rw [← e]
              show s.length ≤ 100
              omega
            refine ⟨p2, _, _, _, rfl, rfl, hp3, at_of (j := 1) rfl rfl, .inl ⟨va, q2, false, _, _, rfl, hva, hq3, rfl, by rw [iv_len]; omega, al1 r.2 _, fun HH eH => ⟨_, rfl, iteF ?_⟩⟩⟩
            exact ⟨past, st, sa, pa, _, _, _, _, _, _, _, _, _, _, rfl, LG.ext own (xn.trans eH), SG.ext (xn.trans eH), sk4, lp4⟩
    · rintro σ H1 ⟨past, st, sa, pa, o8, o9, o10, o11, o12, o13, o14, o15, o16, o17, rfl, L1, S1, sk1, lp1⟩
      refine ⟨_, rfl, _, rfl, _, rfl, b, l, _, _, W, ru, past, st, rfl, ⟨ok, r0, hb, sk1, by rw [List.length_append, List.length_singleton]; omega⟩, ⟨S1.bat, L1.web, S1.hpa, L1.tb, L1.t⟩, k⟩
end
end Lk


/-! ## D33c -/
set_option Elab.async false
set_option linter.all false
set_option maxRecDepth 100000
set_option maxHeartbeats 4000000
namespace Lk
open PySem PySem.Spec PyProof.Rows L2 Gx
open GxR (TabG Tabbed TabB)
variable [Own]
abbrev s_check_rules : Stmt := top 35
theorem sc_check_rules : FnScope ["web", "rules", "tops", "_", "folk", "table"] ["web", "rules"] (defScope s_check_rules) := ⟨rfl, rfl, rfl, by decide +kernel, rfl, by decide +kernel, by decide +kernel⟩
/-- rules that are none are not asked here -/
def spCheckRules0 (Ps : List Addr) : Sp := fun vs H Q _ => ∃ (v r : V) (W : Web) (ru : List (List Int)), vs = [v, r] ∧ WebAt H v W ∧ W.Ok ∧ TT2 H r ru ∧ Ru0 W ru ∧ firstBad W ru = none ∧ Tabs Ps H ∧ ∀ H', Ext H H' → Q .non H'
def spSettled0 (Ps : List Addr) : Sp := fun vs H Q _ => ∃ (v r : V) (W : Web) (ru : List (List Int)), vs = [v, r] ∧ WebAt H v W ∧ W.Ok ∧ TT2 H r ru ∧ Ru0 W ru ∧ firstBad W ru = none ∧ Tabs Ps H ∧ ∀ H' u, Ext H H' → TT2 H' (.ref u) (settledStates W ru) → Q (.ref u) H'
section
variable {P : Program} {w : World} {K : PySem.W.Frag} {mg : Str → Option Value} {base : Heap} {Ps : List Addr}
theorem ok_check_rules {f : Addr} {fd : FuncData} (F : Fun K "check_rules" "check_rules" s_check_rules f fd) (B : Blt mg)
    (c_is_table : Cal P w K mg base CX0 4 "is_table" ["web", "folk", "value"] (spIsTable Ps)) : FnOk P w K mg base CX0 5 f fd ["web", "rules"] (spCheckRules0 Ps) := by
  refine F.ok sc_check_rules (fun vs H Q E h => ?_) (fun cdv A outer s0 H vs Q E hr h => ?_)
  · obtain ⟨v, r, W, ru, rfl, _⟩ := h
    rfl
  · obtain ⟨v, r, W, ru, rfl, hW, ok, hru, r0, hb, hTb, k⟩ := h
    obtain ⟨a, t, l, rfl, ha, ⟨tt, rfl, ht⟩, hl⟩ := id hW
    obtain ⟨ra, us, rfl, hra, hus⟩ := id hru
    refine ⟨_, (pss_cons (ps_asg (pv 0) (pg_tupT (n := 2) rfl (pgs_cons (pg_name (i := 2) sc_check_rules.nd rfl (by first | exact Or.inl rfl | exact Or.inr rfl)) (pgs_cons (pg_name (i := 3) sc_check_rules.nd rfl (by first | exact Or.inl rfl | exact Or.inr rfl)) pgs_nil))))
      (pss_cons (ps_if (PW.pt (pw_or (pt_not (pt_val (pe_callB call_isi (by rfl) B.isi boot_isinstance (pa_cons (pv 1) (pa_cons (pe_bltn (v := .ty "tuple") (by rfl) B.tuple boot_tyTuple rfl) pa_nil))))) (pw_or1 (pt_cmpR op_ne (pe_callB call_lenT (by rfl) B.len PySem.boot_len (pa_cons (pv 1) pa_nil)) (pe_callB call_lenT (by rfl) B.len PySem.boot_len (pa_cons (pv 2) pa_nil)) (nomark _)))))
        (pss_one ps_never) pss_nil)
      (pss_one (ps_for PassesOwn.never rfl (pi_enumT (by rfl) B.enum (pa_cons (pv 1) pa_nil)) (pg_tupT (n := 2) rfl (pgs_cons (pg_name (i := 4) sc_check_rules.nd rfl (by first | exact Or.inl rfl | exact Or.inr rfl)) (pgs_cons (pg_name (i := 5) sc_check_rules.nd rfl (by first | exact Or.inl rfl | exact Or.inr rfl)) pgs_nil)))
        (pss_one (ps_if (pt_not (pt_val (pe_c0 c_is_table (hr.mono (by decide)) (by rfl) (pa_cons (pv 0) (pa_cons (pv 4) (pa_cons (pv 5) pa_nil))))))
          (pss_one ps_never) pss_nil)))))), ?_⟩
    have h6 := ok.few
    have lus : us.length = W.tops.length := by rw [paired_len hus, r0.len]
    refine ⟨_, rfl, a, _, rfl, ha, rfl, _, _, rfl, _, _, rfl, rfl, ?_⟩
    refine ⟨_, rfl, _, _, _, _, true, rfl, .ty "tuple", isi_tup hra, kit_ty (by decide +kernel), _, rfl, iteF ?_⟩
    refine ⟨_, rfl, ra, _, rfl, .inr hra, _, rfl, tt, _, rfl, .inr ht, rfl, _, rfl, ?_⟩
    have en : (!decide (V.int (us.length : Nat) = V.int ((iv W.tops).length : Nat))) = false := by rw [iv_len, lus, decide_eq_true rfl]; rfl
    rw [en]
    refine iteF ?_
    refine ⟨_, rfl, ra, us, rfl, hra, for_walk (walk_enumT (a := ra) (xs := us)) (fun i σ H' => ∃ (o4 o5 : Option V), σ = [some (.ref a), some (.ref ra), some (.ref tt), some l, o4, o5] ∧ Ext H H')
      ⟨none, none, rfl, Ext.refl _⟩ (fun i σ H' _ ⟨_, _, _, e⟩ => e.tup hra) ?_ ?_⟩
    · rintro i x σ H1 H2 hi ⟨o4, o5, rfl, e1⟩ ⟨T, y, rfl, hT, rfl, hy⟩
      have e2 := e1.trans (Ext.new hT (.tup [.int (i : Nat), y]))
      obtain ⟨tb, htb, hty⟩ := paired_get' (pTI.ext e2 hus) hy
      have gtb : ru.getD i [] = tb := by rw [List.getD_eq_getElem?_getD, htb]; rfl
      have hfew := r0.few tb (List.mem_of_getElem? htb)
      refine ⟨T, _, rfl, upd_same, rfl, _, _, rfl, _, _, rfl, rfl, ?_⟩
      refine ⟨_, rfl, _, rfl, _, rfl, _, _, W, (i : Int), tb, rfl, hW.ext e2, ok, ⟨by omega, by omega⟩, hty, hfew, hTb.ext e2, fun H3 e3 => ⟨_, rfl, ?_⟩⟩
      have hi2 := firstBad_none hb (i : Int) (by omega) (by omega)
      have hi2 : isTable W (i : Int) (ru.getD i []) = true := hi2
      rw [gtb] at hi2
      rw [hi2]
      exact iteF ⟨_, _, rfl, e2.trans e3⟩
    · rintro σ H' ⟨o4, o5, rfl, e⟩
      exact k H' e
theorem ok_check_standing0 {f : Addr} {fd : FuncData} (F : Fun K "check_standing" "check_standing" s_check_standing f fd)
    (c_check_web : Cal P w K mg base CX0 6 "check_web" ["web"] (spCheckWeb Ps)) (c_check_rules : Cal P w K mg base CX0 5 "check_rules" ["web", "rules"] (spCheckRules0 Ps))
    (c_check_state : Cal P w K mg base CX0 4 "check_state" ["web", "state"] (spCheckState Ps)) : FnOk P w K mg base CX0 7 f fd ["web", "rules", "state"] (spCheckStanding Ps) := by
  refine F.ok sc_check_standing (fun vs H Q E h => ?_) (fun cdv A outer s0 H vs Q E hr h => ?_)
  · obtain ⟨v, r, z, W, ru, st, rfl, _⟩ := h
    rfl
  · obtain ⟨v, r, z, W, ru, st, rfl, hW, ok, hru, r0, hb, hs, so, hTb, k⟩ := h
    refine ⟨_, (pss_cons (ps_expr (pe_c0 c_check_web (hr.mono (by decide)) (by rfl) (pa_cons (pv 0) pa_nil)))
      (pss_cons (ps_expr (pe_c0 c_check_rules (hr.mono (by decide)) (by rfl) (pa_cons (pv 0) (pa_cons (pv 1) pa_nil))))
      (pss_one (ps_expr (pe_c0 c_check_state (hr.mono (by decide)) (by rfl) (pa_cons (pv 0) (pa_cons (pv 2) pa_nil))))))), ?_⟩
    refine ⟨_, rfl, _, W, rfl, hW, ok, hTb, fun H1 e1 => ?_⟩
    refine ⟨_, rfl, _, rfl, _, _, W, ru, rfl, hW.ext e1, ok, hru.ext e1, r0, hb, hTb.ext e1, fun H2 e2 => ?_⟩
    have e3 := e1.trans e2
    exact ⟨_, rfl, _, rfl, _, _, W, st, rfl, hW.ext e3, ok, hs.ext e3, so, hTb.ext e3, fun H4 e4 => k H4 (e3.trans e4)⟩
end
end Lk


/-! ## EndK10 -/
set_option Elab.async false
set_option linter.all false
set_option maxRecDepth 100000
set_option maxHeartbeats 4000000
/-! All defs of the heap behind the program's lines, joined to the law. -/
namespace Lk
open PySem PySem.Spec PyProof.Rows L2 Gx
structure Names (K : PySem.W.Frag) : Prop where
  n_isi : PySem.W.nsIn K mainGlobals "isinstance" = some none
  n_int : PySem.W.nsIn K mainGlobals "int" = some none
  n_bool : PySem.W.nsIn K mainGlobals "bool" = some none
  n_tuple : PySem.W.nsIn K mainGlobals "tuple" = some none
  n_list : PySem.W.nsIn K mainGlobals "list" = some none
  n_set : PySem.W.nsIn K mainGlobals "set" = some none
  n_len : PySem.W.nsIn K mainGlobals "len" = some none
  n_all : PySem.W.nsIn K mainGlobals "all" = some none
  n_range : PySem.W.nsIn K mainGlobals "range" = some none
  n_sorted : PySem.W.nsIn K mainGlobals "sorted" = some none
  n_enum : PySem.W.nsIn K mainGlobals "enumerate" = some none
  n_zip : PySem.W.nsIn K mainGlobals "zip" = some none
  n_max : PySem.W.nsIn K mainGlobals "max" = some none
  n_str : PySem.W.nsIn K mainGlobals "str" = some none
  n_sup : PySem.W.nsIn K mainGlobals "super" = some none
  n_min : PySem.W.nsIn K mainGlobals "min" = some none
  n_any : PySem.W.nsIn K mainGlobals "any" = some none
  n_sum : PySem.W.nsIn K mainGlobals "sum" = some none
  n_dict : PySem.W.nsIn K mainGlobals "dict" = some none
  n_MOST_FOLK : ∃ t, PySem.W.nsIn K mainGlobals "MOST_FOLK" = some (some (.int 6 t))
  n_MOST_TOP : ∃ t, PySem.W.nsIn K mainGlobals "MOST_TOP" = some (some (.int 3 t))
  n_MOST_LOOKS : ∃ t, PySem.W.nsIn K mainGlobals "MOST_LOOKS" = some (some (.int 14 t))
  n_MOST_LOOKS_OF_ONE : ∃ t, PySem.W.nsIn K mainGlobals "MOST_LOOKS_OF_ONE" = some (some (.int 4 t))
theorem Names.blt {K : PySem.W.Frag} {h : Heap} {mg : Str → Option Value} (N : Names K) (X : K.In h) (G : h.Ns mainGlobals mg) : @Blt mg :=
  ⟨PySem.W.mg_none_of X G N.n_isi, PySem.W.mg_none_of X G N.n_int, PySem.W.mg_none_of X G N.n_bool, PySem.W.mg_none_of X G N.n_tuple, PySem.W.mg_none_of X G N.n_list, PySem.W.mg_none_of X G N.n_set, PySem.W.mg_none_of X G N.n_len, PySem.W.mg_none_of X G N.n_all, PySem.W.mg_none_of X G N.n_range, PySem.W.mg_none_of X G N.n_sorted, PySem.W.mg_none_of X G N.n_enum, PySem.W.mg_none_of X G N.n_zip, PySem.W.mg_none_of X G N.n_max, PySem.W.mg_none_of X G N.n_str, PySem.W.mg_none_of X G N.n_sup⟩
theorem Names.nums {K : PySem.W.Frag} {h : Heap} {mg : Str → Option Value} (N : Names K) (X : K.In h) (G : h.Ns mainGlobals mg) : @Nums mg :=
  ⟨let ⟨t, e⟩ := N.n_MOST_FOLK; ⟨t, PySem.W.mg_of X G e⟩, let ⟨t, e⟩ := N.n_MOST_TOP; ⟨t, PySem.W.mg_of X G e⟩, let ⟨t, e⟩ := N.n_MOST_LOOKS; ⟨t, PySem.W.mg_of X G e⟩, let ⟨t, e⟩ := N.n_MOST_LOOKS_OF_ONE; ⟨t, PySem.W.mg_of X G e⟩⟩
theorem law_mk {l : PySem.W.OpenLaw} {w : World} {K : PySem.W.Frag} {h : Heap} {mg : Str → Option Value} {fa TO__law_refused T0 T1 T2 T3 T4 C_BadState C_BadFolk C_BadNumber C_BadStep CF WBadState0 WBadState1 WBadState2 WBadState3 WBadState4 WBadState5 WBadState6 WBadState7 WBadState8 WBadState9 WBadState10 WBadState11 WBadState12 WBadState13 WBadFolk0 WBadFolk1 WBadFolk2 WBadFolk3 WBadFolk4 WBadFolk5 WBadFolk6 WBadFolk7 WBadFolk8 WBadFolk9 WBadFolk10 WBadFolk11 WBadFolk12 WBadFolk13 WBadNumber0 WBadNumber1 WBadNumber2 WBadNumber3 WBadNumber4 WBadNumber5 WBadNumber6 WBadNumber7 WBadNumber8 WBadNumber9 WBadNumber10 WBadNumber11 WBadNumber12 WBadNumber13 WBadStep0 WBadStep1 WBadStep2 WBadStep3 WBadStep4 WBadStep5 WBadStep6 WBadStep7 WBadStep8 WBadStep9 WBadStep10 WBadStep11 WBadStep12 WBadStep13 : Addr} {q : Program} (X : K.In h) (G : h.Ns mainGlobals mg) (hfa : mg "law" = some (.ref fa)) (TA : TabAll q mg h) (nt : noTbl K = true) (N : Names K)
    (a_BadState : OwnAt K "BadState" C_BadState) (a_BadFolk : OwnAt K "BadFolk" C_BadFolk) (a_BadNumber : OwnAt K "BadNumber" C_BadNumber) (a_BadStep : OwnAt K "BadStep" C_BadStep)(BG : ∃ C, BenchG K mg C)
    (f_BadState : FolkG K CF C_BadState) (e_BadState : ExcC K C_BadState) (xBadState_BadWeb : ErrG K "BadWeb" C_BadState false WBadState11) (xBadState_BadRules : ErrG K "BadRules" C_BadState false WBadState12) (xBadState_TooMany : ErrG K "TooMany" C_BadState false WBadState13) (xBadState_BadState : ErrG K "BadState" C_BadState true WBadState0) (xBadState_BadFolk : ErrG K "BadFolk" C_BadState false WBadState1) (xBadState_BadLot : ErrG K "BadLot" C_BadState false WBadState2) (xBadState_BadRing : ErrG K "BadRing" C_BadState false WBadState3) (xBadState_BadNumber : ErrG K "BadNumber" C_BadState false WBadState4) (xBadState_BadWord : ErrG K "BadWord" C_BadState false WBadState5) (xBadState_HasOdd : ErrG K "HasOdd" C_BadState false WBadState6) (xBadState_HasRing : ErrG K "HasRing" C_BadState false WBadState7) (xBadState_NoEven : ErrG K "NoEven" C_BadState false WBadState8) (xBadState_NoOdd : ErrG K "NoOdd" C_BadState false WBadState9) (xBadState_BadStep : ErrG K "BadStep" C_BadState false WBadState10)
    (f_BadFolk : FolkG K CF C_BadFolk) (e_BadFolk : ExcC K C_BadFolk) (xBadFolk_BadWeb : ErrG K "BadWeb" C_BadFolk false WBadFolk11) (xBadFolk_BadRules : ErrG K "BadRules" C_BadFolk false WBadFolk12) (xBadFolk_TooMany : ErrG K "TooMany" C_BadFolk false WBadFolk13) (xBadFolk_BadState : ErrG K "BadState" C_BadFolk false WBadFolk0) (xBadFolk_BadFolk : ErrG K "BadFolk" C_BadFolk true WBadFolk1) (xBadFolk_BadLot : ErrG K "BadLot" C_BadFolk false WBadFolk2) (xBadFolk_BadRing : ErrG K "BadRing" C_BadFolk false WBadFolk3) (xBadFolk_BadNumber : ErrG K "BadNumber" C_BadFolk false WBadFolk4) (xBadFolk_BadWord : ErrG K "BadWord" C_BadFolk false WBadFolk5) (xBadFolk_HasOdd : ErrG K "HasOdd" C_BadFolk false WBadFolk6) (xBadFolk_HasRing : ErrG K "HasRing" C_BadFolk false WBadFolk7) (xBadFolk_NoEven : ErrG K "NoEven" C_BadFolk false WBadFolk8) (xBadFolk_NoOdd : ErrG K "NoOdd" C_BadFolk false WBadFolk9) (xBadFolk_BadStep : ErrG K "BadStep" C_BadFolk false WBadFolk10)
    (f_BadNumber : FolkG K CF C_BadNumber) (e_BadNumber : ExcC K C_BadNumber) (xBadNumber_BadWeb : ErrG K "BadWeb" C_BadNumber false WBadNumber11) (xBadNumber_BadRules : ErrG K "BadRules" C_BadNumber false WBadNumber12) (xBadNumber_TooMany : ErrG K "TooMany" C_BadNumber false WBadNumber13) (xBadNumber_BadState : ErrG K "BadState" C_BadNumber false WBadNumber0) (xBadNumber_BadFolk : ErrG K "BadFolk" C_BadNumber false WBadNumber1) (xBadNumber_BadLot : ErrG K "BadLot" C_BadNumber false WBadNumber2) (xBadNumber_BadRing : ErrG K "BadRing" C_BadNumber false WBadNumber3) (xBadNumber_BadNumber : ErrG K "BadNumber" C_BadNumber true WBadNumber4) (xBadNumber_BadWord : ErrG K "BadWord" C_BadNumber false WBadNumber5) (xBadNumber_HasOdd : ErrG K "HasOdd" C_BadNumber false WBadNumber6) (xBadNumber_HasRing : ErrG K "HasRing" C_BadNumber false WBadNumber7) (xBadNumber_NoEven : ErrG K "NoEven" C_BadNumber false WBadNumber8) (xBadNumber_NoOdd : ErrG K "NoOdd" C_BadNumber false WBadNumber9) (xBadNumber_BadStep : ErrG K "BadStep" C_BadNumber false WBadNumber10)
    (f_BadStep : FolkG K CF C_BadStep) (e_BadStep : ExcC K C_BadStep) (xBadStep_BadWeb : ErrG K "BadWeb" C_BadStep false WBadStep11) (xBadStep_BadRules : ErrG K "BadRules" C_BadStep false WBadStep12) (xBadStep_TooMany : ErrG K "TooMany" C_BadStep false WBadStep13) (xBadStep_BadState : ErrG K "BadState" C_BadStep false WBadStep0) (xBadStep_BadFolk : ErrG K "BadFolk" C_BadStep false WBadStep1) (xBadStep_BadLot : ErrG K "BadLot" C_BadStep false WBadStep2) (xBadStep_BadRing : ErrG K "BadRing" C_BadStep false WBadStep3) (xBadStep_BadNumber : ErrG K "BadNumber" C_BadStep false WBadStep4) (xBadStep_BadWord : ErrG K "BadWord" C_BadStep false WBadStep5) (xBadStep_HasOdd : ErrG K "HasOdd" C_BadStep false WBadStep6) (xBadStep_HasRing : ErrG K "HasRing" C_BadStep false WBadStep7) (xBadStep_NoEven : ErrG K "NoEven" C_BadStep false WBadStep8) (xBadStep_NoOdd : ErrG K "NoOdd" C_BadStep false WBadStep9) (xBadStep_BadStep : ErrG K "BadStep" C_BadStep true WBadStep10)
    (r_are_tops : ((recsOf q).any fun e => e.name == "are_tops") = true)
    (r_are_looks : ((recsOf q).any fun e => e.name == "are_looks") = true)
    (r_goes_along : ((recsOf q).any fun e => e.name == "goes_along") = true)
    (r_is_table : ((recsOf q).any fun e => e.name == "is_table") = true)
    (r_is_state : ((recsOf q).any fun e => e.name == "is_state") = true)
    (r__law_refused : ((recsOf q).any fun e => e.name == "_law_refused") = true)
    (a_is_whole : FnAt K "is_whole" sIsWhole)
    (a_are_tops : FnTb K "are_tops" s_are_tops T0)
    (a_is_look : FnAt K "is_look" s_is_look)
    (a_are_looks : FnTb K "are_looks" s_are_looks T1)
    (a_wrong_part : FnAt K "wrong_part" s_wrong_part)
    (a_check_web : FnAt K "check_web" s_check_web)
    (a_check_folk : FnAt K "check_folk" s_check_folk)
    (a_looks_of : FnAt K "looks_of" s_looks_of)
    (a_rows_of : FnAt K "rows_of" s_rows_of)
    (a_many_rows : FnAt K "many_rows" s_many_rows)
    (a_ways_of : FnAt K "ways_of" s_ways_of)
    (a_goes_along : FnTb K "goes_along" s_goes_along T2)
    (a_is_table : FnTb K "is_table" s_is_table T3)
    (a_check_rules : FnAt K "check_rules" s_check_rules)
    (a_is_state : FnTb K "is_state" s_is_state T4)
    (a_check_state : FnAt K "check_state" s_check_state)
    (a_check_standing : FnAt K "check_standing" s_check_standing)
    (a_place_seen : FnAt K "place_seen" s_place_seen)
    (a_mood_told : FnAt K "mood_told" s_mood_told)
    (a_state_told : FnAt K "state_told" s_state_told)
    (a_lot_told : FnAt K "lot_told" s_lot_told)
    (a_uneasy_folk : FnAt K "uneasy_folk" s_uneasy_folk)
    (a_settled_states : FnAt K "settled_states" s_settled_states)
    (a_many_apart : FnAt K "many_apart" s_many_apart)
    (a__law_taken : FnAt K "_law_taken" s__law_taken)
    (a__law_web : FnAt K "_law_web" s__law_web)
    (a__law_seen : FnAt K "_law_seen" s__law_seen)
    (a__law_moods : FnAt K "_law_moods" s__law_moods)
    (a__law_pick : FnAt K "_law_pick" s__law_pick)
    (a__law_goes : FnAt K "_law_goes" s__law_goes)
    (a__law_table : FnAt K "_law_table" s__law_table)
    (a__law_rules : FnAt K "_law_rules" s__law_rules)
    (a__law_state : FnAt K "_law_state" s__law_state)
    (a__law_told : FnAt K "_law_told" s__law_told)
    (a__law_behind : FnAt K "_law_behind" s__law_behind)
    (a__law_settled : FnAt K "_law_settled" s__law_settled)
    (a__law_refused : FnTb K "_law_refused" s__law_refused TO__law_refused)
    (a_alike : FnAt K "_law_alike" s__law_alike) (a_refusal : FnAt K "_law_refusal" s__law_refusal) (a_law : FnAt K "law" s_law)
    (e0_TO__law_refused : T0 ≠ TO__law_refused) (e1_TO__law_refused : T1 ≠ TO__law_refused) (e2_TO__law_refused : T2 ≠ TO__law_refused) (e3_TO__law_refused : T3 ≠ TO__law_refused) (e4_TO__law_refused : T4 ≠ TO__law_refused) : LamX.LawAtS l w K CX0 12 63 "script" mg fa h := by
  obtain ⟨C, BG⟩ := BG
  obtain ⟨c0, t0⟩ := a_are_tops.tab X G TA r_are_tops
  obtain ⟨c1, t1⟩ := a_are_looks.tab X G TA r_are_looks
  obtain ⟨c2, t2⟩ := a_goes_along.tab X G TA r_goes_along
  obtain ⟨c3, t3⟩ := a_is_table.tab X G TA r_is_table
  obtain ⟨c4, t4⟩ := a_is_state.tab X G TA r_is_state
  obtain ⟨cO__law_refused, tO__law_refused⟩ := a__law_refused.tab X G TA r__law_refused
  obtain ⟨f, fd, n_law, F⟩ := a_law.ex
  have hm := PySem.W.mg_of X G n_law
  rw [hm] at hfa
  cases hfa
  letI : Own := ⟨fun a => a = TO__law_refused⟩
  have B : Blt mg := N.blt X G
  have M : Nums mg := N.nums X G
  have bmin : mg "min" = none := PySem.W.mg_none_of X G N.n_min
  have bany : mg "any" = none := PySem.W.mg_none_of X G N.n_any
  have bsum : mg "sum" = none := PySem.W.mg_none_of X G N.n_sum
  have bdict : mg "dict" = none := PySem.W.mg_none_of X G N.n_dict
  have O_BadState : Own0 K mg "BadState" C_BadState := a_BadState.own0 X G
  have O_BadFolk : Own0 K mg "BadFolk" C_BadFolk := a_BadFolk.own0 X G
  have O_BadNumber : Own0 K mg "BadNumber" C_BadNumber := a_BadNumber.own0 X G
  have O_BadStep : Own0 K mg "BadStep" C_BadStep := a_BadStep.own0 X G
  have TR_BadState : RefG K mg CF C_BadState (addrOf mg) 0 := refG X G f_BadState e_BadState (by decide) (by
    intro x hx
    simp only [List.mem_cons, List.not_mem_nil, or_false] at hx
    rcases hx with hx | hx | hx
    · rw [hx]; exact ⟨_, xBadState_BadWeb⟩
    · rw [hx]; exact ⟨_, xBadState_BadRules⟩
    · rw [hx]; exact ⟨_, xBadState_TooMany⟩
    ) (by
    intro k hk
    have h11 : k = 0 ∨ k = 1 ∨ k = 2 ∨ k = 3 ∨ k = 4 ∨ k = 5 ∨ k = 6 ∨ k = 7 ∨ k = 8 ∨ k = 9 ∨ k = 10 := by omega
    rcases h11 with e | e | e | e | e | e | e | e | e | e | e
    · subst e; exact ⟨_, xBadState_BadState⟩
    · subst e; exact ⟨_, xBadState_BadFolk⟩
    · subst e; exact ⟨_, xBadState_BadLot⟩
    · subst e; exact ⟨_, xBadState_BadRing⟩
    · subst e; exact ⟨_, xBadState_BadNumber⟩
    · subst e; exact ⟨_, xBadState_BadWord⟩
    · subst e; exact ⟨_, xBadState_HasOdd⟩
    · subst e; exact ⟨_, xBadState_HasRing⟩
    · subst e; exact ⟨_, xBadState_NoEven⟩
    · subst e; exact ⟨_, xBadState_NoOdd⟩
    · subst e; exact ⟨_, xBadState_BadStep⟩
    )
  have TR_BadFolk : RefG K mg CF C_BadFolk (addrOf mg) 1 := refG X G f_BadFolk e_BadFolk (by decide) (by
    intro x hx
    simp only [List.mem_cons, List.not_mem_nil, or_false] at hx
    rcases hx with hx | hx | hx
    · rw [hx]; exact ⟨_, xBadFolk_BadWeb⟩
    · rw [hx]; exact ⟨_, xBadFolk_BadRules⟩
    · rw [hx]; exact ⟨_, xBadFolk_TooMany⟩
    ) (by
    intro k hk
    have h11 : k = 0 ∨ k = 1 ∨ k = 2 ∨ k = 3 ∨ k = 4 ∨ k = 5 ∨ k = 6 ∨ k = 7 ∨ k = 8 ∨ k = 9 ∨ k = 10 := by omega
    rcases h11 with e | e | e | e | e | e | e | e | e | e | e
    · subst e; exact ⟨_, xBadFolk_BadState⟩
    · subst e; exact ⟨_, xBadFolk_BadFolk⟩
    · subst e; exact ⟨_, xBadFolk_BadLot⟩
    · subst e; exact ⟨_, xBadFolk_BadRing⟩
    · subst e; exact ⟨_, xBadFolk_BadNumber⟩
    · subst e; exact ⟨_, xBadFolk_BadWord⟩
    · subst e; exact ⟨_, xBadFolk_HasOdd⟩
    · subst e; exact ⟨_, xBadFolk_HasRing⟩
    · subst e; exact ⟨_, xBadFolk_NoEven⟩
    · subst e; exact ⟨_, xBadFolk_NoOdd⟩
    · subst e; exact ⟨_, xBadFolk_BadStep⟩
    )
  have TR_BadNumber : RefG K mg CF C_BadNumber (addrOf mg) 4 := refG X G f_BadNumber e_BadNumber (by decide) (by
    intro x hx
    simp only [List.mem_cons, List.not_mem_nil, or_false] at hx
    rcases hx with hx | hx | hx
    · rw [hx]; exact ⟨_, xBadNumber_BadWeb⟩
    · rw [hx]; exact ⟨_, xBadNumber_BadRules⟩
    · rw [hx]; exact ⟨_, xBadNumber_TooMany⟩
    ) (by
    intro k hk
    have h11 : k = 0 ∨ k = 1 ∨ k = 2 ∨ k = 3 ∨ k = 4 ∨ k = 5 ∨ k = 6 ∨ k = 7 ∨ k = 8 ∨ k = 9 ∨ k = 10 := by omega
    rcases h11 with e | e | e | e | e | e | e | e | e | e | e
    · subst e; exact ⟨_, xBadNumber_BadState⟩
    · subst e; exact ⟨_, xBadNumber_BadFolk⟩
    · subst e; exact ⟨_, xBadNumber_BadLot⟩
    · subst e; exact ⟨_, xBadNumber_BadRing⟩
    · subst e; exact ⟨_, xBadNumber_BadNumber⟩
    · subst e; exact ⟨_, xBadNumber_BadWord⟩
    · subst e; exact ⟨_, xBadNumber_HasOdd⟩
    · subst e; exact ⟨_, xBadNumber_HasRing⟩
    · subst e; exact ⟨_, xBadNumber_NoEven⟩
    · subst e; exact ⟨_, xBadNumber_NoOdd⟩
    · subst e; exact ⟨_, xBadNumber_BadStep⟩
    )
  have TR_BadStep : RefG K mg CF C_BadStep (addrOf mg) 10 := refG X G f_BadStep e_BadStep (by decide) (by
    intro x hx
    simp only [List.mem_cons, List.not_mem_nil, or_false] at hx
    rcases hx with hx | hx | hx
    · rw [hx]; exact ⟨_, xBadStep_BadWeb⟩
    · rw [hx]; exact ⟨_, xBadStep_BadRules⟩
    · rw [hx]; exact ⟨_, xBadStep_TooMany⟩
    ) (by
    intro k hk
    have h11 : k = 0 ∨ k = 1 ∨ k = 2 ∨ k = 3 ∨ k = 4 ∨ k = 5 ∨ k = 6 ∨ k = 7 ∨ k = 8 ∨ k = 9 ∨ k = 10 := by omega
    rcases h11 with e | e | e | e | e | e | e | e | e | e | e
    · subst e; exact ⟨_, xBadStep_BadState⟩
    · subst e; exact ⟨_, xBadStep_BadFolk⟩
    · subst e; exact ⟨_, xBadStep_BadLot⟩
    · subst e; exact ⟨_, xBadStep_BadRing⟩
    · subst e; exact ⟨_, xBadStep_BadNumber⟩
    · subst e; exact ⟨_, xBadStep_BadWord⟩
    · subst e; exact ⟨_, xBadStep_HasOdd⟩
    · subst e; exact ⟨_, xBadStep_HasRing⟩
    · subst e; exact ⟨_, xBadStep_NoEven⟩
    · subst e; exact ⟨_, xBadStep_NoOdd⟩
    · subst e; exact ⟨_, xBadStep_BadStep⟩
    )
  refine ⟨fd, [(c0, T0), (c1, T1), (c2, T2), (c3, T3), (c4, T4), (cO__law_refused, TO__law_refused)], spLaw K [T0, T1, T2, T3, T4] TO__law_refused, (by
    intro p hp
    simp only [List.mem_cons, List.not_mem_nil, or_false] at hp
    rcases hp with e | e | e | e | e | e
    · rw [e]; exact t0.none
    · rw [e]; exact t1.none
    · rw [e]; exact t2.none
    · rw [e]; exact t3.none
    · rw [e]; exact t4.none
    · rw [e]; exact tO__law_refused.none
    ), (by
    intro p hp
    simp only [List.mem_cons, List.not_mem_nil, or_false] at hp
    rcases hp with e | e | e | e | e | e
    · rw [e]; exact noTbl_at nt X t0.none
    · rw [e]; exact noTbl_at nt X t1.none
    · rw [e]; exact noTbl_at nt X t2.none
    · rw [e]; exact noTbl_at nt X t3.none
    · rw [e]; exact noTbl_at nt X t4.none
    · rw [e]; exact noTbl_at nt X tO__law_refused.none
    ), (by
    intro p hp
    simp only [List.mem_cons, List.not_mem_nil, or_false] at hp
    rcases hp with e | e | e | e | e | e
    · rw [e]; exact t0.hd
    · rw [e]; exact t1.hd
    · rw [e]; exact t2.hd
    · rw [e]; exact t3.hd
    · rw [e]; exact t4.hd
    · rw [e]; exact tO__law_refused.hd
    ), ?_, ?_, ?_⟩
  · obtain ⟨oc, od, kV, doc, pm, an, cdv, ct, osl, e, lk, hcd⟩ := F.ex
    intro s u
    rw [e]
    exact .of_eq rfl
  · intro H a ns hl hb hH hS
    refine ⟨a, ns, rfl, hS, hl, fun p hp => ?_, hH (cO__law_refused, TO__law_refused) (by simp), fun _ => rfl⟩
    simp only [List.mem_cons, List.not_mem_nil, or_false] at hp
    rcases hp with e | e | e | e | e
    · rw [e]; exact ⟨#[], hH (c0, T0) (by simp), trivial⟩
    · rw [e]; exact ⟨#[], hH (c1, T1) (by simp), trivial⟩
    · rw [e]; exact ⟨#[], hH (c2, T2) (by simp), trivial⟩
    · rw [e]; exact ⟨#[], hH (c3, T3) (by simp), trivial⟩
    · rw [e]; exact ⟨#[], hH (c4, T4) (by simp), trivial⟩
  · intro base XB GB tb
    have tb0 := tb (c0, T0) (by simp)
    have tb1 := tb (c1, T1) (by simp)
    have tb2 := tb (c2, T2) (by simp)
    have tb3 := tb (c3, T3) (by simp)
    have tb4 := tb (c4, T4) (by simp)
    have tbO__law_refused := tb (cO__law_refused, TO__law_refused) (by simp)
    generalize hPs : ([T0, T1, T2, T3, T4] : List Addr) = Ps
    have m0 : T0 ∈ Ps := by rw [← hPs]; simp
    have m1 : T1 ∈ Ps := by rw [← hPs]; simp
    have m2 : T2 ∈ Ps := by rw [← hPs]; simp
    have m3 : T3 ∈ Ps := by rw [← hPs]; simp
    have m4 : T4 ∈ Ps := by rw [← hPs]; simp
    clear hPs
    have c_is_whole : Cal l.prog w K mg base CX0 1 "is_whole" ["value", "least", "most"] spIsWhole := a_is_whole.cal X G (fun _ _ _ _ _ _ us hl => match us, hl with | [_, _, _], _ => rfl) fun f fd F => ok_is_whole F B.isi B.int B.bool
    have c_is_wholeD : Cal l.prog w K mg base CX0 1 "is_whole" ["value", "least", "most"] spIsWholeD := a_is_whole.cal X G (fun _ _ _ _ _ _ us hl => match us, hl with | [_, _, _], _ => rfl) fun f fd F => ok_is_wholeD F B
    have c_are_tops : Cal l.prog w K mg base CX0 3 "are_tops" ["value"] (spAreTops Ps) := t0.cal m0 e0_TO__law_refused tb0 (fun _ _ _ _ _ _ us hl => match us, hl with | [_], _ => rfl) fun f fd F => ok_are_tops F B M c_is_whole
    have c_is_look : Cal l.prog w K mg base CX0 2 "is_look" ["value", "many"] spIsLook := a_is_look.cal X G (fun _ _ _ _ _ _ us hl => match us, hl with | [_, _], _ => rfl) fun f fd F => ok_is_look F B c_is_whole
    have c_are_looks : Cal l.prog w K mg base CX0 4 "are_looks" ["value", "many"] (spAreLooks Ps) := t1.cal m1 e1_TO__law_refused tb1 (fun _ _ _ _ _ _ us hl => match us, hl with | [_, _], _ => rfl) fun f fd F => ok_are_looks F B M c_is_look
    have c_wrong_part : Cal l.prog w K mg base CX0 5 "wrong_part" ["web"] (spWrongPart Ps) := a_wrong_part.cal X G (fun _ _ _ _ _ _ us hl => match us, hl with | [_], _ => rfl) fun f fd F => ok_wrong_part F B c_are_tops c_are_looks
    have c_check_web : Cal l.prog w K mg base CX0 6 "check_web" ["web"] (spCheckWeb Ps) := a_check_web.cal X G (fun _ _ _ _ _ _ us hl => match us, hl with | [_], _ => rfl) fun f fd F => ok_check_web F c_wrong_part
    have c_check_folk : Cal l.prog w K mg base CX0 2 "check_folk" ["web", "folk"] spCheckFolk := a_check_folk.cal X G (fun _ _ _ _ _ _ us hl => match us, hl with | [_, _], _ => rfl) fun f fd F => ok_check_folk F B c_is_whole
    have c_check_folkD : Cal l.prog w K mg base (L2.CX l.prog w) 2 "check_folk" ["web", "folk"] (spCheckFolkD C_BadFolk) := a_check_folk.cal X G (fun _ _ _ _ _ _ us hl => match us, hl with | [_, _], _ => rfl) fun f fd F => ok_check_folkD F O_BadFolk B c_is_wholeD
    have c_looks_of : Cal l.prog w K mg base CX0 1 "looks_of" ["web", "folk"] spLooksOf := a_looks_of.cal X G (fun _ _ _ _ _ _ us hl => match us, hl with | [_, _], _ => rfl) fun f fd F => ok_looks_of F
    have c_rows_of : Cal l.prog w K mg base CX0 1 "rows_of" ["tops"] spRowsOf := a_rows_of.cal X G (fun _ _ _ _ _ _ us hl => match us, hl with | [_], _ => rfl) fun f fd F => ok_rows_of F B
    have c_many_rows : Cal l.prog w K mg base CX0 2 "many_rows" ["web", "folk"] spManyRows := a_many_rows.cal X G (fun _ _ _ _ _ _ us hl => match us, hl with | [_, _], _ => rfl) fun f fd F => ok_many_rows F c_looks_of
    have c_ways_of : Cal l.prog w K mg base CX0 2 "ways_of" ["web", "folk"] spWaysOf := a_ways_of.cal X G (fun _ _ _ _ _ _ us hl => match us, hl with | [_, _], _ => rfl) fun f fd F => ok_ways_of F c_looks_of
    have c_goes_along : Cal l.prog w K mg base CX0 2 "goes_along" ["table", "step", "size", "sign"] (spGoesAlong Ps) := t2.cal m2 e2_TO__law_refused tb2 (fun _ _ _ _ _ _ us hl => match us, hl with | [_, _, _, _], _ => rfl) fun f fd F => ok_goes_along F B
    have c_is_table : Cal l.prog w K mg base CX0 4 "is_table" ["web", "folk", "value"] (spIsTable Ps) := t3.cal m3 e3_TO__law_refused tb3 (fun _ _ _ _ _ _ us hl => match us, hl with | [_, _, _], _ => rfl) fun f fd F => ok_is_table F B c_is_whole c_ways_of c_many_rows c_goes_along
    have c_check_rules : Cal l.prog w K mg base CX0 5 "check_rules" ["web", "rules"] (spCheckRules0 Ps) := a_check_rules.cal X G (fun _ _ _ _ _ _ us hl => match us, hl with | [_, _], _ => rfl) fun f fd F => ok_check_rules F B c_is_table
    have c_is_state : Cal l.prog w K mg base CX0 3 "is_state" ["web", "value"] (spIsState Ps) := t4.cal m4 e4_TO__law_refused tb4 (fun _ _ _ _ _ _ us hl => match us, hl with | [_, _], _ => rfl) fun f fd F => ok_is_state F B c_is_whole
    have c_is_stateD : Cal l.prog w K mg base CX0 3 "is_state" ["web", "value"] (spIsStateD Ps) := t4.cal m4 e4_TO__law_refused tb4 (fun _ _ _ _ _ _ us hl => match us, hl with | [_, _], _ => rfl) fun f fd F => ok_is_stateD F B c_is_wholeD
    have c_check_state : Cal l.prog w K mg base CX0 4 "check_state" ["web", "state"] (spCheckState Ps) := a_check_state.cal X G (fun _ _ _ _ _ _ us hl => match us, hl with | [_, _], _ => rfl) fun f fd F => ok_check_state F c_is_state
    have c_check_stateD : Cal l.prog w K mg base (L2.CX l.prog w) 4 "check_state" ["web", "state"] (spCheckStateD Ps C_BadState) := a_check_state.cal X G (fun _ _ _ _ _ _ us hl => match us, hl with | [_, _], _ => rfl) fun f fd F => ok_check_stateD F O_BadState c_is_stateD
    have c_check_standing : Cal l.prog w K mg base CX0 7 "check_standing" ["web", "rules", "state"] (spCheckStanding Ps) := a_check_standing.cal X G (fun _ _ _ _ _ _ us hl => match us, hl with | [_, _, _], _ => rfl) fun f fd F => ok_check_standing0 F c_check_web c_check_rules c_check_state
    have c_place_seen : Cal l.prog w K mg base CX0 2 "place_seen" ["web", "state", "folk"] spPlaceSeen := a_place_seen.cal X G (fun _ _ _ _ _ _ us hl => match us, hl with | [_, _, _], _ => rfl) fun f fd F => ok_place_seen F c_looks_of
    have c_mood_told : Cal l.prog w K mg base CX0 3 "mood_told" ["web", "rules", "state", "folk"] spMoodTold := a_mood_told.cal X G (fun _ _ _ _ _ _ us hl => match us, hl with | [_, _, _, _], _ => rfl) fun f fd F => ok_mood_told F c_place_seen
    have c_state_told : Cal l.prog w K mg base CX0 4 "state_told" ["web", "rules", "state"] spStateTold := a_state_told.cal X G (fun _ _ _ _ _ _ us hl => match us, hl with | [_, _, _], _ => rfl) fun f fd F => ok_state_told F B c_mood_told
    have c_lot_told : Cal l.prog w K mg base CX0 4 "lot_told" ["web", "rules", "state", "lot"] spLotTold := a_lot_told.cal X G (fun _ _ _ _ _ _ us hl => match us, hl with | [_, _, _, _], _ => rfl) fun f fd F => ok_lot_told F B c_mood_told
    have c_uneasy_folk : Cal l.prog w K mg base CX0 4 "uneasy_folk" ["web", "rules", "state"] spUneasy := a_uneasy_folk.cal X G (fun _ _ _ _ _ _ us hl => match us, hl with | [_, _, _], _ => rfl) fun f fd F => ok_uneasy_folk F B c_mood_told
    have c_settled_states : Cal l.prog w K mg base CX0 5 "settled_states" ["web", "rules"] spSettledStates := a_settled_states.cal X G (fun _ _ _ _ _ _ us hl => match us, hl with | [_, _], _ => rfl) fun f fd F => ok_settled_states F B c_rows_of c_state_told
    have c_many_apart : Cal l.prog w K mg base CX0 1 "many_apart" ["state", "other"] spApartN := a_many_apart.cal X G (fun _ _ _ _ _ _ us hl => match us, hl with | [_, _], _ => rfl) fun f fd F => ok_many_apart F B
    have c__law_taken : Cal l.prog w K mg base CX0 1 "_law_taken" ["row", "many"] (spTaken K) := a__law_taken.cal X G (fun _ _ _ _ _ _ us hl => match us, hl with | [_, _], _ => rfl) fun f fd F => ok_taken F B
    have c__law_web : Cal l.prog w K mg base CX0 2 "_law_web" ["row", "folk", "most", "looks"] (spLawWeb K) := a__law_web.cal X G (fun _ _ _ _ _ _ us hl => match us, hl with | [_, _, _, _], _ => rfl) fun f fd F => ok_law_web F B c__law_taken
    have c__law_seen : Cal l.prog w K mg base CX0 1 "_law_seen" ["web", "folk"] spLawSeen := a__law_seen.cal X G (fun _ _ _ _ _ _ us hl => match us, hl with | [_, _], _ => rfl) fun f fd F => ok_law_seen F
    have c__law_moods : Cal l.prog w K mg base CX0 1 "_law_moods" ["tops"] spLawMoods := a__law_moods.cal X G (fun _ _ _ _ _ _ us hl => match us, hl with | [_], _ => rfl) fun f fd F => ok_law_moods F B
    have c__law_pick : Cal l.prog w K mg base CX0 2 "_law_pick" ["row", "things"] (spLawPick K) := a__law_pick.cal X G (fun _ _ _ _ _ _ us hl => match us, hl with | [_, _], _ => rfl) fun f fd F => ok_law_pick F B c__law_taken
    have c__law_goes : Cal l.prog w K mg base CX0 1 "_law_goes" ["signs", "one", "other"] spLawGoes := a__law_goes.cal X G (fun _ _ _ _ _ _ us hl => match us, hl with | [_, _, _], _ => rfl) fun f fd F => ok_law_goes F B
    have c__law_table : Cal l.prog w K mg base CX0 3 "_law_table" ["row", "web", "folk"] (spLawTable K) := a__law_table.cal X G (fun _ _ _ _ _ _ us hl => match us, hl with | [_, _, _], _ => rfl) fun f fd F => ok_law_table F B c__law_taken c__law_seen c__law_moods c__law_pick c__law_goes
    have c__law_rules : Cal l.prog w K mg base CX0 4 "_law_rules" ["row", "web"] (spLawRules K) := a__law_rules.cal X G (fun _ _ _ _ _ _ us hl => match us, hl with | [_, _], _ => rfl) fun f fd F => ok_law_rules F B c__law_table
    have c__law_state : Cal l.prog w K mg base CX0 2 "_law_state" ["row", "web"] (spLawState K) := a__law_state.cal X G (fun _ _ _ _ _ _ us hl => match us, hl with | [_, _], _ => rfl) fun f fd F => ok_law_state F B c__law_taken
    have c__law_told : Cal l.prog w K mg base CX0 2 "_law_told" ["web", "rules", "state", "folk"] spLawTold := a__law_told.cal X G (fun _ _ _ _ _ _ us hl => match us, hl with | [_, _, _, _], _ => rfl) fun f fd F => ok_law_told F B c__law_seen c__law_moods
    have c__law_behind : Cal l.prog w K mg base CX0 3 "_law_behind" ["web", "rules", "state"] spLawBehind := a__law_behind.cal X G (fun _ _ _ _ _ _ us hl => match us, hl with | [_, _, _], _ => rfl) fun f fd F => ok_law_behind F B c__law_told
    have c__law_settled : Cal l.prog w K mg base CX0 4 "_law_settled" ["web", "rules"] spLawSettledN := a__law_settled.cal X G (fun _ _ _ _ _ _ us hl => match us, hl with | [_, _], _ => rfl) fun f fd F => ok_law_settledN F B c__law_moods c__law_behind
    have c_alike0 : Cal l.prog w K mg base CX0 1 "_law_alike" ["found", "due"] spAlike0 := a_alike.cal X G (fun _ _ _ _ _ _ us hl => match us, hl with | [_, _], _ => rfl) fun f fd F => ok_alike0 F B
    have c_alike1 : Cal l.prog w K mg base CX0 2 "_law_alike" ["found", "due"] (spAlikeS spAlike0) := a_alike.cal X G (fun _ _ _ _ _ _ us hl => match us, hl with | [_, _], _ => rfl) fun f fd F => ok_alikeS (fun vs H Q E h => by rcases h.1 with ⟨i, e⟩ | ⟨i, e⟩ <;> (rw [e]; rfl)) F B c_alike0
    have c_alike2 : Cal l.prog w K mg base CX0 3 "_law_alike" ["found", "due"] (spAlikeS (spAlikeS spAlike0)) := a_alike.cal X G (fun _ _ _ _ _ _ us hl => match us, hl with | [_, _], _ => rfl) fun f fd F => ok_alikeS (fun vs H Q E h => by obtain ⟨a, b, k, xs, ys, e, _⟩ := h; rw [e]; rfl) F B c_alike1
    obtain ⟨gR, cdR, GR⟩ := a_refusal.gdef X G (fun _ _ _ _ _ _ us hl => match us, hl with | [_], _ => rfl)
    obtain ⟨fI, fdI, MkB, bB, FI⟩ := BG.init
    have mB := BG.m
    have TBn := BG.t
    have FB : FnOk l.prog w K mg base CX0 8 fI fdI ["self", "web", "rules", "state"] (spBenchInit C Ps) := ok_Bench_init FI TBn c_check_standing
    have p_state : PCal l.prog w K mg base CX0 1 C "state" (spBState C) := BG.state.cal (fun _ _ _ _ _ _ us hl => match us, hl with | [_], _ => rfl) fun f fd F => ok_Bench_state F TBn
    have p_uneasy : PCal l.prog w K mg base CX0 5 C "uneasy" (spBUneasy C) := BG.uneasy.cal (fun _ _ _ _ _ _ us hl => match us, hl with | [_], _ => rfl) fun f fd F => ok_Bench_uneasy F TBn B p_state c_uneasy_folk
    have p_near : PCal l.prog w K mg base CX0 6 C "near" (spBNear C) := BG.near.cal (fun _ _ _ _ _ _ us hl => match us, hl with | [_], _ => rfl) fun f fd F => ok_Bench_near F TBn B bmin p_state c_settled_states c_many_apart
    have m_tick : MCal l.prog w K mg base CX0 5 C "tick" ["self"] (spBTick C) := BG.tick.cal (fun _ _ _ _ _ _ us hl => match us, hl with | [_], _ => rfl) fun f fd F => ok_Bench_tick F TBn p_state c_state_told
    have m_look : MCal l.prog w K mg base (L2.CX l.prog w) 5 C "look" ["self", "folk"] (spBLook C C_BadFolk) := BG.look.cal (fun _ _ _ _ _ _ us hl => match us, hl with | [_, _], _ => rfl) fun f fd F => ok_Bench_look F TBn p_state c_check_folkD c_lot_told
    have m_paint : MCal l.prog w K mg base (L2.CX l.prog w) 3 C "paint" ["self", "folk", "mood"] (spBPaint C C_BadFolk C_BadNumber) := BG.paint.cal (fun _ _ _ _ _ _ us hl => match us, hl with | [_, _, _], _ => rfl) fun f fd F => ok_Bench_paint F TBn O_BadNumber p_state c_check_folkD c_is_wholeD
    have m_back : MCal l.prog w K mg base (L2.CX l.prog w) 1 C "back" ["self"] (spBBack C C_BadStep) := BG.back.cal (fun _ _ _ _ _ _ us hl => match us, hl with | [_], _ => rfl) fun f fd F => ok_Bench_back F TBn B O_BadStep
    have m_apart : MCal l.prog w K mg base (L2.CX l.prog w) 5 C "apart" ["self", "other"] (spBApart C C_BadState Ps) := BG.apart.cal (fun _ _ _ _ _ _ us hl => match us, hl with | [_, _], _ => rfl) fun f fd F => ok_Bench_apart F TBn p_state c_check_stateD c_many_apart
    have c_alikeU : Cal l.prog w K mg base CX0 2 "_law_alike" ["found", "due"] (spOr (spAlikeS spAlike0) spAlikeN) := a_alike.cal X G (fun _ _ _ _ _ _ us hl => match us, hl with | [_, _], _ => rfl) fun f fd F => fn_or (ok_alikeS (fun vs H Q E h => by rcases h.1 with ⟨i, e⟩ | ⟨i, e⟩ <;> (rw [e]; rfl)) F B c_alike0) (ok_alikeN F B)
    have c__law_refused : Cal l.prog w K mg base CX0 10 "_law_refused" ["bench", "web", "past"] (spLawRefused C Ps TO__law_refused) := tO__law_refused.calL tbO__law_refused (fun _ _ _ _ _ _ us hl => match us, hl with | [_, _, _], _ => rfl) fun f fd F => ok_law_refused F rfl B GR TBn TR_BadState TR_BadFolk TR_BadNumber TR_BadStep m_look m_paint m_apart m_back
    exact ok_law F rfl B bmin TBn MkB FB mB bB c__law_taken c__law_web c__law_rules c__law_state c__law_told c__law_behind c__law_settled c_alike2 c_alikeU c__law_refused m_tick m_look m_paint m_apart m_back p_state p_uneasy p_near
end Lk

/-! ## HeadK10 -/
set_option Elab.async false
open PySem PySem.W PyProof.Rows in
set_option maxRecDepth 100000 in
set_option maxHeartbeats 0 in
theorem PySem.Challenge.cw_likespite_k10_whole_benches_holds : PySem.Challenge.rw_likespite_k10_whole_benches.Holds := by
  w_on; o_law; k_head; (case hw => w_witness2)
  k_fill
  refine Lk.walk_tabs (l := PySem.Challenge.rw_likespite_k10_whole_benches) (k := 12) (x := "script") (by decide +kernel) rfl ⟨rfl, by decide, by decide⟩ (fun w h Y => by first | exact PySem.W.km_in_of Y | exact PySem.W.kIn_of Y) ?F
  case F =>
    intro w mg fa h X G hfa T
    refine' Lk.law_mk X G hfa T ?zNt ?zNm ?zA_BadState ?zA_BadFolk ?zA_BadNumber ?zA_BadStep ?zBG ?zFBadState ?zEBadState ?zXBadState_BadWeb ?zXBadState_BadRules ?zXBadState_TooMany ?zXBadState_BadState ?zXBadState_BadFolk ?zXBadState_BadLot ?zXBadState_BadRing ?zXBadState_BadNumber ?zXBadState_BadWord ?zXBadState_HasOdd ?zXBadState_HasRing ?zXBadState_NoEven ?zXBadState_NoOdd ?zXBadState_BadStep ?zFBadFolk ?zEBadFolk ?zXBadFolk_BadWeb ?zXBadFolk_BadRules ?zXBadFolk_TooMany ?zXBadFolk_BadState ?zXBadFolk_BadFolk ?zXBadFolk_BadLot ?zXBadFolk_BadRing ?zXBadFolk_BadNumber ?zXBadFolk_BadWord ?zXBadFolk_HasOdd ?zXBadFolk_HasRing ?zXBadFolk_NoEven ?zXBadFolk_NoOdd ?zXBadFolk_BadStep ?zFBadNumber ?zEBadNumber ?zXBadNumber_BadWeb ?zXBadNumber_BadRules ?zXBadNumber_TooMany ?zXBadNumber_BadState ?zXBadNumber_BadFolk ?zXBadNumber_BadLot ?zXBadNumber_BadRing ?zXBadNumber_BadNumber ?zXBadNumber_BadWord ?zXBadNumber_HasOdd ?zXBadNumber_HasRing ?zXBadNumber_NoEven ?zXBadNumber_NoOdd ?zXBadNumber_BadStep ?zFBadStep ?zEBadStep ?zXBadStep_BadWeb ?zXBadStep_BadRules ?zXBadStep_TooMany ?zXBadStep_BadState ?zXBadStep_BadFolk ?zXBadStep_BadLot ?zXBadStep_BadRing ?zXBadStep_BadNumber ?zXBadStep_BadWord ?zXBadStep_HasOdd ?zXBadStep_HasRing ?zXBadStep_NoEven ?zXBadStep_NoOdd ?zXBadStep_BadStep (by decide +kernel) (by decide +kernel) (by decide +kernel) (by decide +kernel) (by decide +kernel) (by decide +kernel) ?za_is_whole ?za_are_tops ?za_is_look ?za_are_looks ?za_wrong_part ?za_check_web ?za_check_folk ?za_looks_of ?za_rows_of ?za_many_rows ?za_ways_of ?za_goes_along ?za_is_table ?za_check_rules ?za_is_state ?za_check_state ?za_check_standing ?za_place_seen ?za_mood_told ?za_state_told ?za_lot_told ?za_uneasy_folk ?za_settled_states ?za_many_apart ?za__law_taken ?za__law_web ?za__law_seen ?za__law_moods ?za__law_pick ?za__law_goes ?za__law_table ?za__law_rules ?za__law_state ?za__law_told ?za__law_behind ?za__law_settled ?za__law_refused  ?za_alike ?za_refusal ?za_law ?ze0_TO__law_refused ?ze1_TO__law_refused ?ze2_TO__law_refused ?ze3_TO__law_refused ?ze4_TO__law_refused
    (case zNt => rfl)
    case zNm =>
      refine' Lk.Names.mk ?zn0 ?zn1 ?zn2 ?zn3 ?zn4 ?zn5 ?zn6 ?zn7 ?zn8 ?zn9 ?zn10 ?zn11 ?zn12 ?zn13 ?zn14 ?zn15 ?zn16 ?zn17 ?zn18 (Lk.num_mk ?zm0) (Lk.num_mk ?zm1) (Lk.num_mk ?zm2) (Lk.num_mk ?zm3)
      (case zn0 => k_is)
      (case zn1 => k_is)
      (case zn2 => k_is)
      (case zn3 => k_is)
      (case zn4 => k_is)
      (case zn5 => k_is)
      (case zn6 => k_is)
      (case zn7 => k_is)
      (case zn8 => k_is)
      (case zn9 => k_is)
      (case zn10 => k_is)
      (case zn11 => k_is)
      (case zn12 => k_is)
      (case zn13 => k_is)
      (case zn14 => k_is)
      (case zn15 => k_is)
      (case zn16 => k_is)
      (case zn17 => k_is)
      (case zn18 => k_is)
      (case zm0 => k_is)
      (case zm1 => k_is)
      (case zm2 => k_is)
      (case zm3 => k_is)
    case zBG =>
      refine' Lk.benchG_mk X G ?zn ?zpg ?zhd ?zpo ?zsa ?znW ?znR ?znS ?zmk ?zi ?zfn ?zkC ?zl ?zc ?zk ?zg_tick ?zg_look ?zg_paint ?zg_back ?zg_apart ?zg_state ?zg_uneasy ?zg_near
      (case zn => first | k_is | kx_is | ks_is | k_exc | kit_is | rfl | decide +kernel)
      (case zpg => first | k_is | kx_is | ks_is | k_exc | kit_is | rfl | decide +kernel)
      (case zhd => first | k_is | kx_is | ks_is | k_exc | kit_is | rfl | decide +kernel)
      (case zpo => first | k_is | kx_is | ks_is | k_exc | kit_is | rfl | decide +kernel)
      (case zsa => first | k_is | kx_is | ks_is | k_exc | kit_is | rfl | decide +kernel)
      (case znW => first | k_is | kx_is | ks_is | k_exc | kit_is | rfl | decide +kernel)
      (case znR => first | k_is | kx_is | ks_is | k_exc | kit_is | rfl | decide +kernel)
      (case znS => first | k_is | kx_is | ks_is | k_exc | kit_is | rfl | decide +kernel)
      (case zmk => first | k_is | kx_is | ks_is | k_exc | kit_is | rfl | decide +kernel)
      (case zi => first | k_is | kx_is | ks_is | k_exc | kit_is | rfl | decide +kernel)
      (case zfn => first | k_is | kx_is | ks_is | k_exc | kit_is | rfl | decide +kernel)
      (case zkC => first | k_is | kx_is | ks_is | k_exc | kit_is | rfl | decide +kernel)
      (case zl => first | k_is | kx_is | ks_is | k_exc | kit_is | rfl | decide +kernel)
      (case zc => first | k_is | kx_is | ks_is | k_exc | kit_is | rfl | decide +kernel)
      (case zk => first | k_is | kx_is | ks_is | k_exc | kit_is | rfl | decide +kernel)
      (case zg_tick => refine' Lk.metG_mk ?z1 ?z2 ?z3 ?z4 ?z5; (case z1 => first | k_is | kx_is | ks_is | k_exc | kit_is | rfl | decide +kernel); (case z2 => first | k_is | kx_is | ks_is | k_exc | kit_is | rfl | decide +kernel); (case z3 => first | k_is | kx_is | ks_is | k_exc | kit_is | rfl | decide +kernel); (case z4 => first | k_is | kx_is | ks_is | k_exc | kit_is | rfl | decide +kernel); (case z5 => first | k_is | kx_is | ks_is | k_exc | kit_is | rfl | decide +kernel))
      (case zg_look => refine' Lk.metG_mk ?z1 ?z2 ?z3 ?z4 ?z5; (case z1 => first | k_is | kx_is | ks_is | k_exc | kit_is | rfl | decide +kernel); (case z2 => first | k_is | kx_is | ks_is | k_exc | kit_is | rfl | decide +kernel); (case z3 => first | k_is | kx_is | ks_is | k_exc | kit_is | rfl | decide +kernel); (case z4 => first | k_is | kx_is | ks_is | k_exc | kit_is | rfl | decide +kernel); (case z5 => first | k_is | kx_is | ks_is | k_exc | kit_is | rfl | decide +kernel))
      (case zg_paint => refine' Lk.metG_mk ?z1 ?z2 ?z3 ?z4 ?z5; (case z1 => first | k_is | kx_is | ks_is | k_exc | kit_is | rfl | decide +kernel); (case z2 => first | k_is | kx_is | ks_is | k_exc | kit_is | rfl | decide +kernel); (case z3 => first | k_is | kx_is | ks_is | k_exc | kit_is | rfl | decide +kernel); (case z4 => first | k_is | kx_is | ks_is | k_exc | kit_is | rfl | decide +kernel); (case z5 => first | k_is | kx_is | ks_is | k_exc | kit_is | rfl | decide +kernel))
      (case zg_back => refine' Lk.metG_mk ?z1 ?z2 ?z3 ?z4 ?z5; (case z1 => first | k_is | kx_is | ks_is | k_exc | kit_is | rfl | decide +kernel); (case z2 => first | k_is | kx_is | ks_is | k_exc | kit_is | rfl | decide +kernel); (case z3 => first | k_is | kx_is | ks_is | k_exc | kit_is | rfl | decide +kernel); (case z4 => first | k_is | kx_is | ks_is | k_exc | kit_is | rfl | decide +kernel); (case z5 => first | k_is | kx_is | ks_is | k_exc | kit_is | rfl | decide +kernel))
      (case zg_apart => refine' Lk.metG_mk ?z1 ?z2 ?z3 ?z4 ?z5; (case z1 => first | k_is | kx_is | ks_is | k_exc | kit_is | rfl | decide +kernel); (case z2 => first | k_is | kx_is | ks_is | k_exc | kit_is | rfl | decide +kernel); (case z3 => first | k_is | kx_is | ks_is | k_exc | kit_is | rfl | decide +kernel); (case z4 => first | k_is | kx_is | ks_is | k_exc | kit_is | rfl | decide +kernel); (case z5 => first | k_is | kx_is | ks_is | k_exc | kit_is | rfl | decide +kernel))
      (case zg_state => refine' Lk.prpG_mk ?z1 ?z2 ?z3 ?z4 ?z5 ?z6 ?z7; (case z1 => first | k_is | kx_is | ks_is | k_exc | kit_is | rfl | decide +kernel); (case z2 => first | k_is | kx_is | ks_is | k_exc | kit_is | rfl | decide +kernel); (case z3 => first | k_is | kx_is | ks_is | k_exc | kit_is | rfl | decide +kernel); (case z4 => first | k_is | kx_is | ks_is | k_exc | kit_is | rfl | decide +kernel); (case z5 => first | k_is | kx_is | ks_is | k_exc | kit_is | rfl | decide +kernel); (case z6 => first | k_is | kx_is | ks_is | k_exc | kit_is | rfl | decide +kernel); (case z7 => first | k_is | kx_is | ks_is | k_exc | kit_is | rfl | decide +kernel))
      (case zg_uneasy => refine' Lk.prpG_mk ?z1 ?z2 ?z3 ?z4 ?z5 ?z6 ?z7; (case z1 => first | k_is | kx_is | ks_is | k_exc | kit_is | rfl | decide +kernel); (case z2 => first | k_is | kx_is | ks_is | k_exc | kit_is | rfl | decide +kernel); (case z3 => first | k_is | kx_is | ks_is | k_exc | kit_is | rfl | decide +kernel); (case z4 => first | k_is | kx_is | ks_is | k_exc | kit_is | rfl | decide +kernel); (case z5 => first | k_is | kx_is | ks_is | k_exc | kit_is | rfl | decide +kernel); (case z6 => first | k_is | kx_is | ks_is | k_exc | kit_is | rfl | decide +kernel); (case z7 => first | k_is | kx_is | ks_is | k_exc | kit_is | rfl | decide +kernel))
      (case zg_near => refine' Lk.prpG_mk ?z1 ?z2 ?z3 ?z4 ?z5 ?z6 ?z7; (case z1 => first | k_is | kx_is | ks_is | k_exc | kit_is | rfl | decide +kernel); (case z2 => first | k_is | kx_is | ks_is | k_exc | kit_is | rfl | decide +kernel); (case z3 => first | k_is | kx_is | ks_is | k_exc | kit_is | rfl | decide +kernel); (case z4 => first | k_is | kx_is | ks_is | k_exc | kit_is | rfl | decide +kernel); (case z5 => first | k_is | kx_is | ks_is | k_exc | kit_is | rfl | decide +kernel); (case z6 => first | k_is | kx_is | ks_is | k_exc | kit_is | rfl | decide +kernel); (case z7 => first | k_is | kx_is | ks_is | k_exc | kit_is | rfl | decide +kernel))
    case zA_BadState =>
      refine' Lk.OwnAt.mk ?zgC ?zex ?zkC ?zexC ?ztyC ?zisC ?zsC
      (case zgC => first | k_is | kx_is | ks_is | k_exc | kit_is | rfl | decide +kernel)
      (case zex => first | k_is | kx_is | ks_is | k_exc | kit_is | rfl | decide +kernel)
      (case zkC => first | k_is | kx_is | ks_is | k_exc | kit_is | rfl | decide +kernel)
      (case zexC => first | k_is | kx_is | ks_is | k_exc | kit_is | rfl | decide +kernel)
      (case ztyC => first | k_is | kx_is | ks_is | k_exc | kit_is | rfl | decide +kernel)
      (case zisC => first | k_is | kx_is | ks_is | k_exc | kit_is | rfl | decide +kernel)
      (case zsC => first | k_is | kx_is | ks_is | k_exc | kit_is | rfl | decide +kernel)
    case zA_BadFolk =>
      refine' Lk.OwnAt.mk ?zgC ?zex ?zkC ?zexC ?ztyC ?zisC ?zsC
      (case zgC => first | k_is | kx_is | ks_is | k_exc | kit_is | rfl | decide +kernel)
      (case zex => first | k_is | kx_is | ks_is | k_exc | kit_is | rfl | decide +kernel)
      (case zkC => first | k_is | kx_is | ks_is | k_exc | kit_is | rfl | decide +kernel)
      (case zexC => first | k_is | kx_is | ks_is | k_exc | kit_is | rfl | decide +kernel)
      (case ztyC => first | k_is | kx_is | ks_is | k_exc | kit_is | rfl | decide +kernel)
      (case zisC => first | k_is | kx_is | ks_is | k_exc | kit_is | rfl | decide +kernel)
      (case zsC => first | k_is | kx_is | ks_is | k_exc | kit_is | rfl | decide +kernel)
    case zA_BadNumber =>
      refine' Lk.OwnAt.mk ?zgC ?zex ?zkC ?zexC ?ztyC ?zisC ?zsC
      (case zgC => first | k_is | kx_is | ks_is | k_exc | kit_is | rfl | decide +kernel)
      (case zex => first | k_is | kx_is | ks_is | k_exc | kit_is | rfl | decide +kernel)
      (case zkC => first | k_is | kx_is | ks_is | k_exc | kit_is | rfl | decide +kernel)
      (case zexC => first | k_is | kx_is | ks_is | k_exc | kit_is | rfl | decide +kernel)
      (case ztyC => first | k_is | kx_is | ks_is | k_exc | kit_is | rfl | decide +kernel)
      (case zisC => first | k_is | kx_is | ks_is | k_exc | kit_is | rfl | decide +kernel)
      (case zsC => first | k_is | kx_is | ks_is | k_exc | kit_is | rfl | decide +kernel)
    case zA_BadStep =>
      refine' Lk.OwnAt.mk ?zgC ?zex ?zkC ?zexC ?ztyC ?zisC ?zsC
      (case zgC => first | k_is | kx_is | ks_is | k_exc | kit_is | rfl | decide +kernel)
      (case zex => first | k_is | kx_is | ks_is | k_exc | kit_is | rfl | decide +kernel)
      (case zkC => first | k_is | kx_is | ks_is | k_exc | kit_is | rfl | decide +kernel)
      (case zexC => first | k_is | kx_is | ks_is | k_exc | kit_is | rfl | decide +kernel)
      (case ztyC => first | k_is | kx_is | ks_is | k_exc | kit_is | rfl | decide +kernel)
      (case zisC => first | k_is | kx_is | ks_is | k_exc | kit_is | rfl | decide +kernel)
      (case zsC => first | k_is | kx_is | ks_is | k_exc | kit_is | rfl | decide +kernel)
    case zFBadState =>
      refine' Lk.FolkG.mk ?zq1 ?zq2 ?zq3 ?zq4 ?zq5
      (case zq1 => first | k_is | kx_is | ks_is | k_exc | kit_is | rfl | decide +kernel)
      (case zq2 => first | k_is | kx_is | ks_is | k_exc | kit_is | rfl | decide +kernel)
      (case zq3 => first | k_is | kx_is | ks_is | k_exc | kit_is | rfl | decide +kernel)
      (case zq4 => first | k_is | kx_is | ks_is | k_exc | kit_is | rfl | decide +kernel)
      (case zq5 => first | k_is | kx_is | ks_is | k_exc | kit_is | rfl | decide +kernel)
    case zEBadState =>
      refine' L2.ExcC.mk ?zq1 ?zq2 ?zq3 ?zq4 ?zq5 ?zq6 ?zq7 ?zq8
      (case zq1 => first | k_is | kx_is | ks_is | k_exc | kit_is | rfl | decide +kernel)
      (case zq2 => first | k_is | kx_is | ks_is | k_exc | kit_is | rfl | decide +kernel)
      (case zq3 => first | k_is | kx_is | ks_is | k_exc | kit_is | rfl | decide +kernel)
      (case zq4 => first | k_is | kx_is | ks_is | k_exc | kit_is | rfl | decide +kernel)
      (case zq5 => first | k_is | kx_is | ks_is | k_exc | kit_is | rfl | decide +kernel)
      (case zq6 => first | k_is | kx_is | ks_is | k_exc | kit_is | rfl | decide +kernel)
      (case zq7 => first | k_is | kx_is | ks_is | k_exc | kit_is | rfl | decide +kernel)
      (case zq8 => first | k_is | kx_is | ks_is | k_exc | kit_is | rfl | decide +kernel)
    case zXBadState_BadWeb =>
      refine' Lk.ErrG.mk ?zq1 ?zq2
      (case zq1 => k_is)
      (case zq2 => first | kit_is | k_is | kx_is | ks_is | k_exc | kit_is | rfl | decide +kernel)
    case zXBadState_BadRules =>
      refine' Lk.ErrG.mk ?zq1 ?zq2
      (case zq1 => k_is)
      (case zq2 => first | kit_is | k_is | kx_is | ks_is | k_exc | kit_is | rfl | decide +kernel)
    case zXBadState_TooMany =>
      refine' Lk.ErrG.mk ?zq1 ?zq2
      (case zq1 => k_is)
      (case zq2 => first | kit_is | k_is | kx_is | ks_is | k_exc | kit_is | rfl | decide +kernel)
    case zXBadState_BadState =>
      refine' Lk.ErrG.mk ?zq1 ?zq2
      (case zq1 => k_is)
      (case zq2 => first | kit_is | k_is | kx_is | ks_is | k_exc | kit_is | rfl | decide +kernel)
    case zXBadState_BadFolk =>
      refine' Lk.ErrG.mk ?zq1 ?zq2
      (case zq1 => k_is)
      (case zq2 => first | kit_is | k_is | kx_is | ks_is | k_exc | kit_is | rfl | decide +kernel)
    case zXBadState_BadLot =>
      refine' Lk.ErrG.mk ?zq1 ?zq2
      (case zq1 => k_is)
      (case zq2 => first | kit_is | k_is | kx_is | ks_is | k_exc | kit_is | rfl | decide +kernel)
    case zXBadState_BadRing =>
      refine' Lk.ErrG.mk ?zq1 ?zq2
      (case zq1 => k_is)
      (case zq2 => first | kit_is | k_is | kx_is | ks_is | k_exc | kit_is | rfl | decide +kernel)
    case zXBadState_BadNumber =>
      refine' Lk.ErrG.mk ?zq1 ?zq2
      (case zq1 => k_is)
      (case zq2 => first | kit_is | k_is | kx_is | ks_is | k_exc | kit_is | rfl | decide +kernel)
    case zXBadState_BadWord =>
      refine' Lk.ErrG.mk ?zq1 ?zq2
      (case zq1 => k_is)
      (case zq2 => first | kit_is | k_is | kx_is | ks_is | k_exc | kit_is | rfl | decide +kernel)
    case zXBadState_HasOdd =>
      refine' Lk.ErrG.mk ?zq1 ?zq2
      (case zq1 => k_is)
      (case zq2 => first | kit_is | k_is | kx_is | ks_is | k_exc | kit_is | rfl | decide +kernel)
    case zXBadState_HasRing =>
      refine' Lk.ErrG.mk ?zq1 ?zq2
      (case zq1 => k_is)
      (case zq2 => first | kit_is | k_is | kx_is | ks_is | k_exc | kit_is | rfl | decide +kernel)
    case zXBadState_NoEven =>
      refine' Lk.ErrG.mk ?zq1 ?zq2
      (case zq1 => k_is)
      (case zq2 => first | kit_is | k_is | kx_is | ks_is | k_exc | kit_is | rfl | decide +kernel)
    case zXBadState_NoOdd =>
      refine' Lk.ErrG.mk ?zq1 ?zq2
      (case zq1 => k_is)
      (case zq2 => first | kit_is | k_is | kx_is | ks_is | k_exc | kit_is | rfl | decide +kernel)
    case zXBadState_BadStep =>
      refine' Lk.ErrG.mk ?zq1 ?zq2
      (case zq1 => k_is)
      (case zq2 => first | kit_is | k_is | kx_is | ks_is | k_exc | kit_is | rfl | decide +kernel)
    case zFBadFolk =>
      refine' Lk.FolkG.mk ?zq1 ?zq2 ?zq3 ?zq4 ?zq5
      (case zq1 => first | k_is | kx_is | ks_is | k_exc | kit_is | rfl | decide +kernel)
      (case zq2 => first | k_is | kx_is | ks_is | k_exc | kit_is | rfl | decide +kernel)
      (case zq3 => first | k_is | kx_is | ks_is | k_exc | kit_is | rfl | decide +kernel)
      (case zq4 => first | k_is | kx_is | ks_is | k_exc | kit_is | rfl | decide +kernel)
      (case zq5 => first | k_is | kx_is | ks_is | k_exc | kit_is | rfl | decide +kernel)
    case zEBadFolk =>
      refine' L2.ExcC.mk ?zq1 ?zq2 ?zq3 ?zq4 ?zq5 ?zq6 ?zq7 ?zq8
      (case zq1 => first | k_is | kx_is | ks_is | k_exc | kit_is | rfl | decide +kernel)
      (case zq2 => first | k_is | kx_is | ks_is | k_exc | kit_is | rfl | decide +kernel)
      (case zq3 => first | k_is | kx_is | ks_is | k_exc | kit_is | rfl | decide +kernel)
      (case zq4 => first | k_is | kx_is | ks_is | k_exc | kit_is | rfl | decide +kernel)
      (case zq5 => first | k_is | kx_is | ks_is | k_exc | kit_is | rfl | decide +kernel)
      (case zq6 => first | k_is | kx_is | ks_is | k_exc | kit_is | rfl | decide +kernel)
      (case zq7 => first | k_is | kx_is | ks_is | k_exc | kit_is | rfl | decide +kernel)
      (case zq8 => first | k_is | kx_is | ks_is | k_exc | kit_is | rfl | decide +kernel)
    case zXBadFolk_BadWeb =>
      refine' Lk.ErrG.mk ?zq1 ?zq2
      (case zq1 => k_is)
      (case zq2 => first | kit_is | k_is | kx_is | ks_is | k_exc | kit_is | rfl | decide +kernel)
    case zXBadFolk_BadRules =>
      refine' Lk.ErrG.mk ?zq1 ?zq2
      (case zq1 => k_is)
      (case zq2 => first | kit_is | k_is | kx_is | ks_is | k_exc | kit_is | rfl | decide +kernel)
    case zXBadFolk_TooMany =>
      refine' Lk.ErrG.mk ?zq1 ?zq2
      (case zq1 => k_is)
      (case zq2 => first | kit_is | k_is | kx_is | ks_is | k_exc | kit_is | rfl | decide +kernel)
    case zXBadFolk_BadState =>
      refine' Lk.ErrG.mk ?zq1 ?zq2
      (case zq1 => k_is)
      (case zq2 => first | kit_is | k_is | kx_is | ks_is | k_exc | kit_is | rfl | decide +kernel)
    case zXBadFolk_BadFolk =>
      refine' Lk.ErrG.mk ?zq1 ?zq2
      (case zq1 => k_is)
      (case zq2 => first | kit_is | k_is | kx_is | ks_is | k_exc | kit_is | rfl | decide +kernel)
    case zXBadFolk_BadLot =>
      refine' Lk.ErrG.mk ?zq1 ?zq2
      (case zq1 => k_is)
      (case zq2 => first | kit_is | k_is | kx_is | ks_is | k_exc | kit_is | rfl | decide +kernel)
    case zXBadFolk_BadRing =>
      refine' Lk.ErrG.mk ?zq1 ?zq2
      (case zq1 => k_is)
      (case zq2 => first | kit_is | k_is | kx_is | ks_is | k_exc | kit_is | rfl | decide +kernel)
    case zXBadFolk_BadNumber =>
      refine' Lk.ErrG.mk ?zq1 ?zq2
      (case zq1 => k_is)
      (case zq2 => first | kit_is | k_is | kx_is | ks_is | k_exc | kit_is | rfl | decide +kernel)
    case zXBadFolk_BadWord =>
      refine' Lk.ErrG.mk ?zq1 ?zq2
      (case zq1 => k_is)
      (case zq2 => first | kit_is | k_is | kx_is | ks_is | k_exc | kit_is | rfl | decide +kernel)
    case zXBadFolk_HasOdd =>
      refine' Lk.ErrG.mk ?zq1 ?zq2
      (case zq1 => k_is)
      (case zq2 => first | kit_is | k_is | kx_is | ks_is | k_exc | kit_is | rfl | decide +kernel)
    case zXBadFolk_HasRing =>
      refine' Lk.ErrG.mk ?zq1 ?zq2
      (case zq1 => k_is)
      (case zq2 => first | kit_is | k_is | kx_is | ks_is | k_exc | kit_is | rfl | decide +kernel)
    case zXBadFolk_NoEven =>
      refine' Lk.ErrG.mk ?zq1 ?zq2
      (case zq1 => k_is)
      (case zq2 => first | kit_is | k_is | kx_is | ks_is | k_exc | kit_is | rfl | decide +kernel)
    case zXBadFolk_NoOdd =>
      refine' Lk.ErrG.mk ?zq1 ?zq2
      (case zq1 => k_is)
      (case zq2 => first | kit_is | k_is | kx_is | ks_is | k_exc | kit_is | rfl | decide +kernel)
    case zXBadFolk_BadStep =>
      refine' Lk.ErrG.mk ?zq1 ?zq2
      (case zq1 => k_is)
      (case zq2 => first | kit_is | k_is | kx_is | ks_is | k_exc | kit_is | rfl | decide +kernel)
    case zFBadNumber =>
      refine' Lk.FolkG.mk ?zq1 ?zq2 ?zq3 ?zq4 ?zq5
      (case zq1 => first | k_is | kx_is | ks_is | k_exc | kit_is | rfl | decide +kernel)
      (case zq2 => first | k_is | kx_is | ks_is | k_exc | kit_is | rfl | decide +kernel)
      (case zq3 => first | k_is | kx_is | ks_is | k_exc | kit_is | rfl | decide +kernel)
      (case zq4 => first | k_is | kx_is | ks_is | k_exc | kit_is | rfl | decide +kernel)
      (case zq5 => first | k_is | kx_is | ks_is | k_exc | kit_is | rfl | decide +kernel)
    case zEBadNumber =>
      refine' L2.ExcC.mk ?zq1 ?zq2 ?zq3 ?zq4 ?zq5 ?zq6 ?zq7 ?zq8
      (case zq1 => first | k_is | kx_is | ks_is | k_exc | kit_is | rfl | decide +kernel)
      (case zq2 => first | k_is | kx_is | ks_is | k_exc | kit_is | rfl | decide +kernel)
      (case zq3 => first | k_is | kx_is | ks_is | k_exc | kit_is | rfl | decide +kernel)
      (case zq4 => first | k_is | kx_is | ks_is | k_exc | kit_is | rfl | decide +kernel)
      (case zq5 => first | k_is | kx_is | ks_is | k_exc | kit_is | rfl | decide +kernel)
      (case zq6 => first | k_is | kx_is | ks_is | k_exc | kit_is | rfl | decide +kernel)
      (case zq7 => first | k_is | kx_is | ks_is | k_exc | kit_is | rfl | decide +kernel)
      (case zq8 => first | k_is | kx_is | ks_is | k_exc | kit_is | rfl | decide +kernel)
    case zXBadNumber_BadWeb =>
      refine' Lk.ErrG.mk ?zq1 ?zq2
      (case zq1 => k_is)
      (case zq2 => first | kit_is | k_is | kx_is | ks_is | k_exc | kit_is | rfl | decide +kernel)
    case zXBadNumber_BadRules =>
      refine' Lk.ErrG.mk ?zq1 ?zq2
      (case zq1 => k_is)
      (case zq2 => first | kit_is | k_is | kx_is | ks_is | k_exc | kit_is | rfl | decide +kernel)
    case zXBadNumber_TooMany =>
      refine' Lk.ErrG.mk ?zq1 ?zq2
      (case zq1 => k_is)
      (case zq2 => first | kit_is | k_is | kx_is | ks_is | k_exc | kit_is | rfl | decide +kernel)
    case zXBadNumber_BadState =>
      refine' Lk.ErrG.mk ?zq1 ?zq2
      (case zq1 => k_is)
      (case zq2 => first | kit_is | k_is | kx_is | ks_is | k_exc | kit_is | rfl | decide +kernel)
    case zXBadNumber_BadFolk =>
      refine' Lk.ErrG.mk ?zq1 ?zq2
      (case zq1 => k_is)
      (case zq2 => first | kit_is | k_is | kx_is | ks_is | k_exc | kit_is | rfl | decide +kernel)
    case zXBadNumber_BadLot =>
      refine' Lk.ErrG.mk ?zq1 ?zq2
      (case zq1 => k_is)
      (case zq2 => first | kit_is | k_is | kx_is | ks_is | k_exc | kit_is | rfl | decide +kernel)
    case zXBadNumber_BadRing =>
      refine' Lk.ErrG.mk ?zq1 ?zq2
      (case zq1 => k_is)
      (case zq2 => first | kit_is | k_is | kx_is | ks_is | k_exc | kit_is | rfl | decide +kernel)
    case zXBadNumber_BadNumber =>
      refine' Lk.ErrG.mk ?zq1 ?zq2
      (case zq1 => k_is)
      (case zq2 => first | kit_is | k_is | kx_is | ks_is | k_exc | kit_is | rfl | decide +kernel)
    case zXBadNumber_BadWord =>
      refine' Lk.ErrG.mk ?zq1 ?zq2
      (case zq1 => k_is)
      (case zq2 => first | kit_is | k_is | kx_is | ks_is | k_exc | kit_is | rfl | decide +kernel)
    case zXBadNumber_HasOdd =>
      refine' Lk.ErrG.mk ?zq1 ?zq2
      (case zq1 => k_is)
      (case zq2 => first | kit_is | k_is | kx_is | ks_is | k_exc | kit_is | rfl | decide +kernel)
    case zXBadNumber_HasRing =>
      refine' Lk.ErrG.mk ?zq1 ?zq2
      (case zq1 => k_is)
      (case zq2 => first | kit_is | k_is | kx_is | ks_is | k_exc | kit_is | rfl | decide +kernel)
    case zXBadNumber_NoEven =>
      refine' Lk.ErrG.mk ?zq1 ?zq2
      (case zq1 => k_is)
      (case zq2 => first | kit_is | k_is | kx_is | ks_is | k_exc | kit_is | rfl | decide +kernel)
    case zXBadNumber_NoOdd =>
      refine' Lk.ErrG.mk ?zq1 ?zq2
      (case zq1 => k_is)
      (case zq2 => first | kit_is | k_is | kx_is | ks_is | k_exc | kit_is | rfl | decide +kernel)
    case zXBadNumber_BadStep =>
      refine' Lk.ErrG.mk ?zq1 ?zq2
      (case zq1 => k_is)
      (case zq2 => first | kit_is | k_is | kx_is | ks_is | k_exc | kit_is | rfl | decide +kernel)
    case zFBadStep =>
      refine' Lk.FolkG.mk ?zq1 ?zq2 ?zq3 ?zq4 ?zq5
      (case zq1 => first | k_is | kx_is | ks_is | k_exc | kit_is | rfl | decide +kernel)
      (case zq2 => first | k_is | kx_is | ks_is | k_exc | kit_is | rfl | decide +kernel)
      (case zq3 => first | k_is | kx_is | ks_is | k_exc | kit_is | rfl | decide +kernel)
      (case zq4 => first | k_is | kx_is | ks_is | k_exc | kit_is | rfl | decide +kernel)
      (case zq5 => first | k_is | kx_is | ks_is | k_exc | kit_is | rfl | decide +kernel)
    case zEBadStep =>
      refine' L2.ExcC.mk ?zq1 ?zq2 ?zq3 ?zq4 ?zq5 ?zq6 ?zq7 ?zq8
      (case zq1 => first | k_is | kx_is | ks_is | k_exc | kit_is | rfl | decide +kernel)
      (case zq2 => first | k_is | kx_is | ks_is | k_exc | kit_is | rfl | decide +kernel)
      (case zq3 => first | k_is | kx_is | ks_is | k_exc | kit_is | rfl | decide +kernel)
      (case zq4 => first | k_is | kx_is | ks_is | k_exc | kit_is | rfl | decide +kernel)
      (case zq5 => first | k_is | kx_is | ks_is | k_exc | kit_is | rfl | decide +kernel)
      (case zq6 => first | k_is | kx_is | ks_is | k_exc | kit_is | rfl | decide +kernel)
      (case zq7 => first | k_is | kx_is | ks_is | k_exc | kit_is | rfl | decide +kernel)
      (case zq8 => first | k_is | kx_is | ks_is | k_exc | kit_is | rfl | decide +kernel)
    case zXBadStep_BadWeb =>
      refine' Lk.ErrG.mk ?zq1 ?zq2
      (case zq1 => k_is)
      (case zq2 => first | kit_is | k_is | kx_is | ks_is | k_exc | kit_is | rfl | decide +kernel)
    case zXBadStep_BadRules =>
      refine' Lk.ErrG.mk ?zq1 ?zq2
      (case zq1 => k_is)
      (case zq2 => first | kit_is | k_is | kx_is | ks_is | k_exc | kit_is | rfl | decide +kernel)
    case zXBadStep_TooMany =>
      refine' Lk.ErrG.mk ?zq1 ?zq2
      (case zq1 => k_is)
      (case zq2 => first | kit_is | k_is | kx_is | ks_is | k_exc | kit_is | rfl | decide +kernel)
    case zXBadStep_BadState =>
      refine' Lk.ErrG.mk ?zq1 ?zq2
      (case zq1 => k_is)
      (case zq2 => first | kit_is | k_is | kx_is | ks_is | k_exc | kit_is | rfl | decide +kernel)
    case zXBadStep_BadFolk =>
      refine' Lk.ErrG.mk ?zq1 ?zq2
      (case zq1 => k_is)
      (case zq2 => first | kit_is | k_is | kx_is | ks_is | k_exc | kit_is | rfl | decide +kernel)
    case zXBadStep_BadLot =>
      refine' Lk.ErrG.mk ?zq1 ?zq2
      (case zq1 => k_is)
      (case zq2 => first | kit_is | k_is | kx_is | ks_is | k_exc | kit_is | rfl | decide +kernel)
    case zXBadStep_BadRing =>
      refine' Lk.ErrG.mk ?zq1 ?zq2
      (case zq1 => k_is)
      (case zq2 => first | kit_is | k_is | kx_is | ks_is | k_exc | kit_is | rfl | decide +kernel)
    case zXBadStep_BadNumber =>
      refine' Lk.ErrG.mk ?zq1 ?zq2
      (case zq1 => k_is)
      (case zq2 => first | kit_is | k_is | kx_is | ks_is | k_exc | kit_is | rfl | decide +kernel)
    case zXBadStep_BadWord =>
      refine' Lk.ErrG.mk ?zq1 ?zq2
      (case zq1 => k_is)
      (case zq2 => first | kit_is | k_is | kx_is | ks_is | k_exc | kit_is | rfl | decide +kernel)
    case zXBadStep_HasOdd =>
      refine' Lk.ErrG.mk ?zq1 ?zq2
      (case zq1 => k_is)
      (case zq2 => first | kit_is | k_is | kx_is | ks_is | k_exc | kit_is | rfl | decide +kernel)
    case zXBadStep_HasRing =>
      refine' Lk.ErrG.mk ?zq1 ?zq2
      (case zq1 => k_is)
      (case zq2 => first | kit_is | k_is | kx_is | ks_is | k_exc | kit_is | rfl | decide +kernel)
    case zXBadStep_NoEven =>
      refine' Lk.ErrG.mk ?zq1 ?zq2
      (case zq1 => k_is)
      (case zq2 => first | kit_is | k_is | kx_is | ks_is | k_exc | kit_is | rfl | decide +kernel)
    case zXBadStep_NoOdd =>
      refine' Lk.ErrG.mk ?zq1 ?zq2
      (case zq1 => k_is)
      (case zq2 => first | kit_is | k_is | kx_is | ks_is | k_exc | kit_is | rfl | decide +kernel)
    case zXBadStep_BadStep =>
      refine' Lk.ErrG.mk ?zq1 ?zq2
      (case zq1 => k_is)
      (case zq2 => first | kit_is | k_is | kx_is | ks_is | k_exc | kit_is | rfl | decide +kernel)
    (case za_is_whole => refine' Lk.fnAt ?zn ?zl ?zc ?zk; (case zn => k_is); (case zl => k_is); (case zc => k_is); (case zk => k_is))
    (case za_are_tops => refine' Lk.fnTb ?zn ?zl ?zc ?zk ?zlc ?zl11; (case zn => k_is); (case zl => k_is); (case zc => k_is); (case zk => k_is); (case zlc => first | k_is | kx_is | ks_is | rfl | decide +kernel); (case zl11 => first | rfl | k_is | kx_is | ks_is | decide +kernel))
    (case za_is_look => refine' Lk.fnAt ?zn ?zl ?zc ?zk; (case zn => k_is); (case zl => k_is); (case zc => k_is); (case zk => k_is))
    (case za_are_looks => refine' Lk.fnTb ?zn ?zl ?zc ?zk ?zlc ?zl11; (case zn => k_is); (case zl => k_is); (case zc => k_is); (case zk => k_is); (case zlc => first | k_is | kx_is | ks_is | rfl | decide +kernel); (case zl11 => first | rfl | k_is | kx_is | ks_is | decide +kernel))
    (case za_wrong_part => refine' Lk.fnAt ?zn ?zl ?zc ?zk; (case zn => k_is); (case zl => k_is); (case zc => k_is); (case zk => k_is))
    (case za_check_web => refine' Lk.fnAt ?zn ?zl ?zc ?zk; (case zn => k_is); (case zl => k_is); (case zc => k_is); (case zk => k_is))
    (case za_check_folk => refine' Lk.fnAt ?zn ?zl ?zc ?zk; (case zn => k_is); (case zl => k_is); (case zc => k_is); (case zk => k_is))
    (case za_looks_of => refine' Lk.fnAt ?zn ?zl ?zc ?zk; (case zn => k_is); (case zl => k_is); (case zc => k_is); (case zk => k_is))
    (case za_rows_of => refine' Lk.fnAt ?zn ?zl ?zc ?zk; (case zn => k_is); (case zl => k_is); (case zc => k_is); (case zk => k_is))
    (case za_many_rows => refine' Lk.fnAt ?zn ?zl ?zc ?zk; (case zn => k_is); (case zl => k_is); (case zc => k_is); (case zk => k_is))
    (case za_ways_of => refine' Lk.fnAt ?zn ?zl ?zc ?zk; (case zn => k_is); (case zl => k_is); (case zc => k_is); (case zk => k_is))
    (case za_goes_along => refine' Lk.fnTb ?zn ?zl ?zc ?zk ?zlc ?zl11; (case zn => k_is); (case zl => k_is); (case zc => k_is); (case zk => k_is); (case zlc => first | k_is | kx_is | ks_is | rfl | decide +kernel); (case zl11 => first | rfl | k_is | kx_is | ks_is | decide +kernel))
    (case za_is_table => refine' Lk.fnTb ?zn ?zl ?zc ?zk ?zlc ?zl11; (case zn => k_is); (case zl => k_is); (case zc => k_is); (case zk => k_is); (case zlc => first | k_is | kx_is | ks_is | rfl | decide +kernel); (case zl11 => first | rfl | k_is | kx_is | ks_is | decide +kernel))
    (case za_check_rules => refine' Lk.fnAt ?zn ?zl ?zc ?zk; (case zn => k_is); (case zl => k_is); (case zc => k_is); (case zk => k_is))
    (case za_is_state => refine' Lk.fnTb ?zn ?zl ?zc ?zk ?zlc ?zl11; (case zn => k_is); (case zl => k_is); (case zc => k_is); (case zk => k_is); (case zlc => first | k_is | kx_is | ks_is | rfl | decide +kernel); (case zl11 => first | rfl | k_is | kx_is | ks_is | decide +kernel))
    (case za_check_state => refine' Lk.fnAt ?zn ?zl ?zc ?zk; (case zn => k_is); (case zl => k_is); (case zc => k_is); (case zk => k_is))
    (case za_check_standing => refine' Lk.fnAt ?zn ?zl ?zc ?zk; (case zn => k_is); (case zl => k_is); (case zc => k_is); (case zk => k_is))
    (case za_place_seen => refine' Lk.fnAt ?zn ?zl ?zc ?zk; (case zn => k_is); (case zl => k_is); (case zc => k_is); (case zk => k_is))
    (case za_mood_told => refine' Lk.fnAt ?zn ?zl ?zc ?zk; (case zn => k_is); (case zl => k_is); (case zc => k_is); (case zk => k_is))
    (case za_state_told => refine' Lk.fnAt ?zn ?zl ?zc ?zk; (case zn => k_is); (case zl => k_is); (case zc => k_is); (case zk => k_is))
    (case za_lot_told => refine' Lk.fnAt ?zn ?zl ?zc ?zk; (case zn => k_is); (case zl => k_is); (case zc => k_is); (case zk => k_is))
    (case za_uneasy_folk => refine' Lk.fnAt ?zn ?zl ?zc ?zk; (case zn => k_is); (case zl => k_is); (case zc => k_is); (case zk => k_is))
    (case za_settled_states => refine' Lk.fnAt ?zn ?zl ?zc ?zk; (case zn => k_is); (case zl => k_is); (case zc => k_is); (case zk => k_is))
    (case za_many_apart => refine' Lk.fnAt ?zn ?zl ?zc ?zk; (case zn => k_is); (case zl => k_is); (case zc => k_is); (case zk => k_is))
    (case za__law_taken => refine' Lk.fnAt ?zn ?zl ?zc ?zk; (case zn => k_is); (case zl => k_is); (case zc => k_is); (case zk => k_is))
    (case za__law_web => refine' Lk.fnAt ?zn ?zl ?zc ?zk; (case zn => k_is); (case zl => k_is); (case zc => k_is); (case zk => k_is))
    (case za__law_seen => refine' Lk.fnAt ?zn ?zl ?zc ?zk; (case zn => k_is); (case zl => k_is); (case zc => k_is); (case zk => k_is))
    (case za__law_moods => refine' Lk.fnAt ?zn ?zl ?zc ?zk; (case zn => k_is); (case zl => k_is); (case zc => k_is); (case zk => k_is))
    (case za__law_pick => refine' Lk.fnAt ?zn ?zl ?zc ?zk; (case zn => k_is); (case zl => k_is); (case zc => k_is); (case zk => k_is))
    (case za__law_goes => refine' Lk.fnAt ?zn ?zl ?zc ?zk; (case zn => k_is); (case zl => k_is); (case zc => k_is); (case zk => k_is))
    (case za__law_table => refine' Lk.fnAt ?zn ?zl ?zc ?zk; (case zn => k_is); (case zl => k_is); (case zc => k_is); (case zk => k_is))
    (case za__law_rules => refine' Lk.fnAt ?zn ?zl ?zc ?zk; (case zn => k_is); (case zl => k_is); (case zc => k_is); (case zk => k_is))
    (case za__law_state => refine' Lk.fnAt ?zn ?zl ?zc ?zk; (case zn => k_is); (case zl => k_is); (case zc => k_is); (case zk => k_is))
    (case za__law_told => refine' Lk.fnAt ?zn ?zl ?zc ?zk; (case zn => k_is); (case zl => k_is); (case zc => k_is); (case zk => k_is))
    (case za__law_behind => refine' Lk.fnAt ?zn ?zl ?zc ?zk; (case zn => k_is); (case zl => k_is); (case zc => k_is); (case zk => k_is))
    (case za__law_settled => refine' Lk.fnAt ?zn ?zl ?zc ?zk; (case zn => k_is); (case zl => k_is); (case zc => k_is); (case zk => k_is))
    (case za__law_refused => refine' Lk.fnTb ?zn ?zl ?zc ?zk ?zlc ?zl11; (case zn => k_is); (case zl => k_is); (case zc => k_is); (case zk => k_is); (case zlc => first | k_is | kx_is | ks_is | rfl | decide +kernel); (case zl11 => first | rfl | k_is | kx_is | ks_is | decide +kernel))
    (case za_alike => refine' Lk.fnAt ?zn ?zl ?zc ?zk; (case zn => k_is); (case zl => k_is); (case zc => k_is); (case zk => k_is))
    (case za_refusal => refine' Lk.fnAt ?zn ?zl ?zc ?zk; (case zn => k_is); (case zl => k_is); (case zc => k_is); (case zk => k_is))
    (case za_law => refine' Lk.fnAt ?zn ?zl ?zc ?zk; (case zn => k_is); (case zl => k_is); (case zc => k_is); (case zk => k_is))
    (case ze0_TO__law_refused => decide)
    (case ze1_TO__law_refused => decide)
    (case ze2_TO__law_refused => decide)
    (case ze3_TO__law_refused => decide)
    (case ze4_TO__law_refused => decide)

