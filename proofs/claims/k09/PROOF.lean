import PyProof.Rows.All
import Wide.All
import OpenK.AllK
import Wide.FinOn
import HandS.Base
import HandS.Call
import HandS.List
import HandS.Comp
import HandS.AnyAll
import HandS.GenList
import PyProof.ConsumeS
import HandS.Walk
import HandS.ForMost
import HandS.IsInst
import HandS.Flow
import HandS.Style
import HandS.Zip
import HandS.Conv
import HandS.Deep
import HandS.TupAny
import HandS.DeepEq
import HandS.Wide
import HandS.Small
import HandS.Nested
import PySem.Challenge.RW_likespite_k09_whole_tables
import HandS.TupSets
import HandS.SetFor
import KE.GoesEnum
import KE.GoesNew
import KE.GoesZip
import KE.GoesMore
import HandS.ExcOwn
import HandS.Lambda
import HandS.ExcIs
import HandS.WordsExc
import HandS.ForExc
import HandS.EndTab
import KE.RegKSuper
import KE.KExcLine
import HandS.ExcField
import KE.KSuperObj
import KE.KSuper
import KE.KExcSuper
import HandS.ExcSuper
import KE.SortData
import KE.DataMinKey
import HandS.SortKw
import HandS.FltList
import KE.DataMinMax
import HandS.DictComp
import PyProof.P3In
import HandS.Exc
import HandS.DictTup
/-! ## GenAll -/
set_option Elab.async false
set_option linter.all false
set_option maxRecDepth 100000
set_option maxHeartbeats 2000000
/-! all, any of a generator expression of any form: the walked thing, the target, the tests and the element by the layer's own judgements in the generator's frame. -/
namespace Gx
open PySem PySem.Spec PyProof.Rows L2 GxR GenW

/-- the generator's context, built over the state s4 -/
abbrev Cxg (X : Cx) (A : Around) (s : Shared) (H : Hp) (cenv : Env) (fp : List Addr) : Cx :=
  { X with A := A, s_0 := s, H_0 := H, env := cenv, outer := X.stack, stack := cenv :: X.stack, ex := fp, fn := fun _ => false, pn := [], xe := fun _ _ => False }
/-- its environment -/
abbrev genE (X : Cx) (scope : Scope) (C : Addr) (code : Value) : Env := genEnv scope (cloFrom X.env.cells scope.names []) C code builtinsNs X.env
/-- where the generator's code runs -/
abbrev genA (A : Around) (ge : Expr) (it : Addr) (cenv : Env) : Around := A.in1.in1.over (.compLoop ge 0 (.ref it) .none cenv) []

section
variable {X : Cx} {pins : List (Addr × Obj)} {σ : L2.St} {H : Hp} {s : Shared}
theorem gen_start {A : Around} {scope : Scope} {own : List (Str × Nat)} {fp : List Addr} {code it : Value} {go : Obj} {h' : Heap} {gs' : Array GenState} {tk : Nat} (I : Inv X pins σ H s) (ok : BlkOk X.N X.env.scope scope own) (hcell : ∀ y ∈ scope.names, y.2 ≠ .cell)
    (hN : X.N.Nodup) (hfp : ∀ b ∈ fp, FpOk X pins H b ∧ b < s.heap.objs.size) (hA : A.frames = some (genE X scope s.heap.objs.size code :: X.stack)) (hAh : X.calm = true → A.handled = none)
    (hn : h'.Ns s.heap.objs.size (fun y => if y = ".0" then some it else none)) (hs : Heap.SameBut s.heap.objs.size (s.heap.push { cls := .type "frame", data := .dict #[] }) h') (hg : AllBare gs') (hgo : ∀ v, go.data ≠ .cell v) (hgo2 : (h'.push go).get? h'.objs.size = some go) :
    Inv (Cxg X A s H (genE X scope s.heap.objs.size code) fp) [(h'.objs.size, go)] (wipe σ (own.map (·.2))) H { s with heap := h'.push go, gens := gs', toks := tk } := by
  have hfree : ∀ y ∈ scope.names, y.2 = .free → ∃ c, X.env.cells.lookup y.1 = some c := fun y hy e => by
    rcases ok.free y hy e with k | k
    · exact I.ok.has _ (.inl k)
    · exact I.ok.has _ (.inr k)
  have kp0 : ∀ b o, s.heap.get? b = some o → h'.get? b = some o := fun b o e => hs.extBut b o (Nat.ne_of_lt (Heap.lt_size e)) (Heap.get?_push_of_some _ e)
  have kp : ∀ b o, s.heap.get? b = some o → (h'.push go).get? b = some o := fun b o e => Heap.get?_push_of_some _ (kp0 b o e)
  have hsz : h'.objs.size = s.heap.objs.size + 1 := by rw [hs.1, Heap.size_push]
  generalize hcenv : genE X scope s.heap.objs.size code = cenv at hA ⊢
  have hL : cenv.locals = s.heap.objs.size := by rw [← hcenv]; rfl
  have hF : cenv.frame = some cenv.locals := by rw [← hcenv]; rfl
  have hcl : cenv.cells = cloFrom X.env.cells scope.names [] := by rw [← hcenv]; rfl
  have hsc : cenv.scope = scope := by rw [← hcenv]; rfl
  have cm : ∀ {y c}, (y, c) ∈ cloFrom X.env.cells scope.names [] → X.env.cells.lookup y = some c ∧ c < s.heap.objs.size := fun {y c} hm => by
    rcases cloFrom_mem hm with hm | ⟨h1, rfl⟩
    · cases hm
    · obtain ⟨c, hc⟩ := hfree _ h1 rfl
      rw [hc]
      obtain ⟨w, z⟩ := I.cell _ _ hc
      exact ⟨rfl, z.lt⟩
  have mem : ∀ {y c}, cenv.cells.lookup y = some c → X.env.cells.lookup y = some c ∧ c < s.heap.objs.size := fun {y c} e => by
    rw [hcl] at e
    exact cm (PySem.mem_of_lookup e)
  have look : ∀ {y}, scope.names.lookup y = some .free → ∃ c, cenv.cells.lookup y = some c ∧ X.env.cells.lookup y = some c := fun {y} hl => by
    have hy : (y, NameKind.free) ∈ scope.names := PySem.mem_of_lookup hl
    obtain ⟨c', e'⟩ := mem_lookup (cloFrom_has (cells := X.env.cells) (acc := []) hy)
    rw [← hcl] at e'
    exact ⟨c', e', (mem e').1⟩
  have okB : (Cxg X A s H cenv fp).Ok := by
    refine ⟨I.ok.mod, by show cenv.scope.kind = _; rw [hsc]; exact ok.kind, by show cenv.globals = _; rw [← hcenv]; exact I.ok.glob, by show cenv.builtins = _; rw [← hcenv]; rfl, by show s.heap.objs.size ≤ cenv.locals; rw [hL]; exact Nat.le_refl _,
      fun y z c e1 e2 => I.ok.inj y z c (mem e1).1 (mem e2).1, fun y hy => ?_, (fun y c z e => by cases z), hAh, hA, .inr ⟨rfl, hF⟩, fun b hb => ⟨?_, fun y c e z => ?_⟩, I.bs, Nat.le_trans I.ok.bsz I.sz, fun b o e hb => ?_, fun b hb z => ?_, I.stack, I.stkFree⟩
    · show ∃ c, cenv.cells.lookup y = some c
      have key : ∀ k, cenv.kindOf y = some k → (k = .cell ∨ k = .free) → ∃ c, cenv.cells.lookup y = some c := fun k hk hk' => by
        unfold Env.kindOf at hk
        rw [hsc] at hk
        rcases hk' with rfl | rfl
        · exact absurd rfl (hcell _ (PySem.mem_of_lookup hk))
        · obtain ⟨c, h1, _⟩ := look hk
          exact ⟨c, h1⟩
      rcases hy with hy | hy
      · exact key _ hy (.inl rfl)
      · exact key _ hy (.inr rfl)
    · show b ≠ cenv.locals
      rw [hL]; exact Nat.ne_of_lt (hfp b hb).2
    · exact (hfp b hb).1.2.2.2.2.1 y c (mem e).1 z
    · rcases (hfp b hb).1.2.2.2.1 with z | z
      · exact I.ok.noex b o e z
      · exact absurd (Nat.lt_of_lt_of_le (Heap.lt_size e) (Nat.le_trans I.ok.bsz z)) (Nat.lt_irrefl _)
    · rcases List.mem_cons.mp (I.stkSub b z) with z | z
      · exact (hfp b hb).1.2.1 z
      · exact (hfp b hb).1.2.2.1 z
  refine ⟨okB, rfl, hg, Un.kept kp, ⟨_, (by show Heap.Ns _ cenv.locals _; rw [hL]; exact hn.push _), fun i y av e1 e2 e3 => ?_⟩, fun y c e => ?_, ?_, fun y c e => ?_, fun p hp => ?_, I.hok.kept kp, by rw [wipe_length]; exact I.len⟩
  · obtain ⟨e2, hne⟩ := wipe_some e2
    have hfr : scope.names.lookup y = some .free := by
      have key : ∀ k, cenv.scope.names.lookup y = some k → k = .local ∨ k = .cell ∨ k = .free → scope.names.lookup y = some .free := fun k hk hk' => by
        rw [hsc] at hk
        have no : ¬ (k = .local ∨ k = .cell) := fun hh => by
          rcases ok.own _ (PySem.mem_of_lookup hk) hh with e' | e'
          · obtain ⟨p, hp, hpy⟩ := List.mem_map.mp e'
            have e3 := ok.ix p hp
            have : p.1 = y := hpy
            rw [this] at e3
            exact hne (List.mem_map.mpr ⟨p, hp, nodup_ix hN e3 e1⟩)
          · exact e' (List.mem_of_getElem? e1)
        rcases hk' with rfl | rfl | rfl
        · exact absurd (.inl rfl) no
        · exact absurd (.inr rfl) no
        · exact hk
      have e3 : Vis cenv.scope y := e3
      rcases e3 with e3 | e3 | e3
      · exact key _ e3 (.inl rfl)
      · exact key _ e3 (.inr (.inl rfl))
      · exact key _ e3 (.inr (.inr rfl))
    obtain ⟨m, hn, hl⟩ := I.loc
    have hvis : Vis X.env.scope y := (ok.free _ (PySem.mem_of_lookup hfr) rfl).elim (fun k => .inr (.inl k)) (fun k => .inr (.inr k))
    obtain ⟨w, r, q⟩ := hl i y av e1 e2 hvis
    refine ⟨w, r, .inr ⟨.inr (by show cenv.scope.names.lookup y = _; rw [hsc]; exact hfr), ?_⟩⟩
    obtain ⟨c, h1, h2⟩ := look hfr
    rcases q with ⟨k, _⟩ | ⟨_, c', e', z⟩
    · have k : X.env.scope.names.lookup y = some .local := k
      rcases ok.free _ (PySem.mem_of_lookup hfr) rfl with k' | k' <;> rw [show X.env.scope.names.lookup y = _ from k'] at k <;> cases k
    · rw [h2] at e'; cases e'
      exact ⟨c, h1, z.keeps kp⟩
  · obtain ⟨w, z⟩ := I.cell y c (mem e).1
    exact ⟨w, z.keeps kp⟩
  · show H cenv.locals = none
    rw [hL]; exact I.hok.fresh (Nat.le_refl _)
  · exact I.freeC y c (mem e).1
  · have hp' : p = (h'.objs.size, go) := by
      rcases List.mem_append.mp (show p ∈ ([] : List (Addr × Obj)) ++ [(h'.objs.size, go)] from hp) with z | z
      · cases z
      · exact List.mem_singleton.mp z
    subst hp'
    have big : s.heap.objs.size ≤ h'.objs.size := by omega
    refine ⟨hgo2, I.hok.fresh big, ?_, fun z => ?_, hgo⟩
    · show h'.objs.size ≠ cenv.locals
      rw [hL, hsz]; exact Nat.succ_ne_self _
    · rcases List.mem_cons.mp (I.stkSub _ z) with z | z
      · exact (Nat.ne_of_gt (Nat.lt_of_lt_of_le I.lt big)) z
      · exact I.nofs big z
end

/-- while the generator sleeps -/
structure Asleep (s s' : Shared) : Prop where
  os : s'.os = s.os
  bare : AllBare s'.gens
  keep : ∀ b o, s.heap.get? b = some o → s'.heap.get? b = some o
theorem Inv.slept {X : Cx} {pins : List (Addr × Obj)} {σ : L2.St} {H : Hp} {s s' : Shared} (I : Inv X pins σ H s) (z : Asleep s s') : Inv X pins σ H s' :=
  I.call' (ch := []) z.os (Un.kept z.keep) (I.hok.kept z.keep) z.bare fun b hb => by simp at hb

/-- what a generator is: its context, its iterator, its turns -/
structure GD where
  X : Cx
  a : Addr
  g : Nat
  go : Obj
  fp : List Addr
  it : Addr
  A : Around
  σ : L2.St
  tn : Nat → Heap → Prop
  W : Nat → Nat → Hp → Prop
  Yd : Nat → Nat → V → Hp → Prop
  Qs : Hp → Prop
abbrev GD.pins (D : GD) : List (Addr × Obj) := [(D.a, D.go)]
/-- at rest ahead of turn i -/
structure GD.at (D : GD) (i : Nat) (H : Hp) (s : Shared) : Prop where
  inv : Inv D.X D.pins D.σ H s
  st : D.tn i s.heap
  fpn : ∀ b ∈ D.fp, H b = none
def GD.R (D : GD) : Nat → Shared → Shared → Prop := fun _ _ s => ∃ H, Inv D.X D.pins D.σ H s ∧ (∀ b ∈ D.fp, H b = none) ∧ D.Qs H
def GD.Y (D : GD) : Protocol := fun n _ v s kap =>
  ∃ i m y H, m ≤ n + 1 ∧ D.at (i + 1) H s ∧ RelV y v ∧ D.Yd i m y H ∧ ∀ s'', Asleep s s'' → ∀ m', m' < m → D.W (i + 1) m' H → kap (.send .none) s''
abbrev GD.end (D : GD) : GenEnd := fun n s₀ r s₁ => r = .ok .next ∧ D.R n s₀ s₁
theorem GD.at.slept {D : GD} {i : Nat} {H : Hp} {s s' : Shared} (h : D.at i H s) (hT : ∀ i h h', D.tn i h → (∀ b ∈ D.fp, ∀ o, h.get? b = some o → h'.get? b = some o) → D.tn i h') (z : Asleep s s') : D.at i H s' :=
  ⟨Inv.slept h.inv z, hT _ _ _ h.st fun b _ o e => z.keep b o e, h.fpn⟩
/-- the turns' wish -/
structure GD.Ok (D : GD) (elt tg iter : Expr) (ifs : List Expr) (scope : Scope) (gpos : Pos) (J : It) (g : TG) (tt : TT) (te : TE) (vs : List Nat) : Prop where
  over : D.A.over (.compLoop (.GeneratorExp elt [⟨tg, iter, ifs, 0⟩] scope gpos) 0 (.ref D.it) .none D.X.env) [] = D.X.A
  overS : D.A.over (.compStart (.GeneratorExp elt [⟨tg, iter, ifs, 0⟩] scope gpos) 0 (.ref D.it) .none D.X.env) [] = D.X.A
  xe : D.X.xe = fun _ _ => False
  calm : D.X.calm = true
  co : D.X.env.scope.isCoroutine = false
  ex : D.X.ex = D.fp
  pn : D.X.pn = []
  apin : ∀ b ∈ D.fp, b ≠ D.a
  turn : Turn D.X.prog D.X.w D.X.K tg J D.fp D.it D.tn
  pg : PG D.X tg g
  pt : PTs D.X ifs tt
  pe : PE D.X elt te
  wiped : wipe D.σ vs = D.σ
  step : ∀ i m H, D.W i m H → (J.stop i H ∧ D.Qs H) ∨ (J.go i H ∧ 0 < m ∧ ∃ (Ny : V → Hp → Prop) (Nn : Hp → Prop), (∀ y H', Ny y H' → D.Yd i m y H') ∧ (∀ H', Nn H' → ∃ m', m' < m ∧ D.W (i + 1) m' H') ∧ ∀ x H', J.yld i H x H' → g x D.σ H' fun σ2 H2 => wipe σ2 vs = D.σ ∧ tt σ2 H2 fun b H3 =>
    if b = true then te σ2 H3 Ny else Nn H3)
section
variable {D : GD} {elt tg iter : Expr} {ifs : List Expr} {scope : Scope} {gpos : Pos} {J : It} {g : TG} {tt : TT} {te : TE} {vs : List Nat}
theorem GD.Ok.fpok (o : D.Ok elt tg iter ifs scope gpos J g tt te vs) {σ' : L2.St} {H' : Hp} {s' : Shared} (I : Inv D.X D.pins σ' H' s') (hn : ∀ b ∈ D.fp, H' b = none) : ∀ b ∈ D.fp, FpOk D.X D.pins H' b := fun b hb =>
  ⟨hn b hb, (I.ok.exf b (by rw [o.ex]; exact hb)).1, I.ok.exfs b (by rw [o.ex]; exact hb), .inl (by rw [o.ex]; exact hb), fun x c e => (I.ok.exf b (by rw [o.ex]; exact hb)).2 x c e, fun p hp => by
    rw [o.pn] at hp
    have e : p = (D.a, D.go) := List.mem_singleton.mp hp
    rw [e]
    exact (o.apin b hb).symm⟩
theorem seg_turns (o : D.Ok elt tg iter ifs scope gpos J g tt te vs) : ∀ (m n i : Nat) (s₀ s : Shared) (H : Hp), m ≤ n → D.W i m H → D.at i H s →
    Seg (model D.X.prog D.X.w) D.A D.end D.Y n s₀ (.compLoop (.GeneratorExp elt [⟨tg, iter, ifs, 0⟩] scope gpos) 0 (.ref D.it) .none D.X.env) ((model D.X.prog D.X.w).den (.compLoop (.GeneratorExp elt [⟨tg, iter, ifs, 0⟩] scope gpos) 0 (.ref D.it) .none D.X.env)) [] s := by
  intro m
  induction m using Nat.strongRecOn with
  | ind m ih =>
    intro n i s₀ s H hmn w hat
    show Seg _ D.A _ _ _ s₀ _ ((compTurn (.GeneratorExp elt [⟨tg, iter, ifs, 0⟩] scope gpos) 0 (.ref D.it) .none D.X.env).onRaise (leaving D.X.env)) [] s
    rw [compTurn_gen, Sem.onRaise_eq_wrap]
    refine seg_bind_wrap (wpAny_standAt ?_)
    refine seg_bind_wrap ?_
    rw [o.over]
    rcases o.step i m H w with ⟨stop, qs⟩ | ⟨go, hm0, Ny, Nn, hNy, hNn, step⟩
    · refine thnF (o.turn.done D.X rfl rfl rfl o.calm i D.pins s D.σ H (fun _ _ => False) hat.inv (o.fpok hat.inv hat.fpn) hat.st stop) fun r s1 ⟨hr, I1⟩ => ?_
      subst hr
      exact seg_end (.ok .next) ⟨rfl, H, I1, hat.fpn, qs⟩
    · refine thnF (o.turn.item D.X rfl rfl rfl o.calm i D.pins s D.σ H (fun _ _ => False) hat.inv (o.fpok hat.inv hat.fpn) hat.st go) fun r s1 ⟨u, hr, h1⟩ => ?_
      subst hr
      refine seg_bind_wrap ?_
      rw [o.over]
      refine thnF h1 fun _ s2 ⟨x, H2, I2, r2, y2, st2, n2⟩ => ?_
      have I2' := I2.pinned (o.fpok I2 n2) (o.turn.obj _ _ st2)
      have noX : ∀ {α : Type} {t : Sem α} {Q : α → Shared → Prop} {s'} {E : Value → Shared → Prop}, wpAny (model D.X.prog D.X.w) D.X.A t Q D.X.xe s' → wpAny (model D.X.prog D.X.w) D.X.A t Q E s' := fun {α t Q s' E} h =>
        wpAny_mono h (fun _ _ z => z) fun _ _ z => by rw [o.xe] at z; exact z.elim
      refine seg_bind_wrap ?_
      rw [o.over]
      refine thn (noX (o.pg.run _ s2 _ H2 x u _ I2' r2 (step x H2 y2))) fun _ s3 ⟨σ3, H3, I3, hw3, q3⟩ => ?_
      refine seg_bind_wrap ?_
      rw [o.over]
      refine thn (noX (o.pt.run _ s3 σ3 H3 _ I3 q3)) fun b s4 ⟨H4, I4, q4⟩ => ?_
      have fin : ∀ {s' : Shared} {H' : Hp}, Inv D.X (D.pins ++ pinsAt D.fp s2.heap) σ3 H' s' → D.at (i + 1) H' s' := fun {s' H'} I' => by
        have pin' : ∀ b ∈ D.fp, ∀ ob, s2.heap.get? b = some ob → s'.heap.get? b = some ob ∧ H' b = none := fun b hb ob e =>
          let z := I'.pin (b, ob) (List.mem_append_right _ (List.mem_append_right _ (mem_pinsAt hb e)))
          ⟨z.1, z.2.1⟩
        have hl : D.σ.length = σ3.length := by rw [← hw3, wipe_length]
        refine ⟨(I'.unpinned (pins := D.pins)).weak hl (fun j v e => ?_), o.turn.keep _ _ _ st2 fun b hb ob e => (pin' b hb ob e).1, fun b hb => ?_⟩
        · rw [← hw3] at e
          exact (wipe_some e).1
        · obtain ⟨ob, e, _⟩ := o.turn.obj _ _ st2 b hb
          exact (pin' b hb ob e).2
      cases b with
      | false =>
        simp only [Bool.false_eq_true, if_false] at q4 ⊢
        obtain ⟨m', hm, w'⟩ := hNn _ q4
        have hz := ih m' hm n (i + 1) s₀ s4 H4 (by omega) w' (fin I4)
        exact seg_again rfl hz
      | true =>
        simp only [if_true] at q4 ⊢
        have hy : ∀ v, yieldOut D.X.env v = yieldValue v := fun v => by simp only [yieldOut, o.co, Bool.false_eq_true, if_false]
        simp only [hy]
        rw [Sem.bind_eq_wrap', Sem.bind_eq_wrap', Sem.wrap_wrap, Sem.wrap_wrap]
        refine seg_wrap ?_
        rw [o.over]
        refine thn (noX (o.pe.run _ s4 σ3 H4 _ I4 q4)) fun v s5 ⟨yv, H5, I5, r5, yd⟩ => ?_
        obtain ⟨n, rfl⟩ : ∃ k, n = k + 1 := ⟨n - 1, by omega⟩
        have hfin := fin I5
        refine seg_at (seg_yield rfl rfl rfl ⟨i, m, yv, H5, hmn, hfin, r5, hNy _ _ yd, fun s'' hal m' hm' w' => ?_⟩)
        have hz := ih m' hm' n (i + 1) s'' s'' H5 (by omega) w' (hfin.slept o.turn.keep hal)
        exact seg_again rfl hz
theorem seg_first (o : D.Ok elt tg iter ifs scope gpos J g tt te vs) {m n i : Nat} {s₀ s : Shared} {H : Hp} (hmn : m ≤ n) (w : D.W i m H) (hat : D.at i H s) :
    Seg (model D.X.prog D.X.w) D.A D.end D.Y n s₀ (.compStart (.GeneratorExp elt [⟨tg, iter, ifs, 0⟩] scope gpos) 0 (.ref D.it) .none D.X.env) ((model D.X.prog D.X.w).den (.compStart (.GeneratorExp elt [⟨tg, iter, ifs, 0⟩] scope gpos) 0 (.ref D.it) .none D.X.env)) [] s := by
  have loop := seg_turns o m n i s₀ s H hmn w hat
  show Seg _ D.A _ _ _ s₀ _ ((compStart (.GeneratorExp elt [⟨tg, iter, ifs, 0⟩] scope gpos) 0 (.ref D.it) .none D.X.env).onRaise (leaving D.X.env)) [] s
  have hov := o.overS
  unfold compStart
  rw [Sem.onRaise_eq_wrap]
  show Seg _ D.A _ _ _ s₀ _ ((ask >>= _).wrap _ _ _ _) [] s
  refine seg_bind_wrap (wpAny_askSetting ?_)
  have self : ∀ {Q : Value → Shared → Prop} {E : Value → Shared → Prop}, Q (.ref D.it) s → wpAny (model D.X.prog D.X.w) D.X.A (pyIter (.ref D.it)) Q E s := fun hq => o.turn.self D.X.A i s _ _ hat.st hq
  split
  · exact seg_again rfl loop
  · first
      | exact seg_bind_wrap (wpAny_rule (seg_bind_wrap (wpAny_standAt (seg_bind_wrap (by rw [hov]; exact self (seg_again rfl loop))))))
      | (refine seg_bind_wrap (wpAny_rule ?_); show Seg _ D.A _ _ _ s₀ _ ((standAt iter.pos >>= _).wrap _ _ _ _) [] s; exact seg_bind_wrap (wpAny_standAt (seg_bind_wrap (by rw [hov]; exact self (seg_again rfl loop)))))
/-- ready for a next: at most n items more -/
structure GD.Ready (D : GD) (n i m : Nat) (H : Hp) (s : Shared) : Prop where
  at_ : D.at i H s
  le : m ≤ n
  gs : ∃ gs, s.gens[D.g]? = some gs ∧ ∀ s'', Asleep s s'' → gs.Goes (model D.X.prog D.X.w) D.A D.end D.Y n (.send .none) s''
theorem gen_ready (o : D.Ok elt tg iter ifs scope gpos J g tt te vs) {m n i : Nat} {s : Shared} {H : Hp} (hmn : m ≤ n) (w : D.W i m H) (hat : D.at i H s) (hgs : s.gens[D.g]? = some (.fresh (.compStart (.GeneratorExp elt [⟨tg, iter, ifs, 0⟩] scope gpos) 0 (.ref D.it) .none D.X.env))) : D.Ready n i m H s :=
  ⟨hat, hmn, _, hgs, fun s'' z => ⟨rfl, seg_first o hmn w (hat.slept o.turn.keep z)⟩⟩
theorem allBare_set {s : Shared} {g : Nat} {x : GenState} (h : AllBare s.gens) (hx : x.bare = true) : AllBare (s.setGen g x).gens := allBare_setGen h hx
theorem gen_next (o : D.Ok elt tg iter ifs scope gpos J g tt te vs) {A : Around} (hA : A.in1 = D.A) {n i m : Nat} {s : Shared} {H : Hp} {Q : Option Value → Shared → Prop} {E : Value → Shared → Prop} (hd : A.depth < recursionLimit) (hh : A.handled = none)
    (hgen : ∀ h : Heap, h.get? D.a = some D.go → h.IsGen D.a D.g) (r : D.Ready n i m H s)
    (hS : ∀ s' H', Inv D.X D.pins D.σ H' s' → (∀ b ∈ D.fp, H' b = none) → D.Qs H' → Q none s')
    (hI : ∀ v y i' m' H' s', RelV y v → D.at (i' + 1) H' s' → D.Yd i' m' y H' → (∀ m'', m'' < m' → D.W (i' + 1) m'' H' → 0 < n ∧ D.Ready (n - 1) (i' + 1) m'' H' s') → Q (some v) s') :
    wpAny (model D.X.prog D.X.w) A (pyNext (.ref D.a)) Q E s := by
  obtain ⟨hat, hmn, gs, hgs, hgo⟩ := r
  have hgl : D.g < s.gens.size := (Array.getElem?_eq_some_iff.mp hgs).1
  have pinG : ∀ {σ' H' s'}, Inv D.X D.pins σ' H' s' → s'.heap.get? D.a = some D.go := fun {σ' H' s'} I => (I.pin (D.a, D.go) (List.mem_append_right _ (List.mem_singleton.mpr rfl))).1
  refine wpAny_gsz (n := D.g + 1) hgl (wpAny_pyNext_genexpQ (P := D.R) hh hat.inv.nolimit hd (hgen _ (pinG hat.inv)) hgs (by rw [hA]; exact hgo _ ⟨rfl, allBare_set hat.inv.bare rfl, fun _ _ e => e⟩) (fun v s₁ gs' hb hv => ?_) (fun s₁ hp h' hk => ?_))
  · intro hsz
    obtain ⟨i', m', y, H', hm', hat', ry, yd, kap⟩ := hv
    have hsz1 : D.g < s₁.gens.size := by
      have q : (s₁.setGen D.g gs').gens.size = s₁.gens.size := setGen_size _ _ _
      have hsz' : D.g + 1 ≤ (s₁.setGen D.g gs').gens.size := hsz
      omega
    have z1 : Asleep s₁ (s₁.setGen D.g gs') := ⟨rfl, allBare_set hat'.inv.bare hb, fun _ _ e => e⟩
    refine hI v y i' m' H' _ ry (hat'.slept o.turn.keep z1) yd fun m'' hm'' w'' => ?_
    cases n with
    | zero => exact (kap _ z1 m'' hm'' w'').elim
    | succ n =>
      refine ⟨Nat.succ_pos _, hat'.slept o.turn.keep z1, by simp only [Nat.add_sub_cancel] at hm' ⊢; omega, gs', setGen_at hsz1, fun s'' z => ?_⟩
      have z2 : Asleep s₁ s'' := ⟨z.os, z.bare, fun b ob e => z.keep b ob e⟩
      have := kap s'' z2 m'' hm'' w''
      rw [hA] at this
      exact this
  · intro _
    obtain ⟨H', I', fn', q'⟩ := hp
    exact hS _ H' (Inv.slept I' ⟨rfl, allBare_set (s := s₁) I'.bare rfl, hk⟩) fn' q'
end
end Gx

/-! ## GenAll2 -/
set_option Elab.async false
set_option linter.all false
set_option maxRecDepth 100000
set_option maxHeartbeats 2000000
namespace Gx
open PySem PySem.Spec PyProof.Rows L2 GxR GenW

theorem wipe_in {σ : L2.St} {i : Nat} : ∀ {vs : List Nat}, i ∈ vs → (wipe σ vs)[i]? = if i < σ.length then some none else none
  | v :: vs, h => by
    unfold wipe
    by_cases hv : v = i
    · subst hv
      by_cases hl : v < σ.length
      · rw [List.getElem?_set_self (by rw [wipe_length]; exact hl), if_pos hl]
      · rw [List.getElem?_eq_none (by rw [List.length_set, wipe_length]; omega), if_neg hl]
    · rw [List.getElem?_set_ne hv]
      exact wipe_in ((List.mem_cons.mp h).resolve_left fun e => hv e.symm)
theorem wipe_wipe (σ : L2.St) (vs : List Nat) : wipe (wipe σ vs) vs = wipe σ vs := by
  apply List.ext_getElem?
  intro i
  by_cases h : i ∈ vs
  · rw [wipe_in h, wipe_in h, wipe_length]
  · rw [wipe_out h, wipe_out h]
/-- what all and any wish of an item: want is the truth that ends the walk -/
def YdB (W : Nat → Nat → Hp → Prop) (want : Bool) (Qf : Hp → Prop) : Nat → Nat → V → Hp → Prop := fun i m y H => ∃ c, y = .bl c ∧ if c = want then Qf H else ∃ m', m' < m ∧ W (i + 1) m' H
section
variable {D : GD} {elt tg iter : Expr} {ifs : List Expr} {scope : Scope} {gpos : Pos} {J : It} {g : TG} {tt : TT} {te : TE} {vs : List Nat}
theorem all_loop (o : D.Ok elt tg iter ifs scope gpos J g tt te vs) {A : Around} (hA : A.in1.in1 = D.A) (hd : A.depth < recursionLimit) (hh : A.handled = none) (hgen : ∀ h : Heap, h.get? D.a = some D.go → h.IsGen D.a D.g)
    {Qf : Hp → Prop} (hY : D.Yd = YdB D.W false Qf) {R : Result → Shared → Prop} (hT : ∀ s' H', Inv D.X D.pins D.σ H' s' → (∀ b ∈ D.fp, H' b = none) → D.Qs H' → R (.ok (.ret (.bool true))) s') (hF : ∀ s' H', Inv D.X D.pins D.σ H' s' → (∀ b ∈ D.fp, H' b = none) → Qf H' → R (.ok (.ret (.bool false))) s') :
    ∀ (n i m : Nat) (s : Shared) (H : Hp), D.Ready n i m H s → codeAny (model D.X.prog D.X.w) A (.builtin "all.loop" ⟨[.ref D.a], []⟩) R s := by
  intro n
  induction n with
  | zero =>
    intro i m s H r
    refine codeAny_builtin F.entry_all_loop ?_
    rw [Around.under_plainId F.plain_all_loop _]
    show wpAny _ A.in1 (pyNext (.ref D.a) >>= _) _ _ s
    refine wpAny_bind (gen_next o (A := A.in1) hA hd hh hgen r (fun s' H' I' f' q' => ?_) (fun v y i' m' H' s' ry hat yd rd => ?_))
    · exact wpAny_bind (wpAny_rule (wpAny_pure (hT s' H' I' f' q')))
    · rw [hY] at yd
      obtain ⟨c, rfl, q⟩ := yd
      obtain rfl : v = Value.bool c := ry
      refine wpAny_bind (wpAny_holding (wpAny_truthy_bool ?_))
      refine wpAny_bind (wpAny_letGo ?_)
      cases c with
      | true =>
        rw [if_neg (by decide)] at q
        obtain ⟨m'', hm, w⟩ := q
        exact absurd (rd m'' hm w).1 (Nat.lt_irrefl _)
      | false =>
        simp only [Bool.false_eq_true, if_false]
        exact wpAny_bind (wpAny_rule (wpAny_pure (hF s' H' hat.inv hat.fpn (by simpa using q))))
  | succ n ih =>
    intro i m s H r
    refine codeAny_builtin F.entry_all_loop ?_
    rw [Around.under_plainId F.plain_all_loop _]
    show wpAny _ A.in1 (pyNext (.ref D.a) >>= _) _ _ s
    refine wpAny_bind (gen_next o (A := A.in1) hA hd hh hgen r (fun s' H' I' f' q' => ?_) (fun v y i' m' H' s' ry hat yd rd => ?_))
    · exact wpAny_bind (wpAny_rule (wpAny_pure (hT s' H' I' f' q')))
    · rw [hY] at yd
      obtain ⟨c, rfl, q⟩ := yd
      obtain rfl : v = Value.bool c := ry
      refine wpAny_bind (wpAny_holding (wpAny_truthy_bool ?_))
      refine wpAny_bind (wpAny_letGo ?_)
      cases c with
      | true =>
        rw [if_neg (by decide)] at q
        obtain ⟨m'', hm, w⟩ := q
        simp only [if_true]
        exact wpAny_pure ⟨plainId_quiet F.plain_all_loop _, ih _ _ _ _ (rd m'' hm w).2⟩
      | false =>
        simp only [Bool.false_eq_true, if_false]
        exact wpAny_bind (wpAny_rule (wpAny_pure (hF s' H' hat.inv hat.fpn (by simpa using q))))
theorem any_loop (o : D.Ok elt tg iter ifs scope gpos J g tt te vs) {A : Around} (hA : A.in1.in1 = D.A) (hd : A.depth < recursionLimit) (hh : A.handled = none) (hgen : ∀ h : Heap, h.get? D.a = some D.go → h.IsGen D.a D.g)
    {Qf : Hp → Prop} (hY : D.Yd = YdB D.W true Qf) {R : Result → Shared → Prop} (hT : ∀ s' H', Inv D.X D.pins D.σ H' s' → (∀ b ∈ D.fp, H' b = none) → D.Qs H' → R (.ok (.ret (.bool false))) s') (hF : ∀ s' H', Inv D.X D.pins D.σ H' s' → (∀ b ∈ D.fp, H' b = none) → Qf H' → R (.ok (.ret (.bool true))) s') :
    ∀ (n i m : Nat) (s : Shared) (H : Hp), D.Ready n i m H s → codeAny (model D.X.prog D.X.w) A (.builtin "any.loop" ⟨[.ref D.a], []⟩) R s := by
  intro n
  induction n with
  | zero =>
    intro i m s H r
    refine codeAny_builtin F.entry_any_loop ?_
    rw [Around.under_plainId F.plain_any_loop _]
    show wpAny _ A.in1 (pyNext (.ref D.a) >>= _) _ _ s
    refine wpAny_bind (gen_next o (A := A.in1) hA hd hh hgen r (fun s' H' I' f' q' => ?_) (fun v y i' m' H' s' ry hat yd rd => ?_))
    · exact wpAny_bind (wpAny_rule (wpAny_pure (hT s' H' I' f' q')))
    · rw [hY] at yd
      obtain ⟨c, rfl, q⟩ := yd
      obtain rfl : v = Value.bool c := ry
      refine wpAny_bind (wpAny_holding (wpAny_truthy_bool ?_))
      refine wpAny_bind (wpAny_letGo ?_)
      cases c with
      | false =>
        rw [if_neg (by decide)] at q
        obtain ⟨m'', hm, w⟩ := q
        exact absurd (rd m'' hm w).1 (Nat.lt_irrefl _)
      | true =>
        simp only [if_true]
        exact wpAny_bind (wpAny_rule (wpAny_pure (hF s' H' hat.inv hat.fpn (by simpa using q))))
  | succ n ih =>
    intro i m s H r
    refine codeAny_builtin F.entry_any_loop ?_
    rw [Around.under_plainId F.plain_any_loop _]
    show wpAny _ A.in1 (pyNext (.ref D.a) >>= _) _ _ s
    refine wpAny_bind (gen_next o (A := A.in1) hA hd hh hgen r (fun s' H' I' f' q' => ?_) (fun v y i' m' H' s' ry hat yd rd => ?_))
    · exact wpAny_bind (wpAny_rule (wpAny_pure (hT s' H' I' f' q')))
    · rw [hY] at yd
      obtain ⟨c, rfl, q⟩ := yd
      obtain rfl : v = Value.bool c := ry
      refine wpAny_bind (wpAny_holding (wpAny_truthy_bool ?_))
      refine wpAny_bind (wpAny_letGo ?_)
      cases c with
      | false =>
        rw [if_neg (by decide)] at q
        obtain ⟨m'', hm, w⟩ := q
        simp only [Bool.false_eq_true, if_false]
        exact wpAny_pure ⟨plainId_quiet F.plain_any_loop _, ih _ _ _ _ (rd m'' hm w).2⟩
      | true =>
        simp only [if_true]
        exact wpAny_bind (wpAny_rule (wpAny_pure (hF s' H' hat.inv hat.fpn (by simpa using q))))
end

section
variable {X : Cx} {pins : List (Addr × Obj)} {σ : L2.St} {H : Hp} {s : Shared}
/-- the generator's names, its scope -/
structure GScp (X : Cx) (scope : Scope) (own : List (Str × Nat)) : Prop where
  blk : BlkOk X.N X.env.scope scope own
  cell : ∀ y ∈ scope.names, y.2 ≠ .cell
  dot : scope.names.lookup (".0" : Str) = some NameKind.local
  co : scope.isCoroutine = false
def noCells (sc : Scope) : Bool := sc.names.all fun y => match y.2 with | .cell => false | _ => true
theorem noCells_ok {sc : Scope} (h : noCells sc = true) : ∀ y ∈ sc.names, y.2 ≠ .cell := by
  intro y hy e
  have := List.all_eq_true.mp h y hy
  rw [e] at this
  cases this
/-- a generator expression made: D, its description; what stands behind it -/
theorem gen_made {c P : Addr} {elt tg iter : Expr} {ifs : List Expr} {scope : Scope} {own : List (Str × Nat)} {gpos : Pos} {wi : TI} {g : TG} {tt : TT} {te : TE} {k : Nat} {Q' : Value → Shared → Prop}
    (hr : Room (k + 1) X.A) (hc : X.calm = true) (hN : X.N.Nodup) (TB : TabB X.base X.mg c P) (hcode : X.env.code = .ref c) (hi : PI X tg iter wi) (S : GScp X scope own)
    (hg : ∀ (A : Around) (s : Shared) (H : Hp) (C : Addr) (code : Value) (fp : List Addr), PG (Cxg X A s H (genE X scope C code) fp) tg g) (ht : ∀ (A : Around) (s : Shared) (H : Hp) (C : Addr) (code : Value) (fp : List Addr), Room k A → PTs (Cxg X A s H (genE X scope C code) fp) ifs tt)
    (he : ∀ (A : Around) (s : Shared) (H : Hp) (C : Addr) (code : Value) (fp : List Addr), Room k A → PE (Cxg X A s H (genE X scope C code) fp) elt te) (hs : ∀ v, genFold iter X.env v = pure v) (I : Inv X pins σ H s)
    {Wm : It → Hp → Prop} (h : wi σ H fun J H1 => TabG H1 P ∧ ∀ H2, Tabbed P H1 H2 → Wm J H2)
    (hQ : ∀ (J : It) (H2 : Hp), Wm J H2 → ∃ (W : Nat → Nat → Hp → Prop) (Yd : Nat → Nat → V → Hp → Prop) (Qs : Hp → Prop), (∃ m, W 0 m H2) ∧
      (∀ i m H, W i m H → (J.stop i H ∧ Qs H) ∨ (J.go i H ∧ 0 < m ∧ ∃ (Ny : V → Hp → Prop) (Nn : Hp → Prop), (∀ y H', Ny y H' → Yd i m y H') ∧ (∀ H', Nn H' → ∃ m', m' < m ∧ W (i + 1) m' H') ∧ ∀ x H', J.yld i H x H' → g x (wipe σ (own.map (·.2))) H' fun σ2 H2 => wipe σ2 (own.map (·.2)) = wipe σ (own.map (·.2)) ∧ tt σ2 H2 fun b H3 =>
        if b = true then te σ2 H3 Ny else Nn H3)) ∧
      ∀ (D : GD) (s5 : Shared) (m : Nat), D.Ok elt tg iter ifs scope gpos J g tt te (own.map (·.2)) → D.X.prog = X.prog → D.X.w = X.w → D.A = X.A.in1.in1 → D.W = W → D.Yd = Yd → D.Qs = Qs → (∀ h : Heap, h.get? D.a = some D.go → h.IsGen D.a D.g) → D.Ready m 0 m H2 s5 →
        (∀ s' H', Inv D.X D.pins D.σ H' s' → (∀ b ∈ D.fp, H' b = none) → Inv X pins σ H' s') → Q' (.ref D.a) s5) :
    wpAny (model X.prog X.w) X.A (eval (.GeneratorExp elt [⟨tg, iter, ifs, 0⟩] scope gpos) X.env) Q' X.xe s := by
  have hfree : ∀ y ∈ scope.names, y.2 = .free → ∃ c, X.env.cells.lookup y.1 = some c := fun y hy e => by
    rcases S.blk.free y hy e with k | k
    · exact I.ok.has _ (.inl k)
    · exact I.ok.has _ (.inr k)
  refine wpAny_GeneratorExp_make S.co (closure_ok hfree) S.cell S.dot S.blk.kind hr.depth ?_ hs
  refine thn (hi.run pins s σ H _ I h) fun xv s1 hx => thn hx fun itv s2 h2 => ?_
  obtain ⟨it, fp, tn, J, H2, e, I2, T, st2, f2, ⟨ps, hP, htr⟩, q⟩ := h2
  subst e
  refine ⟨I2.nolimit, ?_⟩
  have hPs : s2.heap.get? P = some { cls := .none, data := .fields ps } := I2.hok P _ hP
  have cd : PySem.W.CodeHd s2.heap c P := TB.code.keeps fun b u e => I2.bk b u e
  have cont : ∀ (code : Value) (h3 : Heap) (tk : Nat) (ps' : Array Value), Heap.ExtBut P s2.heap h3 → h3.get? P = some { cls := .none, data := .fields ps' } → (∃ more, ps' = ps ++ more) → TriplesOk ps'.toList →
      wpAny (model X.prog X.w) X.A (builtinsFor X.env.globals X.env.builtins) (fun bi s₄ => ∀ h', h'.Ns s₄.heap.objs.size (fun y => if y = ".0" then some (.ref it) else none) → Heap.SameBut s₄.heap.objs.size (s₄.heap.push { cls := .type "frame", data := .dict #[] }) h' →
          Q' (.ref h'.objs.size) { s₄ with
            gens := s₄.gens.push (.fresh (.compStart (.GeneratorExp elt [⟨tg, iter, ifs, 0⟩] scope gpos) 0 (.ref it) .none (genEnv scope (cloFrom X.env.cells scope.names []) s₄.heap.objs.size code bi X.env))),
            toks := s₄.toks + 1 + 1 + 1,
            heap := h'.push { cls := .type "generator", data := .fields #[.int s₄.gens.size 0, .str "<genexpr>" (s₄.toks + 1), .str (X.env.qual ++ "<genexpr>") (s₄.toks + 1 + 1)] } }) X.xe { s2 with heap := h3, toks := tk } := by
    intro code h3 tk ps' hx hP3 hmore ht3
    obtain ⟨more, em⟩ := hmore
    obtain ⟨bm, ob, e1, e2, e3, e4, e5, e6, e7, e8⟩ := TB.bm
    refine wpAny_builtinsFor (m := X.mg) (by rw [I2.ok.glob]; exact (I2.mod.glob.keeps I2.bk).extBut hx TB.gP) e1 e2 (hx _ _ e4 (I2.bk _ _ e5)) e6 e7 e8 ?_
    have I4 := inv_tab (more := more) (h' := h3) (g' := s2.gens) (d' := s2.drawn) (t' := tk) I2 hP (fun b u hb e => hx b u hb e) (by rw [← em]; exact hP3) I2.bare
    have TG4 : Tabbed P H2 (upd H2 P (.tbl (ps ++ more))) := ⟨⟨ps ++ more, upd_same, by rw [← em]; exact ht3⟩, fun b hb => upd_ne hb⟩
    have wm := q _ TG4
    generalize hH4 : upd H2 P (.tbl (ps ++ more)) = H4 at I4 TG4 wm
    have fpP : ∀ b ∈ fp, b ≠ P := fun b hb z => by
      have := (f2 b hb).1
      rw [z, hP] at this
      cases this
    have sz : ∀ b ∈ fp, b < h3.objs.size := fun b hb => by
      obtain ⟨o, e, _⟩ := T.obj _ _ st2 b hb
      exact Heap.lt_size (hx b o (fpP b hb) e)
    have f4 : ∀ b ∈ fp, FpOk X pins H4 b ∧ b < h3.objs.size := fun b hb => ⟨⟨by rw [TG4.2 b (fpP b hb)]; exact (f2 b hb).1, (f2 b hb).2⟩, sz b hb⟩
    intro h' hn' hs'
    generalize hs4 : ({ s2 with heap := h3, toks := tk } : Shared) = s4 at I4 hn' hs' ⊢
    have hh3 : s4.heap = h3 := by rw [← hs4]
    have f4' : ∀ b ∈ fp, FpOk X pins H4 b ∧ b < s4.heap.objs.size := by rw [hh3]; exact f4
    generalize hgo : ({ cls := .type "generator", data := .fields #[.int s4.gens.size 0, .str "<genexpr>" (s4.toks + 1), .str (X.env.qual ++ "<genexpr>") (s4.toks + 1 + 1)] } : Obj) = go
    have hgoP : (h'.push go).get? h'.objs.size = some go := by rw [← hgo]; exact Heap.get?_push_size _ rfl
    have hsz : h'.objs.size = s4.heap.objs.size + 1 := by rw [hs'.1, Heap.size_push]
    have hAf : (genA X.A (.GeneratorExp elt [⟨tg, iter, ifs, 0⟩] scope gpos) it (genE X scope s4.heap.objs.size code)).frames = some (genE X scope s4.heap.objs.size code :: X.stack) := by
      show pushEnvs [genE X scope s4.heap.objs.size code] X.A.frames = _
      rw [I4.ok.frames]
      rfl
    have hAr : Room k (genA X.A (.GeneratorExp elt [⟨tg, iter, ifs, 0⟩] scope gpos) it (genE X scope s4.heap.objs.size code)) := by
      refine ⟨hr.hd, ?_, ?_⟩
      · have := hr.dp
        show X.A.depth + 1 + 3 * k + 5 < _
        omega
      · have := hr.un
        show X.A.units + 1 + 1 + 3 + 16 * k + 200 < _
        omega
    have bare5 : AllBare (s4.gens.push (.fresh (.compStart (.GeneratorExp elt [⟨tg, iter, ifs, 0⟩] scope gpos) 0 (.ref it) .none (genE X scope s4.heap.objs.size code)))) := AllBare.push I4.bare rfl
    have I5 := gen_start (A := genA X.A (.GeneratorExp elt [⟨tg, iter, ifs, 0⟩] scope gpos) it (genE X scope s4.heap.objs.size code)) (tk := s4.toks + 1 + 1 + 1) (go := go) I4 S.blk S.cell hN f4' hAf (fun _ => hAr.hd) hn' hs' bare5 (fun v z => by rw [← hgo] at z; cases z) hgoP
    have st5 : tn 0 (h'.push go) := T.keep _ _ _ st2 fun b hb o e => Heap.get?_push_of_some _ (hs'.extBut b o (Nat.ne_of_lt (f4' b hb).2) (Heap.get?_push_of_some _ (by rw [hh3]; exact hx b o (fpP b hb) e)))
    obtain ⟨W, Yd, Qs, ⟨m, w0⟩, step, fin⟩ := hQ J H4 wm
    have o : (GD.mk (Cxg X (genA X.A (.GeneratorExp elt [⟨tg, iter, ifs, 0⟩] scope gpos) it (genE X scope s4.heap.objs.size code)) s4 H4 (genE X scope s4.heap.objs.size code) fp) h'.objs.size s4.gens.size go fp it X.A.in1.in1 (wipe σ (own.map (·.2))) tn W Yd Qs).Ok elt tg iter ifs scope gpos J g tt te (own.map (·.2)) := by
      refine ⟨rfl, rfl, rfl, hc, S.co, rfl, rfl, fun b hb => ?_, T, hg _ _ _ _ _ _, ht _ _ _ _ _ _ hAr, he _ _ _ _ _ _ hAr, ?_, step⟩
      · have := (f4' b hb).2
        show b ≠ h'.objs.size
        rw [hsz]
        exact Nat.ne_of_lt (Nat.lt_succ_of_lt this)
      · exact wipe_wipe σ _
    refine fin _ _ m o rfl rfl rfl rfl rfl rfl (fun h e => ?_) (gen_ready o (Nat.le_refl _) w0 ⟨I5, st5, fun b hb => (f4' b hb).1.1⟩ (Array.getElem?_push_size ..)) fun s' H' I' fn' => ?_
    · rw [← hgo] at e
      exact ⟨_, _, _, e, rfl, rfl, rfl⟩
    · exact I4.call' (ch := fp) I'.os I'.base I'.hok I'.bare fun b hb => ⟨(f4' b hb).1.2.2.2.1, (f4' b hb).1.2.1, (f4' b hb).1.2.2.2.2.1, (f4' b hb).1.2.2.2.2.2⟩
  cases hf : codeAmong gpos ps.toList with
  | none =>
    refine wpAny_genexprCodeX hcode (cd.code hPs htr) (cd.tab hPs) hf fun c' h' tk hx hge hlt hco' _ htab' _ => ?_
    obtain ⟨o1, vs, f1, tf, fl, tg, inF, tx, tt, op, _, _, _, _, _, _, _, _, _, htr', _⟩ := hco'
    exact cont _ h' tk _ hx htab'.2 ⟨_, rfl⟩ htr'
  | some cv =>
    refine wpAny_genexprCode_hit hcode (cd.code hPs htr) hf ?_
    exact cont cv s2.heap s2.toks ps (Heap.ExtBut.refl _ _) hPs ⟨#[], by simp⟩ htr
end
end Gx

/-! ## GenAll3 -/
set_option Elab.async false
set_option linter.all false
set_option maxRecDepth 100000
set_option maxHeartbeats 2000000
namespace Gx
open PySem PySem.Spec PyProof.Rows L2 GxR GenW

/-- all(..) | any(..) of a generator expression: P the def's table of code objects; want: the truth that ends the walk -/
def tQuant (want : Bool) (P : Addr) (wi : TI) (g : TG) (tt : TT) (te : TE) (vs : List Nat) : TE := fun σ H Q => wi σ H fun J H1 => TabG H1 P ∧ ∀ H2, Tabbed P H1 H2 → ∃ W : Nat → Nat → Hp → Prop, (∃ m, W 0 m H2) ∧ ∀ i m H, W i m H →
  (J.stop i H ∧ Q (.bl (!want)) H) ∨ (J.go i H ∧ 0 < m ∧ ∃ Nx : Hp → Prop, (∀ H', Nx H' → ∃ m', m' < m ∧ W (i + 1) m' H') ∧ ∀ x H', J.yld i H x H' → g x (wipe σ vs) H' fun σ2 H3 => wipe σ2 vs = wipe σ vs ∧ tt σ2 H3 fun b H4 =>
    if b = true then te σ2 H4 fun y H5 => ∃ c, y = .bl c ∧ if c = want then Q (.bl want) H5 else Nx H5 else Nx H4)
theorem quant_step {want : Bool} {Q : VK} {J : It} {g : TG} {tt : TT} {te : TE} {vs : List Nat} {σ : L2.St} {W : Nat → Nat → Hp → Prop} (step : ∀ i m H, W i m H →
  (J.stop i H ∧ Q (.bl (!want)) H) ∨ (J.go i H ∧ 0 < m ∧ ∃ Nx : Hp → Prop, (∀ H', Nx H' → ∃ m', m' < m ∧ W (i + 1) m' H') ∧ ∀ x H', J.yld i H x H' → g x (wipe σ vs) H' fun σ2 H3 => wipe σ2 vs = wipe σ vs ∧ tt σ2 H3 fun b H4 =>
    if b = true then te σ2 H4 fun y H5 => ∃ c, y = .bl c ∧ if c = want then Q (.bl want) H5 else Nx H5 else Nx H4)) :
    ∀ i m H, W i m H → (J.stop i H ∧ Q (.bl (!want)) H) ∨ (J.go i H ∧ 0 < m ∧ ∃ (Ny : V → Hp → Prop) (Nn : Hp → Prop), (∀ y H', Ny y H' → YdB W want (Q (.bl want)) i m y H') ∧ (∀ H', Nn H' → ∃ m', m' < m ∧ W (i + 1) m' H') ∧ ∀ x H', J.yld i H x H' → g x (wipe σ vs) H' fun σ2 H2 => wipe σ2 vs = wipe σ vs ∧ tt σ2 H2 fun b H3 =>
        if b = true then te σ2 H3 Ny else Nn H3) := by
  intro i m H w
  rcases step i m H w with h | ⟨h1, h2, Nx, hNx, h3⟩
  · exact .inl h
  · refine .inr ⟨h1, h2, _, Nx, fun y H' hy => ?_, hNx, h3⟩
    obtain ⟨c, rfl, q⟩ := hy
    refine ⟨c, rfl, ?_⟩
    by_cases hc : c = want
    · rw [if_pos hc] at q ⊢; exact q
    · rw [if_neg hc] at q ⊢; exact hNx _ q
theorem boot_all : bootBuiltins "all" = some (.builtin "all") := by decide +kernel
section
variable {X : Cx}
theorem pe_allG {c P : Addr} {elt tg iter : Expr} {ifs : List Expr} {scope : Scope} {own : List (Str × Nat)} {p pos gpos : Pos} {wi : TI} {g : TG} {tt : TT} {te : TE} {k : Nat}
    (hr : Room (k + 1) X.A) (hc : X.calm = true) (hN : X.N.Nodup) (hgl : Gl X "all") (hm : X.mg "all" = none) (TB : TabB X.base X.mg c P) (hcode : X.env.code = .ref c) (hi : PI X tg iter wi) (S : GScp X scope own)
    (hg : ∀ (A : Around) (s : Shared) (H : Hp) (C : Addr) (code : Value) (fp : List Addr), PG (Cxg X A s H (genE X scope C code) fp) tg g) (ht : ∀ (A : Around) (s : Shared) (H : Hp) (C : Addr) (code : Value) (fp : List Addr), Room k A → PTs (Cxg X A s H (genE X scope C code) fp) ifs tt)
    (he : ∀ (A : Around) (s : Shared) (H : Hp) (C : Addr) (code : Value) (fp : List Addr), Room k A → PE (Cxg X A s H (genE X scope C code) fp) elt te) (hs : ∀ v, genFold iter X.env v = pure v := by intro _; rfl)
    (hst : starEach [.GeneratorExp elt [⟨tg, iter, ifs, 0⟩] scope gpos] X.env = (false, eval (.GeneratorExp elt [⟨tg, iter, ifs, 0⟩] scope gpos) X.env) :: starEach [] X.env := by rfl) :
    PE X (.Call (.Name "all" p) [.GeneratorExp elt [⟨tg, iter, ifs, 0⟩] scope gpos] [] pos) (tQuant false P wi g tt te (own.map (·.2))) := by
  refine ⟨fun pins s σ H Q I h => ?_⟩
  refine wpAny_Call_Name_kw (ld_blt I hgl hm boot_all ?_)
  refine PyProof.Rows.callWith_builtin1 ?_ hst (by rfl)
  rw [hst]
  show wpAny _ _ (spliced ((false, eval (.GeneratorExp elt [⟨tg, iter, ifs, 0⟩] scope gpos) X.env) :: backTo pos (starEach [] X.env))) _ _ s
  refine Calls.spliced_cons (gen_made hr hc hN TB hcode hi S hg ht he hs I h fun J H2 hW => ?_)
  obtain ⟨W, w0, step⟩ := hW
  refine ⟨W, YdB W false (Q (.bl false)), fun H' => Q (.bl true) H', w0, quant_step step, fun D s5 m o hp hw hA hWe hY hQ hgen rdy back => ?_⟩
  refine Calls.spliced_nil ?_
  refine call_function_tree F.kind_all F.plain_all F.entry_all (F.args_all1 _) ?_
  unfold Builtin.«all»
  refine wpAny_bind (m := oneArg "all" _) (wpAny_pure ?_)
  have pinG := (rdy.at_.inv.pin (D.a, D.go) (List.mem_append_right _ (List.mem_singleton.mpr rfl))).1
  refine wpAny_bind (wpAny_pyIter_gen (hgen _ pinG) ?_)
  refine wpAny_pure ⟨plainId_quiet F.plain_all_loop _, ?_⟩
  rw [← hp, ← hw]
  subst hWe
  refine all_loop o (A := X.A) hA.symm hr.depth hr.hd hgen hY (fun s' H' I' f' q' => ?_) (fun s' H' I' f' q' => ?_) m 0 m s5 H2 rdy
  · rw [hQ] at q'
    exact ⟨.bl true, H', back s' H' I' f', rfl, q'⟩
  · exact ⟨.bl false, H', back s' H' I' f', rfl, q'⟩
theorem pe_anyG {c P : Addr} {elt tg iter : Expr} {ifs : List Expr} {scope : Scope} {own : List (Str × Nat)} {p pos gpos : Pos} {wi : TI} {g : TG} {tt : TT} {te : TE} {k : Nat}
    (hr : Room (k + 1) X.A) (hc : X.calm = true) (hN : X.N.Nodup) (hgl : Gl X "any") (hm : X.mg "any" = none) (TB : TabB X.base X.mg c P) (hcode : X.env.code = .ref c) (hi : PI X tg iter wi) (S : GScp X scope own)
    (hg : ∀ (A : Around) (s : Shared) (H : Hp) (C : Addr) (code : Value) (fp : List Addr), PG (Cxg X A s H (genE X scope C code) fp) tg g) (ht : ∀ (A : Around) (s : Shared) (H : Hp) (C : Addr) (code : Value) (fp : List Addr), Room k A → PTs (Cxg X A s H (genE X scope C code) fp) ifs tt)
    (he : ∀ (A : Around) (s : Shared) (H : Hp) (C : Addr) (code : Value) (fp : List Addr), Room k A → PE (Cxg X A s H (genE X scope C code) fp) elt te) (hs : ∀ v, genFold iter X.env v = pure v := by intro _; rfl)
    (hst : starEach [.GeneratorExp elt [⟨tg, iter, ifs, 0⟩] scope gpos] X.env = (false, eval (.GeneratorExp elt [⟨tg, iter, ifs, 0⟩] scope gpos) X.env) :: starEach [] X.env := by rfl) :
    PE X (.Call (.Name "any" p) [.GeneratorExp elt [⟨tg, iter, ifs, 0⟩] scope gpos] [] pos) (tQuant true P wi g tt te (own.map (·.2))) := by
  refine ⟨fun pins s σ H Q I h => ?_⟩
  refine wpAny_Call_Name_kw (ld_blt I hgl hm boot_any ?_)
  refine PyProof.Rows.callWith_builtin1 ?_ hst (by rfl)
  rw [hst]
  show wpAny _ _ (spliced ((false, eval (.GeneratorExp elt [⟨tg, iter, ifs, 0⟩] scope gpos) X.env) :: backTo pos (starEach [] X.env))) _ _ s
  refine Calls.spliced_cons (gen_made hr hc hN TB hcode hi S hg ht he hs I h fun J H2 hW => ?_)
  obtain ⟨W, w0, step⟩ := hW
  refine ⟨W, YdB W true (Q (.bl true)), fun H' => Q (.bl false) H', w0, quant_step step, fun D s5 m o hp hw hA hWe hY hQ hgen rdy back => ?_⟩
  refine Calls.spliced_nil ?_
  refine call_function_tree F.kind_any F.plain_any F.entry_any (F.args_any1 _) ?_
  unfold Builtin.«any»
  refine wpAny_bind (m := oneArg "any" _) (wpAny_pure ?_)
  have pinG := (rdy.at_.inv.pin (D.a, D.go) (List.mem_append_right _ (List.mem_singleton.mpr rfl))).1
  refine wpAny_bind (wpAny_pyIter_gen (hgen _ pinG) ?_)
  refine wpAny_pure ⟨plainId_quiet F.plain_any_loop _, ?_⟩
  rw [← hp, ← hw]
  subst hWe
  refine any_loop o (A := X.A) hA.symm hr.depth hr.hd hgen hY (fun s' H' I' f' q' => ?_) (fun s' H' I' f' q' => ?_) m 0 m s5 H2 rdy
  · rw [hQ] at q'
    exact ⟨.bl false, H', back s' H' I' f', rfl, q'⟩
  · exact ⟨.bl true, H', back s' H' I' f', rfl, q'⟩
end
/-- over a walk: Pv by the turn and the heap -/
theorem quant_it {want : Bool} {J : It} {n : Nat} {G : Hp → Prop} {Y : Nat → Hp → V → Hp → Prop} (w : Walk J n G Y) {g : TG} {tt : TT} {te : TE} {vs : List Nat} {σ : L2.St} {H2 : Hp} {Q : VK} (Pv : Nat → Hp → Prop) (h0 : Pv 0 H2) (hG : ∀ i H, i ≤ n → Pv i H → G H)
    (hs : ∀ i x H H', i < n → Pv i H → Y i H x H' → g x (wipe σ vs) H' fun σ2 H3 => wipe σ2 vs = wipe σ vs ∧ tt σ2 H3 fun b H4 => if b = true then te σ2 H4 fun y H5 => ∃ c, y = .bl c ∧ if c = want then Q (.bl want) H5 else Pv (i + 1) H5 else Pv (i + 1) H4)
    (hd : ∀ H, Pv n H → Q (.bl (!want)) H) :
    ∃ W : Nat → Nat → Hp → Prop, (∃ m, W 0 m H2) ∧ ∀ i m H, W i m H →
      (J.stop i H ∧ Q (.bl (!want)) H) ∨ (J.go i H ∧ 0 < m ∧ ∃ Nx : Hp → Prop, (∀ H', Nx H' → ∃ m', m' < m ∧ W (i + 1) m' H') ∧ ∀ x H', J.yld i H x H' → g x (wipe σ vs) H' fun σ2 H3 => wipe σ2 vs = wipe σ vs ∧ tt σ2 H3 fun b H4 =>
        if b = true then te σ2 H4 fun y H5 => ∃ c, y = .bl c ∧ if c = want then Q (.bl want) H5 else Nx H5 else Nx H4) := by
  refine ⟨fun i m H => m = n - i ∧ i ≤ n ∧ Pv i H, ⟨n, by simp, Nat.zero_le _, h0⟩, ?_⟩
  rintro i m H ⟨rfl, hi, p⟩
  have q := hG i H hi p
  by_cases hlt : i < n
  · exact .inr ⟨w.goes i H hlt q, by omega, Pv (i + 1), fun H' p' => ⟨n - (i + 1), by omega, rfl, hlt, p'⟩, fun x H' y => hs i x H H' hlt p (w.yields i H x H' hlt q y)⟩
  · have e : i = n := by omega
    subst e
    exact .inl ⟨w.stops H q, hd H p⟩
end Gx

/-! ## Lk -/
set_option Elab.async false
set_option linter.all false
set_option maxRecDepth 100000
set_option maxHeartbeats 2000000
/-! What all defs of the package's laws are told with: tuples of ints, webs; heaps that have grown; callees. -/
namespace Lk
open PySem PySem.Spec PyProof.Rows L2 Gx
open GxR (TabG Tabbed TabB)

/-! ### heaps -/
def isTbl : HO → Bool
  | .tbl _ => true
  | _ => false
/-- tables that no generator of a def writes at -/
class Own where
  own : Addr → Prop
variable [Own]
/-- all that was tracked is as it was, but that tables may have grown -/
structure Ext (H H' : Hp) : Prop where
  keep : ∀ a o, H a = some o → isTbl o = false → H' a = some o
  tab : ∀ P, TabG H P → TabG H' P
  tb : ∀ a o, H a = some o → ∃ o', H' a = some o'
  own : ∀ P ps, Own.own P → H P = some (.tbl ps) → H' P = some (.tbl ps)
theorem Ext.refl (H : Hp) : Ext H H := ⟨fun _ _ h _ => h, fun _ h => h, fun _ _ h => ⟨_, h⟩, fun _ _ _ h => h⟩
theorem Ext.trans {H H1 H2 : Hp} (a : Ext H H1) (b : Ext H1 H2) : Ext H H2 := ⟨fun c o h q => b.keep c o (a.keep c o h q) q, fun P h => b.tab P (a.tab P h), fun c o h => by
  obtain ⟨o', h'⟩ := a.tb c o h
  exact b.tb c o' h', fun P ps o h => b.own P ps o (a.own P ps o h)⟩
theorem Ext.new {H : Hp} {p : Addr} (h : H p = none) (o : HO) : Ext H (upd H p o) := ⟨fun a u e _ => by rw [upd_ne (ne_of_none e h)]; exact e, fun P ⟨ps, e, t⟩ => ⟨ps, by rw [upd_ne (ne_of_none e h)]; exact e, t⟩, fun a u e => ⟨u, by rw [upd_ne (ne_of_none e h)]; exact e⟩, fun P ps _ e => by rw [upd_ne (ne_of_none e h)]; exact e⟩
theorem Ext.tabbed {H H' : Hp} {P : Addr} (hn : ¬ Own.own P) (h : TabG H P) (t : Tabbed P H H') : Ext H H' := by
  obtain ⟨ps, e, ht⟩ := h
  refine ⟨fun a o e' q => ?_, fun P' h' => ?_, fun a o e' => ?_, fun P' qs o e1 => by rw [t.2 P' (fun z => hn (z ▸ o))]; exact e1⟩
  · have : a ≠ P := fun z => by
      rw [z, e] at e'
      cases e'
      cases q
    rw [t.2 a this]; exact e'
  · by_cases z : P' = P
    · rw [z]; exact t.1
    · obtain ⟨qs, e1, t1⟩ := h'
      exact ⟨qs, by rw [t.2 P' z]; exact e1, t1⟩
  · by_cases z : a = P
    · obtain ⟨qs, e1, _⟩ := t.1
      exact ⟨_, by rw [z]; exact e1⟩
    · exact ⟨o, by rw [t.2 a z]; exact e'⟩
theorem Ext.free {H H' : Hp} (e : Ext H H') {l : Addr} (h : H' l = none) : H l = none := by
  cases q : H l with
  | none => rfl
  | some o =>
    obtain ⟨o', h'⟩ := e.tb l o q
    rw [h] at h'
    cases h'
theorem Ext.tup {H H' : Hp} (e : Ext H H') {a : Addr} {xs : List V} (h : H a = some (.tup xs)) : H' a = some (.tup xs) := e.keep _ _ h rfl
theorem Ext.lst {H H' : Hp} (e : Ext H H') {a : Addr} {xs : List V} (h : H a = some (.lst xs)) : H' a = some (.lst xs) := e.keep _ _ h rfl
/-- a list that grows, new behind H0 -/
theorem Ext.put {H0 H : Hp} {p : Addr} (e : Ext H0 H) (h : H0 p = none) (o : HO) : Ext H0 (upd H p o) := ⟨fun a u q t => by rw [upd_ne (ne_of_none q h)]; exact e.keep a u q t, fun P ⟨ps, q, t⟩ => by
  obtain ⟨qs, q', t'⟩ := e.tab P ⟨ps, q, t⟩
  exact ⟨qs, by rw [upd_ne (ne_of_none q h)]; exact q', t'⟩, fun a u q => by
  obtain ⟨o', h'⟩ := e.tb a u q
  exact ⟨o', by rw [upd_ne (ne_of_none q h)]; exact h'⟩, fun P ps o q => by rw [upd_ne (ne_of_none q h)]; exact e.own P ps o q⟩
/-- the tables that the defs have -/
def Tabs (Ps : List Addr) (H : Hp) : Prop := ∀ P ∈ Ps, TabG H P
theorem Tabs.ext {Ps : List Addr} {H H' : Hp} (t : Tabs Ps H) (e : Ext H H') : Tabs Ps H' := fun P h => e.tab P (t P h)

/-! ### tuples of ints, of such -/
theorem paired_mono {α β : Type} {R S : α → β → Prop} (h : ∀ a b, R a b → S a b) : ∀ {l : List α} {m : List β}, Paired R l m → Paired S l m
  | _, _, .nil => .nil
  | _, _, .cons r t => .cons (h _ _ r) (paired_mono h t)
theorem paired_get {α β : Type} {R : α → β → Prop} : ∀ {l : List α} {m : List β} {i : Nat} {b : β}, Paired R l m → m[i]? = some b → ∃ a, l[i]? = some a ∧ R a b
  | _, _, _, _, .nil, e => by simp at e
  | _, _, 0, _, .cons r _, e => by simp at e; subst e; exact ⟨_, rfl, r⟩
  | _, _, i + 1, _, .cons _ t, e => by
    obtain ⟨a, h1, h2⟩ := paired_get (i := i) t (by simpa using e)
    exact ⟨a, by simpa using h1, h2⟩
theorem paired_get' {α β : Type} {R : α → β → Prop} : ∀ {l : List α} {m : List β} {i : Nat} {a : α}, Paired R l m → l[i]? = some a → ∃ b, m[i]? = some b ∧ R a b
  | _, _, _, _, .nil, e => by simp at e
  | _, _, 0, _, .cons r _, e => by simp at e; subst e; exact ⟨_, rfl, r⟩
  | _, _, i + 1, _, .cons _ t, e => by
    obtain ⟨a, h1, h2⟩ := paired_get' (i := i) t (by simpa using e)
    exact ⟨a, by simpa using h1, h2⟩
theorem paired_snoc {α β : Type} {R : α → β → Prop} {a : α} {b : β} (r : R a b) : ∀ {l : List α} {m : List β}, Paired R l m → Paired R (l ++ [a]) (m ++ [b])
  | _, _, .nil => .cons r .nil
  | _, _, .cons q t => .cons q (paired_snoc r t)
theorem paired_len {α β : Type} {R : α → β → Prop} : ∀ {l : List α} {m : List β}, Paired R l m → l.length = m.length
  | _, _, .nil => rfl
  | _, _, .cons _ t => by rw [List.length_cons, List.length_cons, paired_len t]
/-- the ints' values -/
abbrev iv (ns : List Int) : List V := ns.map V.int
theorem iv_get {ns : List Int} {i : Nat} {x : V} (h : (iv ns)[i]? = some x) : ∃ n, ns[i]? = some n ∧ x = .int n := by
  rw [List.getElem?_map] at h
  cases e : ns[i]? with
  | none => rw [e] at h; cases h
  | some n => rw [e] at h; exact ⟨n, rfl, (Option.some.inj h).symm⟩
theorem iv_at {ns : List Int} {i : Nat} {n : Int} (h : ns[i]? = some n) : (iv ns)[i]? = some (.int n) := by rw [List.getElem?_map, h]; rfl
theorem iv_len (ns : List Int) : (iv ns).length = ns.length := List.length_map ..
/-- a tuple of ints -/
def TI (H : Hp) (v : V) (ns : List Int) : Prop := ∃ a, v = .ref a ∧ H a = some (.tup (iv ns))
/-- a tuple of tuples of ints -/
def TT2 (H : Hp) (v : V) (rows : List (List Int)) : Prop := ∃ a vs, v = .ref a ∧ H a = some (.tup vs) ∧ Paired (TI H) vs rows
/-- a list of ints, of tuples of ints -/
def LI (H : Hp) (v : V) (ns : List Int) : Prop := ∃ a, v = .ref a ∧ H a = some (.lst (iv ns))
def LT2 (H : Hp) (v : V) (rows : List (List Int)) : Prop := ∃ a vs, v = .ref a ∧ H a = some (.lst vs) ∧ Paired (TI H) vs rows
theorem TI.ext {H H' : Hp} {v : V} {ns : List Int} (e : Ext H H') (h : TI H v ns) : TI H' v ns := by
  obtain ⟨a, q, h⟩ := h
  exact ⟨a, q, e.tup h⟩
theorem pTI.ext {H H' : Hp} {vs : List V} {rows : List (List Int)} (e : Ext H H') (h : Paired (TI H) vs rows) : Paired (TI H') vs rows := paired_mono (fun _ _ r => r.ext e) h
theorem TT2.ext {H H' : Hp} {v : V} {rows : List (List Int)} (e : Ext H H') (h : TT2 H v rows) : TT2 H' v rows := by
  obtain ⟨a, vs, q, h, p⟩ := h
  exact ⟨a, vs, q, e.tup h, pTI.ext e p⟩
theorem LI.ext {H H' : Hp} {v : V} {ns : List Int} (e : Ext H H') (h : LI H v ns) : LI H' v ns := by
  obtain ⟨a, q, h⟩ := h
  exact ⟨a, q, e.lst h⟩
theorem LT2.ext {H H' : Hp} {v : V} {rows : List (List Int)} (e : Ext H H') (h : LT2 H v rows) : LT2 H' v rows := by
  obtain ⟨a, vs, q, h, p⟩ := h
  exact ⟨a, vs, q, e.lst h, pTI.ext e p⟩

/-! ### webs -/
/-- a look: one, other, sign -/
abbrev Look3 := Int × Int × Int
def row3 (l : Look3) : List Int := [l.1, l.2.1, l.2.2]
structure Web where
  tops : List Int
  looks : List Look3
structure Web.Ok (W : Web) : Prop where
  some_ : 1 ≤ W.tops.length
  few : W.tops.length ≤ 6
  tops : ∀ t ∈ W.tops, 1 ≤ t ∧ t ≤ 3
  most : W.looks.length ≤ 14
  look : ∀ l ∈ W.looks, (0 ≤ l.1 ∧ l.1 < W.tops.length) ∧ (0 ≤ l.2.1 ∧ l.2.1 < W.tops.length) ∧ (l.2.2 = 1 ∨ l.2.2 = -1)
  asc : W.looks.Pairwise fun k l => k.1 < l.1 ∨ k.1 = l.1 ∧ k.2.1 < l.2.1
  four : ∀ f : Int, ((W.looks.map fun l => l.2.1).filter fun o => o == f).length ≤ 4
def WebAt (H : Hp) (v : V) (W : Web) : Prop := ∃ a t l, v = .ref a ∧ H a = some (.tup [t, l]) ∧ TI H t W.tops ∧ TT2 H l (W.looks.map row3)
theorem WebAt.ext {H H' : Hp} {v : V} {W : Web} (e : Ext H H') (h : WebAt H v W) : WebAt H' v W := by
  obtain ⟨a, t, l, q, h, p1, p2⟩ := h
  exact ⟨a, t, l, q, e.tup h, p1.ext e, p2.ext e⟩

/-! ### callees -/
/-- the def of that name, its promise at level k -/
structure Cal (P : Program) (w : World) (K : PySem.W.Frag) (mg : Str → Option Value) (base : Heap) (CX : CXT) (k : Nat) (x : Str) (ps : List Str) (sp : Sp) : Prop where
  ex : ∃ f fd, mg x = some (.ref f) ∧ PySem.W.keepIn K (.ref f) = true ∧ Binds K fd ps [] ∧ FnOk P w K mg base CX k f fd ps sp
section
variable {X : Cx} {CX : CXT} {k : Nat} {ps : List Str} {sp : Sp} {E : XK} {x : Str} {p pos : Pos} {e : Expr} {es : List Expr} {t : TA}
theorem pe_cal (F : Cal X.prog X.w X.K X.mg X.base CX k x ps sp) (hr : Room k X.A) (hg : Gl X x) (hx : Passes CX X E)
    (ha : PA X (e :: es) t) (hdb : (x == ("__debug__" : Str)) = false := by decide) (he : starEach (e :: es) X.env = (false, eval e X.env) :: starEach es X.env := by rfl) (hpl : (backTo pos (starEach es X.env)).any (·.1) = false := by rfl) :
    PE X (.Call (.Name x p) (e :: es) [] pos) (tCall sp [] E t) := by
  obtain ⟨f, fd, hm, hk, hb, G⟩ := F.ex
  exact pe_call G hr hg hm hk hb .nil hx ha hdb he hpl
/-- .. that raises nothing -/
theorem pe_c0 (F : Cal X.prog X.w X.K X.mg X.base CX0 k x ps sp) (hr : Room k X.A) (hg : Gl X x)
    (ha : PA X (e :: es) t) (hdb : (x == ("__debug__" : Str)) = false := by decide) (he : starEach (e :: es) X.env = (false, eval e X.env) :: starEach es X.env := by rfl) (hpl : (backTo pos (starEach es X.env)).any (·.1) = false := by rfl) :
    PE X (.Call (.Name x p) (e :: es) [] pos) (tCall sp [] E0 t) := pe_cal F hr hg pass0 ha hdb he hpl
end
/-- a def with a table of code objects of its own: its code object's address, its table's -/
structure FunT (K : PySem.W.Frag) (mg : Str → Option Value) (base : Heap) (Ps : List Addr) (x : Str) (st : Stmt) (f : Addr) (fd : FuncData) (P : Addr) : Prop where
  ex : ∃ (oc : Value) (od : Option Addr) (kV doc pm : Value) (an : Option Addr) (c : Addr) (ct : Value) (osl : Array (Option Value)),
    fd = PySem.W.fnOf x x (defArgs st) (defBody st) (defScope st) .none kV doc pm an (.ref c) ct ∧ K.lookup f = some ⟨oc, od, .func fd, osl⟩ ∧ PySem.W.codeIn K (.ref c) x = true ∧ TabB base mg c P
  mem : P ∈ Ps
  nown : ¬ Own.own P
section
variable {P : Program} {w : World} {K : PySem.W.Frag} {mg : Str → Option Value} {base : Heap}
theorem FunT.ok {Ps : List Addr} {x : Str} {st : Stmt} {f : Addr} {fd : FuncData} {T : Addr} {N ps : List Str} {k : Nat} {sp : Sp} (F : FunT K mg base Ps x st f fd T) (S : FnScope N ps (defScope st)) (len : ∀ vs H Q E, sp vs H Q E → vs.length = ps.length)
    (hbody : ∀ (c : Addr) (A : Around) (outer : List Env) (s : Shared) (H : Hp) (vs : List V) (Q : VK) (E : XK), TabB base mg c T → Room k (A.deeper (envOfC x (defScope st) s.heap.objs.size f (.ref c))) → sp vs H Q E →
      ∃ t, PSs (cxOf CX0 P w K mg base N x (defScope st) f (.ref c) A outer s H E).nox (defBody st) t ∧ t { nx := fun _ H' => Q .non H', rt := Q } (start N vs) H) : FnOk P w K mg base CX0 (k + 1) f fd ps sp := by
  obtain ⟨oc, od, kV, doc, pm, an, c, ct, osl, rfl, lk, hcd, tb⟩ := F.ex
  refine fn_of lk hcd S len fun A outer s H vs Q E hr hsp => ?_
  obtain ⟨t, h, q⟩ := hbody c A outer s H vs Q E tb hr hsp
  exact ⟨t, h.nox, q⟩
end
/-- a value is an int: isinstance by the built-in class -/
theorem isi_int {K : PySem.W.Frag} {H : Hp} (i : Int) : TyX K H (.int i) (.type "int") := .base (.int i)
end Lk

/-! ## Lam1 -/
set_option Elab.async false
set_option linter.all false
set_option maxRecDepth 100000
set_option maxHeartbeats 2000000
/-! A lambda with parameters, that captures names of the def where it is made, handed to another def and called there. -/
namespace Lk
open PySem PySem.Spec PyProof.Rows L2 LamX NdefX
variable [Own]
/-- the object at f is the lambda with the words F, the expression b -/
def LmO (f : Addr) (F : NF) (b : Expr) : HO := .ext fun h => ∃ pm ctv : Value, h.get? f = some (PySem.W.kla_obj "<lambda>" F.qual F.params b F.scope F.cl pm F.c ctv)
theorem lm_at {P : Program} {w : World} {H : Hp} {h : Heap} {f : Addr} {F : NF} {b : Expr} (hok : HOk P w H h) (e : H f = some (LmO f F b)) : ∃ pm ctv : Value, h.get? f = some (PySem.W.kla_obj "<lambda>" F.qual F.params b F.scope F.cl pm F.c ctv) := (hok f _ e).1
section
variable {X : Cx} {pins : List (Addr × Obj)} {σ : L2.St} {H : Hp} {s : Shared}
theorem lm_track {F : NF} {b : Expr} {pm ctv : Value} {t' : Nat} (I : Inv X pins σ H s) :
    Inv X pins σ (upd H s.heap.objs.size (LmO s.heap.objs.size F b)) { s with heap := s.heap.push (PySem.W.kla_obj "<lambda>" F.qual F.params b F.scope F.cl pm F.c ctv), toks := t' } := by
  have e : (s.heap.push (PySem.W.kla_obj "<lambda>" F.qual F.params b F.scope F.cl pm F.c ctv)).get? s.heap.objs.size = some (PySem.W.kla_obj "<lambda>" F.qual F.params b F.scope F.cl pm F.c ctv) := Heap.get?_push_size _ rfl
  exact I.laid (a := s.heap.objs.size) (fun a u z => Heap.get?_push_of_some _ z) (Nat.le_refl _) ⟨⟨pm, ctv, e⟩, ⟨_, e⟩, fun h1 h2 ⟨p, t, z⟩ st => ⟨p, t, st _ z⟩⟩
theorem lam_new {c P : Addr} {q : Str} {params : Arguments} {body : Expr} {scope : Scope} {pos : Pos} {E : Value → Shared → Prop} {Q : Value → Shared → Prop} (I : Inv X pins σ H s) (TB : LamX.TabB X.base X.mg c P) (hcode : X.env.code = .ref c) (hT : TabS H P q) (hq : X.env.qual ++ "<lambda>" = q)
    (hdef : defaultsOf params X.env = ([], [])) (hfree : ∀ y ∈ scope.names, y.2 = .free → ∃ c, X.env.cells.lookup y.1 = some c)
    (k : ∀ (f c' : Addr) (H2 : Hp) (s2 : Shared), Inv X pins σ H2 s2 → (∀ b o, b ≠ P → H b = some o → H2 b = some o) → TabS H2 P q → (∀ b, H2 b = none → H b = none) → H2 f = some (LmO f ⟨"<lambda>", q, params, [], scope, cloFrom X.env.cells scope.names [], c'⟩ body) → H2 c' = some (CodeO c' q) → Q (.ref f) s2) :
    wpAny (model X.prog X.w) X.A (eval (.Lambda params body scope pos) X.env) Q E s := by
  subst hq
  obtain ⟨tb, tP, tOk, tAll⟩ := hT
  refine PySem.W.kla_eval hdef ?_
  have old : s.heap.get? P = some { cls := .none, data := .fields tb } := I.hok P _ tP
  have blt : s.heap.BuiltinsAt X.mg P := TB.bm.keeps I.bk
  cases found : codeAmong pos tb.toList with
  | some cv =>
    obtain ⟨c0, rfl, c0O⟩ := tAll pos cv found
    refine PySem.W.kla_makeFunctionHit (mg := X.mg) (c := c) (P := P) (ps := tb) (closure_ok hfree) I.ok.glob (I.mod.glob.keeps I.bk) hcode (TB.code.keeps I.bk) old tOk found blt fun ctv hh tk grown hsz => ?_
    have J : Inv X pins σ H { s with heap := hh, toks := tk } := I.kept grown
    have nf : H hh.objs.size = none := J.hok.fresh (Nat.le_refl _)
    have ext : ∀ b o, H b = some o → upd H hh.objs.size (LmO hh.objs.size ⟨"<lambda>", X.env.qual ++ "<lambda>", params, [], scope, cloFrom X.env.cells scope.names [], c0⟩ body) b = some o := fun b o e => (upd_ne (ne_of_none e nf)).trans e
    refine k hh.objs.size c0 _ _ (lm_track (F := ⟨"<lambda>", X.env.qual ++ "<lambda>", params, [], scope, cloFrom X.env.cells scope.names [], c0⟩) J) (fun b o _ e => ext b o e) (TabS.ext ⟨tb, tP, tOk, tAll⟩ ext) (fun b e => upd_none e) upd_same (ext _ _ c0O)
  | none =>
    refine PySem.W.kla_makeFunction (mg := X.mg) (c := c) (P := P) (ps := tb) (closure_ok hfree) I.ok.glob (I.mod.glob.keeps I.bk) hcode (TB.code.keeps I.bk) old tOk found TB.gP blt fun c1 ctv hh tk grown hge hlt hrec htb => ?_
    obtain ⟨c2, oc, vs, t, e2, hoc, hd, hv⟩ := hrec
    cases e2
    have nC : H c1 = none := I.hok.fresh hge
    have nCP : P ≠ c1 := ne_of_none tP nC
    have J := inv_table (q := X.env.qual ++ "<lambda>") (t' := tk) (more := #[rawInt pos.line, rawInt pos.col, .ref c1]) (h' := hh) I tP (fun b o hb e => grown b o hb e) htb hge ⟨oc, vs, t, hoc, hd, hv⟩
    have nf := J.hok.fresh (Nat.le_refl hh.objs.size)
    have J2 := lm_track (F := ⟨"<lambda>", X.env.qual ++ "<lambda>", params, [], scope, cloFrom X.env.cells scope.names [], c1⟩) (b := body) (pm := (X.mg "__name__").getD .none) (ctv := ctv) (t' := tk) J
    have ext : ∀ b o, b ≠ P → H b = some o → upd (upd H P (.tbl (tb ++ #[rawInt pos.line, rawInt pos.col, .ref c1]))) c1 (CodeO c1 (X.env.qual ++ "<lambda>")) b = some o := fun b o hb e => by
      rw [upd_ne (ne_of_none e nC), upd_ne hb]
      exact e
    have e1 : upd (upd H P (.tbl (tb ++ #[rawInt pos.line, rawInt pos.col, .ref c1]))) c1 (CodeO c1 (X.env.qual ++ "<lambda>")) P = some (.tbl (tb ++ #[rawInt pos.line, rawInt pos.col, .ref c1])) := by
      rw [upd_ne nCP]
      exact upd_same
    have el : (tb ++ #[rawInt pos.line, rawInt pos.col, .ref c1]).toList = tb.toList ++ [rawInt pos.line, rawInt pos.col, .ref c1] := by simp
    have tS : TabS (upd (upd H P (.tbl (tb ++ #[rawInt pos.line, rawInt pos.col, .ref c1]))) c1 (CodeO c1 (X.env.qual ++ "<lambda>"))) P (X.env.qual ++ "<lambda>") := by
      refine ⟨_, e1, by rw [el]; exact PySem.TriplesOk_snoc _ _ _ _ tOk, fun p' cv hcv => ?_⟩
      rw [el] at hcv
      rcases among_app _ tOk hcv with z | z
      · obtain ⟨c0, a1, a2⟩ := tAll p' cv z
        exact ⟨c0, a1, ext _ _ (fun z => by rw [z, tP] at a2; cases a2) a2⟩
      · exact ⟨c1, z, upd_same⟩
    have lay := fun b o (e : upd (upd H P (.tbl (tb ++ #[rawInt pos.line, rawInt pos.col, .ref c1]))) c1 (CodeO c1 (X.env.qual ++ "<lambda>")) b = some o) => (upd_ne (o := LmO hh.objs.size ⟨"<lambda>", X.env.qual ++ "<lambda>", params, [], scope, cloFrom X.env.cells scope.names [], c1⟩ body) (ne_of_none e nf)).trans e
    exact k hh.objs.size c1 _ _ J2 (fun b o hb e => lay _ _ (ext b o hb e)) (tS.ext lay) (fun b e => upd_none (upd_none (upd_none e))) upd_same (lay _ _ upd_same)
end
/-- a lambda's reading: its table tells code objects of the one name -/
def tLam1 (P : Addr) (q : Str) (mk : Addr → NF) (b : Expr) : TE := fun _ H Q => TabS H P q ∧ ∀ (f c' : Addr) (H2 : Hp), (∀ b o, b ≠ P → H b = some o → H2 b = some o) → TabS H2 P q → (∀ b, H2 b = none → H b = none) → H2 f = some (LmO f (mk c') b) → H2 c' = some (CodeO c' q) → Q (.ref f) H2
/-- the words of a lambda -/
def lamF (q : Str) (params : Arguments) (scope : Scope) (cl : List (Str × Addr)) (c : Addr) : NF := ⟨"<lambda>", q, params, [], scope, cl, c⟩
theorem pe_lam1 {X : Cx} {c P : Addr} {q : Str} {params : Arguments} {body : Expr} {scope : Scope} {pos : Pos} (TB : LamX.TabB X.base X.mg c P) (hcode : X.env.code = .ref c) (hq : X.env.qual ++ "<lambda>" = q) (hdef : defaultsOf params X.env = ([], []))
    (hfree : ∀ y ∈ scope.names, y.2 = .free → X.env.scope.names.lookup y.1 = some .cell ∨ X.env.scope.names.lookup y.1 = some .free) :
    PE X (.Lambda params body scope pos) (tLam1 P q (lamF q params scope (cloFrom X.env.cells scope.names [])) body) := by
  refine ⟨fun pins s σ H Q I h => ?_⟩
  obtain ⟨hT, h⟩ := h
  refine lam_new I TB hcode hT hq hdef (fun y hy e => (hfree y hy e).elim (fun z => I.ok.has _ (.inl z)) fun z => I.ok.has _ (.inr z)) fun f c' H2 s2 I2 h1 h2 h3 h4 h5 => ⟨.ref f, H2, I2, rfl, h f c' H2 h1 h2 h3 h4 h5⟩
/-- the promise of a lambda that lets nothing out -/
structure LOk (P : Program) (w : World) (K : PySem.W.Frag) (mg : Str → Option Value) (base : Heap) (k : Nat) (mk : Addr → NF) (b : Expr) (ps fr : List Str) (sp : List (Option V) → List V → Hp → VK → Prop) : Prop where
  len : ∀ ws vs H Q, sp ws vs H Q → vs.length = ps.length
  run : ∀ (f c' : Addr) (A : Around) (outer : List Env) (s : Shared) (H : Hp) (us : List Value) (vs : List V) (ws : List (Option V)) (Q : VK), Room k A → Env0 P w K mg base A outer s H → H f = some (LmO f (mk c') b) → H c' = some (CodeO c' (mk c').qual) → CellsAt (mk c').cl fr ws s.heap H → Vals vs us → sp ws vs H Q →
    codeAny (model P w) A (.call (.ref f) ⟨us, []⟩) (CR CX0 outer P w H s Q E0) s
section
variable {P : Program} {w : World} {K : PySem.W.Frag} {mg : Str → Option Value} {base : Heap} {N ps fr : List Str} {q : Str} {params : Arguments} {scope : Scope} {cl : List (Str × Addr)} {b : Expr} {k : Nat} {sp : List (Option V) → List V → Hp → VK → Prop}
theorem lok_of (S : NScope N ps fr scope) (hb : ∀ (pm ctv : Value) (c' : Addr) (us : List Value), us.length = ps.length → bindArgs (PySem.W.kla_fn "<lambda>" q params b scope cl pm (.ref c') ctv) ⟨us, []⟩ = pure (ps.zip us)) (len : ∀ ws vs H Q, sp ws vs H Q → vs.length = ps.length)
    (hbody : ∀ (f c' : Addr) (A : Around) (outer : List Env) (s : Shared) (H : Hp) (vs : List V) (ws : List (Option V)) (Q : VK), Room k (A.deeper (envF (lamF q params scope cl c') f s.heap.objs.size)) → ws.length = fr.length → sp ws vs H Q →
      ∃ t, PE (ncx CX0 P w K mg base N (lamF q params scope cl c') f A outer s H E0) b t ∧ t (startF N vs ws) H Q) : LOk P w K mg base (k + 1) (lamF q params scope cl) b ps fr sp := by
  refine ⟨len, fun f c' A outer s H us vs ws Q hr e0 hf hc C r hsp => ?_⟩
  have hl := len _ _ _ _ hsp
  have lim : s.heap.NoLimit := e0.mod.nolimit.keeps fun b o e => (e0.bs b o e).1
  obtain ⟨pm, ctv, ho⟩ := lm_at e0.hok hf
  refine PySem.W.kla_callFunE hr.depth ho rfl S.co S.gen rfl (codeO_at e0.hok hc) ?_
  show wpAny _ _ (bindArgs (PySem.W.kla_fn "<lambda>" q params b scope cl pm (.ref c') ctv) ⟨us, []⟩) _ _ _
  rw [hb pm ctv c' us (by rw [← r.length]; exact hl)]
  refine wpAny_pure (wpAny_newFunctionEnv S.nocell (fun ⟨n, _⟩ hy => S.par n (List.of_mem_zip hy).1) (fun h₁ hns hsb => ⟨lim.fresh _ hsb, ?_⟩) S.kind)
  show codeAny _ _ (.expr b (envF (lamF q params scope cl c') f s.heap.objs.size)) _ _
  have kp : ∀ a o, s.heap.get? a = some o → h₁.get? a = some o := fun a o e => hsb.extBut a o (Nat.ne_of_lt (Heap.lt_size e)) (Heap.get?_push_of_some _ e)
  obtain ⟨t, ht, hq⟩ := hbody f c' A outer s H vs ws Q (hr.deeper _) C.len hsp
  have I : Inv (ncx CX0 P w K mg base N (lamF q params scope cl c') f A outer s H E0) [] (startF N vs ws) H { s with heap := h₁, toks := s.toks + (ps.zip us).length } := inv_startN S hr.hd e0 hl r C hns kp
  refine PySem.W.kla_codeExpr (wpAny_mono (ht.run [] _ (startF N vs ws) H Q I hq) (fun v s' hs => ?_) fun e s' hs => hs)
  obtain ⟨x, H', J, rv, q2⟩ := hs
  exact ⟨x, H', J.os, J.bare, J.base, J.hok, rv, q2⟩
end
/-- what cells held at a frame's entry they hold still, whosever they are -/
theorem cells_still {X : Cx} {pins : List (Addr × Obj)} {σ : L2.St} {H : Hp} {s : Shared} {cl : List (Str × Addr)} {fr : List Str} {ws : List (Option V)} (C : CellsAt cl fr ws X.s_0.heap X.H_0) (hx : X.ex = []) (I : Inv X pins σ H s) : CellsAt cl fr ws s.heap H := by
  have nx : ∀ a : Addr, a ∉ X.ex := fun a z => by rw [hx] at z; cases z
  have kp : ∀ a, X.H_0 a = none → ∀ v, X.s_0.heap.IsCell a v → s.heap.IsCell a v := fun a n v ⟨o, ho, hd⟩ => by
    obtain ⟨sl, h1⟩ := I.base.any ho n (nx a)
    exact ⟨_, h1, hd⟩
  refine ⟨C.len, fun y c e => ?_, C.inj, fun i y e => ?_⟩
  · obtain ⟨n, v, z⟩ := C.all y c e
    refine ⟨?_, v, kp c n v z⟩
    obtain ⟨o, ho, _⟩ := z
    exact I.base.free c o ho n (nx c)
  · obtain ⟨c, hc, hv⟩ := C.has i y e
    refine ⟨c, hc, fun v ev => ?_⟩
    obtain ⟨u, r, z⟩ := hv v ev
    exact ⟨u, r, kp c (C.all y c hc).1 _ z⟩
/-- a lambda called: the i-th slot holds it -/
def tActL (i : Nat) (f c' : Addr) (mk : Addr → NF) (b : Expr) (sp : List V → Hp → VK → Prop) (t : TA) : TE := fun σ H Q => σ[i]? = some (some (.ref f)) ∧ H f = some (LmO f (mk c') b) ∧ t σ H fun vs H1 => H1 f = some (LmO f (mk c') b) ∧ H1 c' = some (CodeO c' (mk c').qual) ∧ sp vs H1 Q
section
variable {Z : Cx} {k i j : Nat} {mk : Addr → NF} {b : Expr} {ps fr : List Str} {sp : List (Option V) → List V → Hp → VK → Prop} {f c' : Addr} {ws : List (Option V)} {x : Str} {p pos : Pos} {e : Expr} {es : List Expr} {t : TA}
theorem pe_actL (L : LOk Z.prog Z.w Z.K Z.mg Z.base k mk b ps fr sp) (C : CellsAt (mk c').cl fr ws Z.s_0.heap Z.H_0) (hex : Z.ex = []) (hr : Room k Z.A) (hN : Z.N[i]? = some x) (hv : Vis Z.env.scope x) (ha : PA Z (e :: es) t)
    (hd : (x == ("__debug__" : Str)) = false := by decide) (hcd : (x == ("__classdict__" : Str)) = false := by decide)
    (he : starEach (e :: es) Z.env = (false, eval e Z.env) :: starEach es Z.env := by rfl) (hpl : (backTo pos (starEach es Z.env)).any (·.1) = false := by rfl) :
    PE Z (.Call (.Name x p) (e :: es) [] pos) (tActL i f c' mk b (sp ws) t) := by
  refine ⟨fun pins s σ H Q I h => ?_⟩
  obtain ⟨hs, hf0, ht⟩ := h
  refine wpAny_Call_Name_kw (thn ((pe_var (pos := p) hN hv hd hcd).run pins s σ H (fun v H1 => v = .ref f ∧ H1 f = some (LmO f (mk c') b) ∧ t σ H1 fun vs H2 => H2 f = some (LmO f (mk c') b) ∧ H2 c' = some (CodeO c' (mk c').qual) ∧ sp ws vs H2 Q) I ⟨.ref f, hs, rfl, hf0, ht⟩) fun u s1 ⟨v, H1, I1, r1, q1⟩ => ?_)
  obtain ⟨rfl, hf1, q1⟩ := q1
  obtain rfl : u = Value.ref f := r1
  have hF : PySem.W.FnAt f s1.heap := by
    obtain ⟨pm, ctv, ho⟩ := lm_at I1.hok hf1
    exact ⟨_, _, _, _, ho⟩
  refine PySem.W.callWith_F (first := []) hF (thn (ha.run pos pins s1 σ H1 _ I1 q1) fun us s2 ⟨vs, H2, I2, r, h1, h2, q⟩ => ?_) he hpl
  obtain ⟨pm, ctv, ho⟩ := lm_at I2.hok h1
  refine ⟨⟨_, _, _, _, ho⟩, ?_⟩
  show wpAny _ _ (call (.ref f) us) _ _ _
  refine wpAny_call (codeAny_mono (L.run f c' Z.A Z.stack s2 H2 us vs ws Q hr I2.env0 h1 h2 (cells_still C hex I2) r q) fun r s' hq => ?_)
  cases r with
  | error e => exact (show False from hq).elim
  | ok fl =>
    cases fl with
    | ret u => exact I2.after hq
    | next => exact False.elim hq
    | brk => exact False.elim hq
    | cont => exact False.elim hq
/-- a def that gets a lambda as its last thing, and its promise -/
structure GOk (P : Program) (w : World) (K : PySem.W.Frag) (mg : Str → Option Value) (base : Heap) (k : Nat) (g : Addr) (fd : FuncData) (ps : List Str) (mk : Addr → NF) (b : Expr) (fr : List Str) (sp : List (Option V) → List V → Hp → VK → Prop) : Prop where
  len : ∀ ws vs H Q, sp ws vs H Q → vs.length = ps.length
  run : ∀ (A : Around) (outer : List Env) (s : Shared) (H : Hp) (us : List Value) (vs : List V) (ws : List (Option V)) (f c' : Addr) (Q : VK), Room k A → Env0 P w K mg base A outer s H → vs.getLast? = some (.ref f) → H f = some (LmO f (mk c') b) → H c' = some (CodeO c' (mk c').qual) →
    CellsAt (mk c').cl fr ws s.heap H → BindsTo s fd ⟨us, []⟩ (ps.zip us) → Vals vs us → sp ws vs H Q → codeAny (model P w) A (.call (.ref g) ⟨us, []⟩) (CR CX0 outer P w H s Q E0) s
/-- g(.., lambda ..) -/
def tCallG (mk : Addr → NF) (b : Expr) (js : List Nat) (sp : List (Option V) → List V → Hp → VK → Prop) (t : TA) : TE := fun σ H Q => t σ H fun vs H1 => ∃ f c', vs.getLast? = some (.ref f) ∧ H1 f = some (LmO f (mk c') b) ∧ H1 c' = some (CodeO c' (mk c').qual) ∧ sp (js.map (slotAt σ)) vs H1 Q
theorem pe_callG {X : Cx} {g : Addr} {fd : FuncData} {js : List Nat} {cl : List (Str × Addr)} (G : GOk X.prog X.w X.K X.mg X.base k g fd ps mk b fr sp) (hcl : ∀ c', (mk c').cl = cl) (cp : X.Ok → Caps X cl fr js) (hr : Room k X.A) (hg : Gl X x) (hm : X.mg x = some (.ref g)) (hk : PySem.W.keepIn X.K (.ref g) = true) (hb : Binds X.K fd ps [])
    (ha : PA X (e :: es) t) (hdb : (x == ("__debug__" : Str)) = false := by decide) (he : starEach (e :: es) X.env = (false, eval e X.env) :: starEach es X.env := by rfl) (hpl : (backTo pos (starEach es X.env)).any (·.1) = false := by rfl) :
    PE X (.Call (.Name x p) (e :: es) [] pos) (tCallG mk b js sp t) := by
  refine ⟨fun pins s σ H Q I h => ?_⟩
  refine wpAny_Call_Name_kw (ld_glob I hg hm ?_ hdb)
  refine PySem.W.callWith_K (h₀ := X.base) I.ok.mod.kin hk (thn (ha.run pos pins s σ H _ I h) fun us s2 ⟨vs, H2, I2, r, f, c', h0, h1, h2, q⟩ => ⟨I2.kIn, ?_⟩) he hpl
  show wpAny _ _ (call (.ref g) us) _ _ _
  have hl : us.length = ps.length := by rw [← r.length]; exact G.len _ _ _ _ q
  have bd := hb s2 us I2.kIn (by rw [List.append_nil]; exact hl)
  rw [List.append_nil] at bd
  refine wpAny_call (codeAny_mono (G.run X.A X.stack s2 H2 us vs _ f c' Q hr I2.env0 h0 h1 h2 (by rw [hcl c']; exact cells_of I2 (cp I2.ok)) bd r q) fun r s' hq => ?_)
  cases r with
  | error e => exact (show False from hq).elim
  | ok fl =>
    cases fl with
    | ret u => exact I2.after hq
    | next => exact False.elim hq
    | brk => exact False.elim hq
    | cont => exact False.elim hq
/-- such a def by its body -/
theorem gok_of {P : Program} {w : World} {K : PySem.W.Frag} {mg : Str → Option Value} {base : Heap} {x : Str} {st : Stmt} {g : Addr} {fd : FuncData} {N : List Str} (F : Fun K x x st g fd) (S : FnScope N ps (defScope st)) (len : ∀ ws vs H Q, sp ws vs H Q → vs.length = ps.length)
    (hbody : ∀ (cdv : Value) (A : Around) (outer : List Env) (s : Shared) (H : Hp) (vs : List V) (ws : List (Option V)) (f c' : Addr) (Q : VK), Room k (A.deeper (envOfC x (defScope st) s.heap.objs.size g cdv)) → vs.getLast? = some (.ref f) → H f = some (LmO f (mk c') b) → H c' = some (CodeO c' (mk c').qual) → CellsAt (mk c').cl fr ws s.heap H → sp ws vs H Q →
      ∃ t, PSs (cxOf CX0 P w K mg base N x (defScope st) g cdv A outer s H E0).nox (defBody st) t ∧ t { nx := fun _ H' => Q .non H', rt := Q } (start N vs) H) : GOk P w K mg base (k + 1) g fd ps mk b fr sp := by
  obtain ⟨oc, od, kV, doc, pm, an, cdv, ct, osl, rfl, lk, hcd⟩ := F.ex
  refine ⟨len, fun A outer s H us vs ws f c' Q hr e0 h0 h1 h2 C bd r q => ?_⟩
  refine run_ofS (N := N) lk hcd S hr e0 bd r (len _ _ _ _ q) fun hr' => ?_
  obtain ⟨t, h3, h4⟩ := hbody cdv A outer s H vs ws f c' Q hr' h0 h1 h2 C q
  exact ⟨t, h3.nox, h4⟩
end
end Lk

/-! ## Top -/
set_option Elab.async false
set_option maxRecDepth 100000
namespace Lk
open PySem
/-- the i-th statement of the program -/
def top (i : Nat) : Stmt := PySem.Challenge.pw_likespite_k09_whole_tables.main.body.getD i (.Pass ⟨0, 0, 0, 0⟩)
end Lk

/-! ## D01 -/
set_option Elab.async false
set_option linter.all false
set_option maxRecDepth 100000
set_option maxHeartbeats 2000000
namespace Lk
open PySem PySem.Spec PyProof.Rows L2 Gx
open GxR (TabG Tabbed TabB)
variable [Own]
abbrev sIsWhole : Stmt := top 10
def isWhole (i lo hi : Int) : Bool := decide (lo ≤ i) && decide (i ≤ hi)
def spIsWhole : Sp := fun vs H Q _ => ∃ i lo hi : Int, vs = [.int i, .int lo, .int hi] ∧ Q (.bl (isWhole i lo hi)) H
section
variable {P : Program} {w : World} {K : PySem.W.Frag} {mg : Str → Option Value} {base : Heap}
theorem scIsWhole : FnScope ["value", "least", "most"] ["value", "least", "most"] (defScope sIsWhole) := ⟨rfl, rfl, rfl, by decide +kernel, rfl, by decide +kernel, by decide +kernel⟩
theorem boot_isinstance : bootBuiltins "isinstance" = some (.builtin "isinstance") := by decide +kernel
theorem boot_tyInt : bootBuiltins "int" = some (.type "int") := by decide +kernel
theorem boot_tyBool : bootBuiltins "bool" = some (.type "bool") := by decide +kernel
theorem ok_is_whole {f : Addr} {fd : FuncData} (F : Fun K "is_whole" "is_whole" sIsWhole f fd) (ni : mg "isinstance" = none) (nI : mg "int" = none) (nB : mg "bool" = none) : FnOk P w K mg base CX0 1 f fd ["value", "least", "most"] spIsWhole := by
  refine F.ok scIsWhole (fun vs H Q E h => ?_) (fun cdv A outer s H vs Q E hr h => ?_)
  · obtain ⟨i, lo, hi, rfl, _⟩ := h
    rfl
  · obtain ⟨i, lo, hi, rfl, k⟩ := h
    refine ⟨_, pss_one (ps_ret (pe_and (pe_callB call_isi (by rfl) ni boot_isinstance (pa_cons (pv 0) (pa_cons (pe_bltn (v := .ty "int") (by rfl) nI boot_tyInt rfl) pa_nil)))
      (pe_and (pe_not (pe_callB call_isi (by rfl) ni boot_isinstance (pa_cons (pv 0) (pa_cons (pe_bltn (v := .ty "bool") (by rfl) nB boot_tyBool rfl) pa_nil))))
      (pe_one (pe_chain op_le op_le (pv 1) (pv 0) (pv 2)))))), ?_⟩
    refine ⟨_, rfl, _, _, _, _, true, rfl, .ty "int", isi_int i, kit_ty (by decide +kernel), _, rfl, iteT ?_⟩
    refine ⟨_, rfl, _, _, _, _, false, rfl, .ty "bool", isi_int i, kit_ty (by decide +kernel), _, rfl, _, rfl, iteT ?_⟩
    refine ⟨_, rfl, _, rfl, _, _, rfl, rfl, _, rfl, ?_⟩
    unfold isWhole at k
    by_cases h : lo ≤ i
    · rw [decide_eq_true h, Bool.true_and] at k
      rw [decide_eq_true h]
      refine iteT ?_
      refine ⟨_, rfl, _, _, rfl, rfl, ?_⟩
      exact k
    · rw [decide_eq_false h, Bool.false_and] at k
      rw [decide_eq_false h]
      exact iteF k
end
end Lk

/-! ## D02 -/
set_option Elab.async false
set_option linter.all false
set_option maxRecDepth 100000
set_option maxHeartbeats 2000000
namespace Lk
open PySem PySem.Spec PyProof.Rows L2 Gx
open GxR (TabG Tabbed TabB)
variable [Own]
theorem iteTF {A B : Prop} (h : B) : if true = false then A else B := by
  rw [if_neg (by decide)]
  exact h
theorem iteFF {A B : Prop} (h : A) : if false = false then A else B := by
  rw [if_pos rfl]
  exact h
theorem ite_of {c : Bool} {A B : Prop} (h1 : c = true → A) (h2 : c = false → B) : if c = true then A else B := by
  cases c with
  | true => exact iteT (h1 rfl)
  | false => exact iteF (h2 rfl)
theorem iteb {c : Bool} {A B : Prop} (hc : c = true) (h : A) : if c = true then A else B := by rw [hc]; exact iteT h
theorem itebf {c : Bool} {A B : Prop} (hc : c = false) (h : B) : if c = true then A else B := by rw [hc]; exact iteF h
theorem yes {σ : L2.St} {H : Hp} {A B : Hp → Prop} (h : A H) : tYes σ H fun b H' => if b = true then A H' else B H' := by
  show if true = true then A H else B H
  exact iteT h
theorem boot_tyTuple : bootBuiltins "tuple" = some (.type "tuple") := by decide +kernel
theorem boot_tyList : bootBuiltins "list" = some (.type "list") := by decide +kernel
theorem boot_tyStr : bootBuiltins "str" = some (.type "str") := by decide +kernel
theorem boot_set : bootBuiltins "set" = some (.type "set") := by decide +kernel
theorem boot_max : bootBuiltins "max" = some (.builtin "max") := by decide +kernel
theorem boot_sorted : bootBuiltins "sorted" = some (.builtin "sorted") := by decide +kernel
theorem isi_tup {K : PySem.W.Frag} {H : Hp} {a : Addr} {xs : List V} (h : H a = some (.tup xs)) : TyX K H (.ref a) (.type "tuple") := .base (.tup h)
/-- a written number of the module -/
def Num (mg : Str → Option Value) (x : Str) (n : Int) : Prop := ∃ t, mg x = some (.int n t)
theorem pe_num {X : Cx} {x : Str} {n : Int} {pos : Pos} (h : Num X.mg x n) (hg : Gl X x) (hd : (x == ("__debug__" : Str)) = false := by decide) : PE X (.Name x pos) (tC (.int n)) := by
  obtain ⟨t, h⟩ := h
  exact pe_glob hg h ⟨t, rfl⟩ hd
/-- the names of the built-ins that the module has not made its own -/
structure Blt (mg : Str → Option Value) : Prop where
  isi : mg "isinstance" = none
  int : mg "int" = none
  bool : mg "bool" = none
  tuple : mg "tuple" = none
  list : mg "list" = none
  set : mg "set" = none
  len : mg "len" = none
  all : mg "all" = none
  range : mg "range" = none
  sorted : mg "sorted" = none
  enum : mg "enumerate" = none
  zip : mg "zip" = none
  max : mg "max" = none
  str : mg "str" = none
  sup : mg "super" = none
structure Nums (mg : Str → Option Value) : Prop where
  MOST_FOLK : Num mg "MOST_FOLK" 6
  MOST_TOP : Num mg "MOST_TOP" 3
  MOST_LOOKS : Num mg "MOST_LOOKS" 14
  MOST_LOOKS_OF_ONE : Num mg "MOST_LOOKS_OF_ONE" 4
end Lk


/-! ## Dat -/
set_option Elab.async false
set_option linter.all false
set_option maxRecDepth 100000
set_option maxHeartbeats 2000000
/-! Tuples and lists of ints as data: when two are equal. -/
namespace Lk
open PySem PySem.Spec PyProof.Rows L2 Gx
variable [Own]
abbrev dI (ns : List Int) : PyData := .tuple (ns.map .int)
theorem eqv_ii (a b : Int) : PyData.eqv (.int a) (.int b) = decide (a = b) := by
  simp only [PyData.eqv]
  first | rfl | exact Bool.beq_eq_decide_eq .. | (by_cases h : a = b <;> simp [h])
theorem eqvAll_ints : ∀ a b : List Int, PyData.eqvAll (a.map .int) (b.map .int) = decide (a = b)
  | [], [] => by simp [PyData.eqvAll]
  | [], _ :: _ => by simp [PyData.eqvAll]
  | _ :: _, [] => by simp [PyData.eqvAll]
  | x :: xs, y :: ys => by
    rw [List.map_cons, List.map_cons]
    simp only [PyData.eqvAll]
    rw [eqv_ii, eqvAll_ints xs ys]
    by_cases h1 : x = y <;> by_cases h2 : xs = ys <;> simp [h1, h2]
theorem eqv_tt (a b : List Int) : PyData.eqv (dI a) (dI b) = decide (a = b) := by
  show PyData.eqv (.tuple _) (.tuple _) = _
  simp only [PyData.eqv]
  exact eqvAll_ints a b
theorem eqvAll_rows : ∀ a b : List (List Int), PyData.eqvAll (a.map dI) (b.map dI) = decide (a = b)
  | [], [] => by simp [PyData.eqvAll]
  | [], _ :: _ => by simp [PyData.eqvAll]
  | _ :: _, [] => by simp [PyData.eqvAll]
  | x :: xs, y :: ys => by
    rw [List.map_cons, List.map_cons]
    simp only [PyData.eqvAll]
    rw [eqv_tt, eqvAll_rows xs ys]
    by_cases h1 : x = y <;> by_cases h2 : xs = ys <;> simp [h1, h2]
theorem eqv_ll (a b : List (List Int)) : PyData.eqv (.list (a.map dI)) (.list (b.map dI)) = decide (a = b) := by
  simp only [PyData.eqv]
  exact eqvAll_rows a b
theorem canLay_ints : ∀ a : List Int, PyData.canLayAll0 (a.map .int) = true
  | [] => by simp [PyData.canLayAll0]
  | x :: xs => by
    rw [List.map_cons]
    simp only [PyData.canLayAll0, PyData.canLay0, canLay_ints xs, Bool.and_self]
theorem canLay_rows : ∀ a : List (List Int), PyData.canLayAll0 (a.map dI) = true
  | [] => by simp [PyData.canLayAll0]
  | x :: xs => by
    rw [List.map_cons]
    simp only [PyData.canLayAll0, PyData.canLay0, canLay_ints x, canLay_rows xs, Bool.and_self]
theorem depth_ints : ∀ a : List Int, PyData.depthAll (a.map .int) = 0
  | [] => by simp [PyData.depthAll]
  | x :: xs => by
    rw [List.map_cons]
    simp only [PyData.depthAll, PyData.depth, depth_ints xs, Nat.max_self]
theorem depth_rows : ∀ a : List (List Int), PyData.depthAll (a.map dI) ≤ 1
  | [] => by simp [PyData.depthAll]
  | x :: xs => by
    rw [List.map_cons]
    have h := depth_rows xs
    simp only [PyData.depthAll, PyData.depth, depth_ints x]
    omega
theorem shaped_t (a : List Int) : SeqAt.shaped (dI a) = true := by
  unfold SeqAt.shaped
  simp only [PyData.canLay0, canLay_ints a, PyData.depth, depth_ints a, Bool.true_and]
  decide
theorem shaped_l (a : List (List Int)) : SeqAt.shaped (.list (a.map dI)) = true := by
  unfold SeqAt.shaped
  have h := depth_rows a
  simp only [PyData.canLay0, canLay_rows a, PyData.depth, Bool.true_and]
  exact decide_eq_true (by omega)
theorem shaped_tl (a : List (List Int)) : SeqAt.shaped (.tuple (a.map dI)) = true := by
  unfold SeqAt.shaped
  have h := depth_rows a
  simp only [PyData.canLay0, canLay_rows a, PyData.depth, Bool.true_and]
  exact decide_eq_true (by omega)
section
variable {K : PySem.W.Frag} {H : Hp}
theorem dpAll_ints : ∀ ns : List Int, DpAll K H (iv ns) (ns.map .int)
  | [] => .nil
  | n :: ns => .cons (.int n) (dpAll_ints ns)
theorem TI.dp {v : V} {ns : List Int} (h : TI H v ns) : Dp K H v (dI ns) := by
  obtain ⟨a, rfl, h⟩ := h
  exact .tup (SqT.of h) (dpAll_ints ns)
theorem pTI.dp : ∀ {vs : List V} {rows : List (List Int)}, Paired (TI H) vs rows → DpAll K H vs (rows.map dI)
  | _, _, .nil => .nil
  | _, _, .cons r t => .cons r.dp (pTI.dp t)
theorem LT2.dp {v : V} {rows : List (List Int)} (h : LT2 H v rows) : Dp K H v (.list (rows.map dI)) := by
  obtain ⟨a, vs, rfl, h, p⟩ := h
  exact .lst (SqL.of h) (pTI.dp p)
theorem TT2.dp {v : V} {rows : List (List Int)} (h : TT2 H v rows) : Dp K H v (.tuple (rows.map dI)) := by
  obtain ⟨a, vs, rfl, h, p⟩ := h
  exact .tup (SqT.of h) (pTI.dp p)
end
end Lk

/-! ## LkT -/
set_option Elab.async false
set_option linter.all false
set_option maxRecDepth 100000
set_option maxHeartbeats 2000000
/-! Rules over what is tracked alone (no word of the written part): for comprehensions and generators, too. -/
namespace Lk
open PySem PySem.Spec PyProof.Rows L2 Gx
variable [Own]
section
variable {X : Cx} {pos : Pos}
def gTupT (n : Nat) (t : TGs) : TG := fun v σ H Q => ∃ a xs, v = .ref a ∧ H a = some (.tup xs) ∧ xs.length = n ∧ t xs σ H Q
theorem pg_tupT {es : List Expr} {k : Nat} {t : TGs} {n : Nat} (hc : X.calm = true) (h : PGs X es t)
    (hn : (assignEach es X.env).length = n := by rfl) (hst : (assignEach es X.env).findIdx? (·.1) = none := by rfl) : PG X (.Tuple es k pos) (gTupT n t) := by
  refine ⟨fun pins s σ H v u Q I r hw => ?_⟩
  obtain ⟨a, xs, e1, hq, hl, hw⟩ := hw
  exact (pg_tup hc h hn hst).run pins s σ H v u Q I r ⟨a, xs, e1, SqT.of hq, hl, hw⟩
/-- t[i], of a tuple; xs[i], of a list -/
def rIxTT : R2 := fun x y H Q => ∃ p xs i v, x = .ref p ∧ y = .int i ∧ H p = some (.tup xs) ∧ atI xs i = some v ∧ Q v H
def rIxLT : R2 := fun x y H Q => ∃ p xs i v, x = .ref p ∧ y = .int i ∧ H p = some (.lst xs) ∧ atI xs i = some v ∧ Q v H
theorem ix_tT : IxR X rIxTT := by
  intro value slice pins s σ H x y v u Q I rx ry h hs
  obtain ⟨p, xs, i, z, e1, e2, hq, he, q⟩ := h
  exact ix_tup value slice pins s σ H x y v u Q I rx ry ⟨p, xs, i, z, e1, e2, SqT.of hq, he, q⟩ hs
theorem ix_lT : IxR X rIxLT := by
  intro value slice pins s σ H x y v u Q I rx ry h hs
  obtain ⟨p, xs, i, z, e1, e2, hq, he, q⟩ := h
  exact ix_list value slice pins s σ H x y v u Q I rx ry ⟨p, xs, i, z, e1, e2, SqL.of hq, he, q⟩ hs
/-- len of a tuple or a list -/
def rLenT : List V → Hp → VK → Prop := fun xs H Q => ∃ p ys, xs = [.ref p] ∧ (H p = some (.lst ys) ∨ H p = some (.tup ys)) ∧ Q (.int ys.length) H
theorem call_lenT : CallR X (.builtin "len") rLenT := by
  intro pins s σ H xs us Q I r h
  obtain ⟨p, ys, e, hq, q⟩ := h
  exact call_len_seq pins s σ H xs us Q I r ⟨p, ys, e, hq.imp SqL.of SqT.of, q⟩
/-- tuple + tuple -/
def rCatT : R2 := fun x y H Q => ∃ a b xs ys, x = .ref a ∧ y = .ref b ∧ H a = some (.tup xs) ∧ H b = some (.tup ys) ∧ xs.length + ys.length ≤ sizeLine ∧
  (xs = [] → Q (.ref b) H) ∧ (xs ≠ [] → ys = [] → Q (.ref a) H) ∧ (xs ≠ [] → ys ≠ [] → ∀ p, H p = none → Q (.ref p) (upd H p (.tup (xs ++ ys))))
theorem op_catTT : OpR X (binaryOp .Add) rCatT := by
  intro pins s σ H x y v u Q I rx ry h
  obtain ⟨a, b, xs, ys, e1, e2, h1, h2, q⟩ := h
  exact op_catA pins s σ H x y v u Q I rx ry ⟨a, b, xs, ys, e1, e2, SqT.of h1, SqT.of h2, q⟩
/-- tuple(list) -/
def kTupL : V → Hp → VK → Prop := fun x H Q => ∃ p xs, x = .ref p ∧ H p = some (.lst xs) ∧ ∀ q, H q = none → Q (.ref q) (upd H q (.tup xs))
def tTupleL (ta : TE) : TE := fun σ H Q => ta σ H fun x H1 => kTupL x H1 Q
theorem pe_tupleL {p : Pos} {a : Expr} {ta : TE} (hg : Gl X "tuple") (hm : X.mg "tuple" = none) (ha : PE X a ta) (hs : starEach [a] X.env = (false, eval a X.env) :: starEach [] X.env := by rfl) : PE X (.Call (.Name "tuple" p) [a] [] pos) (tTupleL ta) := by
  refine ⟨fun pins s σ H Q I h => ?_⟩
  exact Call_ (ld_blt I hg hm boot_tuple (PyProof.Rows.callWith_type1 (one_arg ha I h (fun v s2 x H2 I2 r q => by
    obtain ⟨p, xs, e, hp, q⟩ := q
    exact rl_tuple pins s2 σ H2 x v Q I2 r (.inl ⟨p, xs, e, SqL.of hp, q⟩)) hs) hs))
/-- two tuples of ints, two lists or tuples of such -/
def rEqTI : R2 := fun x y H Q => ∃ a b : List Int, TI H x a ∧ TI H y b ∧ Q (.bl (decide (a = b))) H
def rNeTI : R2 := fun x y H Q => ∃ a b : List Int, TI H x a ∧ TI H y b ∧ Q (.bl (!decide (a = b))) H
theorem op_eqTI (hu : X.A.units + 64 < cLine) : OpR X (compareOp .Eq) rEqTI := by
  intro pins s σ H x y v u Q I rx ry h
  obtain ⟨a, b, h1, h2, q⟩ := h
  exact op_eqD hu pins s σ H x y v u Q I rx ry ⟨_, _, h1.dp, h2.dp, shaped_t a, shaped_t b, by rw [eqv_tt]; exact q⟩
theorem op_neTI (hu : X.A.units + 64 < cLine) : OpR X (compareOp .NotEq) rNeTI := by
  intro pins s σ H x y v u Q I rx ry h
  obtain ⟨a, b, h1, h2, q⟩ := h
  exact op_neD hu pins s σ H x y v u Q I rx ry ⟨_, _, h1.dp, h2.dp, shaped_t a, shaped_t b, by rw [eqv_tt]; exact q⟩
def rNeLT2 : R2 := fun x y H Q => ∃ a b : List (List Int), LT2 H x a ∧ LT2 H y b ∧ Q (.bl (!decide (a = b))) H
theorem op_neLT2 (hu : X.A.units + 64 < cLine) : OpR X (compareOp .NotEq) rNeLT2 := by
  intro pins s σ H x y v u Q I rx ry h
  obtain ⟨a, b, h1, h2, q⟩ := h
  exact op_neD hu pins s σ H x y v u Q I rx ry ⟨_, _, h1.dp, h2.dp, shaped_l a, shaped_l b, by rw [eqv_ll]; exact q⟩
/-- state in a list of such -/
def rInTI : R2 := fun x y H Q => ∃ (a : List Int) (b : List (List Int)), TI H x a ∧ LT2 H y b ∧ Q (.bl (decide (a ∈ b))) H
theorem any_rows (a : List Int) : ∀ b : List (List Int), ((b.map dI).any fun z => PyData.eqv z (dI a)) = decide (a ∈ b)
  | [] => by simp
  | x :: xs => by
    rw [List.map_cons, List.any_cons, eqv_tt, any_rows a xs]
    by_cases h : x = a
    · simp [h]
    · have : ¬ a = x := fun z => h z.symm
      simp [h, this]
theorem op_inTI (hu : X.A.units + 65 < cLine) : OpR X (compareOp .In) rInTI := by
  intro pins s σ H x y v u Q I rx ry h
  obtain ⟨a, b, h1, h2, q⟩ := h
  exact op_inD hu pins s σ H x y v u Q I rx ry ⟨_, _, h1.dp, h2.dp, shaped_t a, shaped_l b, by rw [any_rows]; exact q⟩
/-- rows.index(row) -/
def rIndexTI : V → List V → Hp → VK → Prop := fun x xs H Q => ∃ (y : V) (a : List Int) (b : List (List Int)) (j : Nat), xs = [y] ∧ TI H y a ∧ LT2 H x b ∧ b[j]? = some a ∧ (∀ m, m < j → b[m]? ≠ some a) ∧ Q (.int (j : Nat)) H
theorem mt_indexTI (hu : X.A.units + 65 < cLine) : MtR X "list.index" rIndexTI := by
  intro pins s σ H x xs v us Q I rx ry h
  obtain ⟨y, a, b, j, e, h1, h2, hj, hm, q⟩ := h
  obtain ⟨p, vs, e2, h3, h4⟩ := id h2
  refine mt_indexD hu pins s σ H x xs v us Q I rx ry ⟨p, y, dI a, b.map dI, j, dI a, e2, e, by rw [← e2]; exact h2.dp, h1.dp, shaped_l b, shaped_t a, by rw [List.getElem?_map, hj]; rfl, by rw [eqv_tt]; simp, fun m z' hlt hz => ?_, q⟩
  rw [List.getElem?_map] at hz
  cases e3 : b[m]? with
  | none => rw [e3] at hz; cases hz
  | some r =>
    rw [e3] at hz
    cases hz
    rw [eqv_tt]
    refine decide_eq_false fun z => hm m hlt ?_
    rw [e3, z]
end
end Lk
namespace Lk
open PySem PySem.Spec PyProof.Rows L2 Gx
variable [Own]
/-- quant_it where the answer is a test's -/
theorem quant_test {want : Bool} {J : It} {n : Nat} {G : Hp → Prop} {Y : Nat → Hp → V → Hp → Prop} (w : Walk J n G Y) {g : TG} {tt : TT} {te : TE} {vs : List Nat} {σ : L2.St} {H2 : Hp} {R : Bool → Hp → Prop} (Pv : Nat → Hp → Prop) (h0 : Pv 0 H2) (hG : ∀ i H, i ≤ n → Pv i H → G H)
    (hs : ∀ i x H H', i < n → Pv i H → Y i H x H' → g x (wipe σ vs) H' fun σ2 H3 => wipe σ2 vs = wipe σ vs ∧ tt σ2 H3 fun b H4 => if b = true then te σ2 H4 fun y H5 => ∃ c, y = .bl c ∧ if c = want then (∃ d, V.bl want = .bl d ∧ R d H5) else Pv (i + 1) H5 else Pv (i + 1) H4)
    (hd : ∀ H, Pv n H → R (!want) H) :
    ∃ W : Nat → Nat → Hp → Prop, (∃ m, W 0 m H2) ∧ ∀ i m H, W i m H →
      (J.stop i H ∧ ∃ d, V.bl (!want) = .bl d ∧ R d H) ∨ (J.go i H ∧ 0 < m ∧ ∃ Nx : Hp → Prop, (∀ H', Nx H' → ∃ m', m' < m ∧ W (i + 1) m' H') ∧ ∀ x H', J.yld i H x H' → g x (wipe σ vs) H' fun σ2 H3 => wipe σ2 vs = wipe σ vs ∧ tt σ2 H3 fun b H4 =>
        if b = true then te σ2 H4 fun y H5 => ∃ c, y = .bl c ∧ if c = want then (∃ d, V.bl want = .bl d ∧ R d H5) else Nx H5 else Nx H4) :=
  quant_it (Q := fun x H => ∃ d, x = .bl d ∧ R d H) w Pv h0 hG hs fun H p => ⟨_, rfl, hd H p⟩
end Lk
namespace Lk
open PySem PySem.Spec PyProof.Rows L2 Gx
variable [Own]
section
variable {X : Cx}
/-- a list's method, called: the list is tracked -/
def tBML (r : V → List V → Hp → VK → Prop) (to : TE) (t : TA) : TE := fun σ H Q => to σ H fun x H1 => (∃ p xs, x = .ref p ∧ H1 p = some (.lst xs)) ∧ t σ H1 fun vs H2 => r x vs H2 Q
variable {o e : Expr} {es : List Expr} {to : TE} {t : TA} {name : Str} {apos cpos : Pos} {id : String} {r : V → List V → Hp → VK → Prop}
theorem pe_bmL (pa : PlainAttrs "list") (slot : Slot "list" name id) (hty : typeOf (.builtin id) = pure (.type "method_descriptor")) (hm : MtR X id r) (ho : PE X o to) (ha : PA X (e :: es) t)
    (hbase : attributeBase o name X.env (eval o X.env) = eval o X.env := by rfl)
    (hfew : ((backTo cpos (starEach (e :: es) X.env)).all (fun x => !x.1) && (backToKw cpos (keywordEach [] X.env)).all (fun x => x.1.isSome)
      && decide ((e :: es).length + ([] : List Keyword).length + (if ([] : List Keyword).isEmpty then 0 else 1) < 30)) = true := by rfl)
    (hline : (apos.endLine == cpos.line) = true := by rfl) (hs : starEach (e :: es) X.env = (false, eval e X.env) :: starEach es X.env := by rfl) (hplain : (backTo cpos (starEach es X.env)).any (·.1) = false := by rfl) :
    PE X (.Call (.Attribute o name apos) (e :: es) [] cpos) (tBML r to t) := by
  refine ⟨fun pins s σ H Q I h => ?_⟩
  refine wpAny_Call_method_late hbase hfew hline rfl (thn (ho.run pins s σ H _ I h) fun v s1 ⟨x, H1, I1, r1, ⟨p, xs, ex, hp⟩, q1⟩ => ?_)
  obtain ⟨h1, h2⟩ := tyV_is (T := "list") I1 r1 (by rw [ex]; exact .inl ⟨rfl, _, SqL.of hp⟩)
  refine ⟨"list", id, pa, slot, hty, h1, h2, ?_⟩
  have hA := ha.run cpos pins s1 σ H1 _ I1 q1
  rw [hs] at hA ⊢
  refine Calls.callWith_builtin (by show (false || (backTo cpos (starEach es X.env)).any (·.1)) = false; rw [hplain] <;> rfl) (Calls.evalArgs_plain ?_)
  exact thn hA fun us s2 ⟨vs, H2, I2, r2, q2⟩ => hm pins s2 σ H2 x vs v us Q I2 r1 r2 q2
def rCntL : V → List V → Hp → VK → Prop := fun x xs H Q => ∃ (p : Addr) (ns : List Int) (k : Int), x = .ref p ∧ xs = [.int k] ∧ H p = some (.lst (iv ns)) ∧ Q (.int (ns.count k : Nat)) H
theorem mt_cntL : MtR X "list.count" rCntL := by
  intro pins s σ H x xs v us Q I rx ry h
  obtain ⟨p, ns, k, e1, e2, h1, q⟩ := h
  exact mt_lcount pins s σ H x xs v us Q I rx ry ⟨p, ns, k, e1, e2, SqL.of h1, q⟩
end
/-- a range's turns -/
theorem rng_len {i : Nat} {H : Hp} {x : V} {H' : Hp} (y : YFn (fun i => V.int (0 + (i : Int))) i H x H') : H' = H ∧ x = .int (i : Int) := by
  obtain ⟨e, ex⟩ := y
  exact ⟨e, ex.trans (by show V.int (0 + ((i : Nat) : Int)) = _; rw [Int.zero_add])⟩
/-- two ascending lists of the same things -/
theorem asc_eq {α : Type} {f : α → Int} : ∀ {l m : List α}, l.Pairwise (fun x y => f x < f y) → m.Pairwise (fun x y => f x < f y) → (∀ x, x ∈ l ↔ x ∈ m) → l = m
  | [], [], _, _, _ => rfl
  | [], b :: m, _, _, h => by have := (h b).mpr (List.mem_cons_self ..); simp at this
  | a :: l, [], _, _, h => by have := (h a).mp (List.mem_cons_self ..); simp at this
  | a :: l, b :: m, hl, hm, h => by
    obtain ⟨hl1, hl2⟩ := List.pairwise_cons.mp hl
    obtain ⟨hm1, hm2⟩ := List.pairwise_cons.mp hm
    have hab : a = b := by
      rcases List.mem_cons.mp ((h a).mp (List.mem_cons_self ..)) with e | ha
      · exact e
      · rcases List.mem_cons.mp ((h b).mpr (List.mem_cons_self ..)) with e | hb
        · exact e.symm
        · have := hm1 a ha
          have := hl1 b hb
          omega
    subst hab
    congr 1
    refine asc_eq hl2 hm2 fun x => ⟨fun hx => ?_, fun hx => ?_⟩
    · rcases List.mem_cons.mp ((h x).mp (List.mem_cons_of_mem _ hx)) with e | h1
      · have := hl1 x hx
        rw [e] at this
        omega
      · exact h1
    · rcases List.mem_cons.mp ((h x).mpr (List.mem_cons_of_mem _ hx)) with e | h1
      · have := hm1 x hx
        rw [e] at this
        omega
      · exact h1
/-- addresses and rows -/
theorem paired_ks {H : Hp} : ∀ {vs : List V} {rows : List (List Int)}, Paired (TI H) vs rows → ∃ ks : List (Addr × List Int), vs = ks.map (fun p => V.ref p.1) ∧ rows = ks.map (·.2) ∧ ∀ p ∈ ks, H p.1 = some (.tup (iv p.2))
  | _, _, .nil => ⟨[], rfl, rfl, fun p h => by simp at h⟩
  | v :: vs, r :: rows, .cons ⟨a, e, h⟩ t => by
    obtain ⟨ks, e1, e2, e3⟩ := paired_ks t
    subst e e1 e2
    refine ⟨(a, r) :: ks, rfl, rfl, fun p hp => ?_⟩
    rcases List.mem_cons.mp hp with e | hp
    · rw [e]; exact h
    · exact e3 p hp
theorem ks_paired {H : Hp} : ∀ {ks : List (Addr × List Int)}, (∀ p ∈ ks, H p.1 = some (.tup (iv p.2))) → Paired (TI H) (ks.map fun p => V.ref p.1) (ks.map (·.2))
  | [], _ => .nil
  | k :: ks, h => .cons ⟨k.1, rfl, h k (List.mem_cons_self ..)⟩ (ks_paired fun p hp => h p (List.mem_cons_of_mem _ hp))
end Lk

/-! ## D02b -/
set_option Elab.async false
set_option linter.all false
set_option maxRecDepth 100000
set_option maxHeartbeats 2000000
namespace Lk
open PySem PySem.Spec PyProof.Rows L2 Gx
open GxR (TabG Tabbed TabB)
variable [Own]
abbrev s_are_tops : Stmt := top 11
theorem sc_are_tops : FnScope ["value", "top"] ["value"] (defScope s_are_tops) := ⟨rfl, rfl, rfl, by decide +kernel, rfl, by decide +kernel, by decide +kernel⟩
def spAreTops (Ps : List Addr) : Sp := fun vs H Q _ => ∃ (v : V) (tops : List Int), vs = [v] ∧ TI H v tops ∧ (1 ≤ tops.length ∧ tops.length ≤ 6) ∧ (∀ t ∈ tops, 1 ≤ t ∧ t ≤ 3) ∧ Tabs Ps H ∧ ∀ H', Ext H H' → Q (.bl true) H'
section
variable {P : Program} {w : World} {K : PySem.W.Frag} {mg : Str → Option Value} {base : Heap} {Ps : List Addr}
theorem ok_are_tops {f T : Addr} {fd : FuncData} (F : FunT K mg base Ps "are_tops" s_are_tops f fd T) (B : Blt mg) (M : Nums mg)
    (c_is_whole : Cal P w K mg base CX0 1 "is_whole" ["value", "least", "most"] spIsWhole) : FnOk P w K mg base CX0 3 f fd ["value"] (spAreTops Ps) := by
  refine F.ok sc_are_tops (fun vs H Q E h => ?_) (fun c A outer s H vs Q E TB hr h => ?_)
  · obtain ⟨v, tops, rfl, _⟩ := h
    rfl
  · obtain ⟨v, tops, rfl, ⟨a, rfl, ha⟩, ⟨h1, h6⟩, hT, hTb, k⟩ := h
    refine ⟨_, (pss_cons (ps_if (PW.pt (pw_or (pt_not (pt_val (pe_callB call_isi (by rfl) B.isi boot_isinstance (pa_cons (pv 0) (pa_cons (pe_bltn (v := .ty "tuple") (by rfl) B.tuple boot_tyTuple rfl) pa_nil))))) (pw_or1 (pt_not (pt_chain op_le op_le pe_int (pe_callB call_lenT (by rfl) B.len PySem.boot_len (pa_cons (pv 0) pa_nil)) (pe_num M.MOST_FOLK (by rfl)))))))
        (pss_one (ps_ret pe_bl)) pss_nil)
      (pss_one (ps_ret (pe_allG (own := [("top", 1)]) (k := 1) (hr.mono (by decide)) rfl sc_are_tops.nd (by rfl) B.all TB rfl (pi_tup (pv 0)) ⟨(blkOk_by (N := ["value", "top"]) (sc := defScope s_are_tops) (by decide +kernel)), noCells_ok (by decide +kernel), rfl, rfl⟩ (fun _ _ _ _ _ _ => (pg_name (i := 1) sc_are_tops.nd rfl (by first | exact Or.inl rfl | exact Or.inr rfl))) (fun _ _ _ _ _ _ hr' => pts_nil) (fun _ _ _ _ _ _ hr' => (pe_c0 c_is_whole (hr'.mono (by decide)) (by rfl) (pa_cons (pv 1) (pa_cons pe_int (pa_cons (pe_num M.MOST_TOP (by rfl)) pa_nil))))))))), ?_⟩
    have lenT : (iv tops).length = tops.length := iv_len tops
    refine ⟨_, rfl, _, _, _, _, true, rfl, .ty "tuple", isi_tup ha, kit_ty (by decide +kernel), _, rfl, iteF ?_⟩
    refine ⟨_, rfl, _, _, rfl, .inr ha, _, _, rfl, rfl, true, ?_⟩
    have e1 : decide ((1 : Int) ≤ ((iv tops).length : Int)) = true := decide_eq_true (by rw [lenT]; omega)
    have e2 : decide (((iv tops).length : Int) ≤ (6 : Int)) = true := decide_eq_true (by rw [lenT]; omega)
    refine ⟨congrArg V.bl e1, iteT ⟨_, _, rfl, rfl, true, congrArg V.bl e2, iteF ?_⟩⟩
    have hg : TabG H T := hTb T F.mem
    refine ⟨_, rfl, a, rfl, ⟨_, SqT.of ha⟩, hg, fun H2 hT2 => ?_⟩
    have E2 : Ext H H2 := Ext.tabbed F.nown hg hT2
    refine quant_it (walk_tup (xs := iv tops)) (fun _ H' => H' = H2) rfl (fun i H' _ e => by rw [e]; exact SqT.of (E2.tup ha)) (fun i x H' H'' hi e y => ?_) fun H' e => by rw [e]; exact k H2 E2
    obtain ⟨e', hx⟩ := y
    subst e e'
    obtain ⟨n, hn, rfl⟩ := iv_get hx
    refine ⟨rfl, yes ?_⟩
    refine ⟨_, rfl, n, 1, 3, rfl, ?_⟩
    have hb := hT n (List.mem_of_getElem? hn)
    have e3 : isWhole n 1 3 = true := by simp [isWhole, hb.1, hb.2]
    refine ⟨true, congrArg V.bl e3, iteTF rfl⟩
end
end Lk


/-! ## D03 -/
set_option Elab.async false
set_option linter.all false
set_option maxRecDepth 100000
set_option maxHeartbeats 2000000
namespace Lk
open PySem PySem.Spec PyProof.Rows L2 Gx
open GxR (TabG Tabbed TabB)
variable [Own]
abbrev s_is_look : Stmt := top 12
theorem sc_is_look : FnScope ["value", "many", "one", "other", "sign"] ["value", "many"] (defScope s_is_look) := ⟨rfl, rfl, rfl, by decide +kernel, rfl, by decide +kernel, by decide +kernel⟩
def spIsLook : Sp := fun vs H Q _ => ∃ (v : V) (n a b s : Int), vs = [v, .int n] ∧ TI H v [a, b, s] ∧ (0 ≤ a ∧ a < n) ∧ (0 ≤ b ∧ b < n) ∧ (s = 1 ∨ s = -1) ∧ Q (.bl true) H
section
variable {P : Program} {w : World} {K : PySem.W.Frag} {mg : Str → Option Value} {base : Heap} {Ps : List Addr}
theorem whole_in {i lo hi : Int} (h : lo ≤ i) (h2 : i ≤ hi) : isWhole i lo hi = true := by simp [isWhole, h, h2]
theorem ok_is_look {f : Addr} {fd : FuncData} (F : Fun K "is_look" "is_look" s_is_look f fd) (B : Blt mg)
    (c_is_whole : Cal P w K mg base CX0 1 "is_whole" ["value", "least", "most"] spIsWhole) : FnOk P w K mg base CX0 2 f fd ["value", "many"] spIsLook := by
  refine F.ok sc_is_look (fun vs H Q E h => ?_) (fun cdv A outer s H vs Q E hr h => ?_)
  · obtain ⟨v, n, a, b, s, rfl, _⟩ := h
    rfl
  · obtain ⟨v, n, a, b, sg, rfl, ⟨p, rfl, hp⟩, ⟨ha, ha2⟩, ⟨hb, hb2⟩, hs, k⟩ := h
    refine ⟨_, (pss_cons (ps_if (PW.pt (pw_or (pt_not (pt_val (pe_callB call_isi (by rfl) B.isi boot_isinstance (pa_cons (pv 0) (pa_cons (pe_bltn (v := .ty "tuple") (by rfl) B.tuple boot_tyTuple rfl) pa_nil))))) (pw_or1 (pt_cmpR op_ne (pe_callB call_lenT (by rfl) B.len PySem.boot_len (pa_cons (pv 0) pa_nil)) pe_int (nomark _)))))
        (pss_one (ps_ret pe_bl)) pss_nil)
      (pss_cons (ps_asg (pv 0) (pg_tupT (n := 3) rfl (pgs_cons (pg_name (i := 2) sc_is_look.nd rfl (by first | exact Or.inl rfl | exact Or.inr rfl)) (pgs_cons (pg_name (i := 3) sc_is_look.nd rfl (by first | exact Or.inl rfl | exact Or.inr rfl)) (pgs_cons (pg_name (i := 4) sc_is_look.nd rfl (by first | exact Or.inl rfl | exact Or.inr rfl)) pgs_nil)))))
      (pss_cons (ps_if (PW.pt (pw_or (pt_not (pt_val (pe_c0 c_is_whole (hr.mono (by decide)) (by rfl) (pa_cons (pv 2) (pa_cons pe_int (pa_cons (pe_op op_sub (pv 1) pe_int) pa_nil)))))) (pw_or1 (pt_not (pt_val (pe_c0 c_is_whole (hr.mono (by decide)) (by rfl) (pa_cons (pv 3) (pa_cons pe_int (pa_cons (pe_op op_sub (pv 1) pe_int) pa_nil)))))))))
        (pss_one (ps_ret pe_bl)) pss_nil)
      (pss_one (ps_ret (pe_and (pe_c0 c_is_whole (hr.mono (by decide)) (by rfl) (pa_cons (pv 4) (pa_cons (pe_un un_neg pe_int) (pa_cons pe_int pa_nil)))) (pe_one (pe_cmpR op_ne (pv 4) pe_int (nomark _))))))))), ?_⟩
    refine ⟨_, rfl, _, _, _, _, true, rfl, .ty "tuple", isi_tup hp, kit_ty (by decide +kernel), _, rfl, iteF ?_⟩
    refine ⟨_, rfl, _, _, rfl, .inr hp, rfl, _, rfl, iteF ?_⟩
    refine ⟨_, rfl, p, _, rfl, hp, rfl, _, _, rfl, _, _, rfl, _, _, rfl, rfl, ?_⟩
    refine ⟨_, rfl, _, rfl, _, _, rfl, rfl, a, 0, n - 1, rfl, _, rfl, ?_⟩
    rw [whole_in ha (by omega)]
    refine iteF ⟨_, rfl, _, rfl, _, _, rfl, rfl, b, 0, n - 1, rfl, _, rfl, ?_⟩
    rw [whole_in hb (by omega)]
    refine iteF ⟨_, rfl, _, rfl, sg, -1, 1, rfl, _, rfl, ?_⟩
    rw [whole_in (by omega) (by omega)]
    refine iteT ⟨_, rfl, rfl, ?_⟩
    have e : (!decide (V.int sg = V.int 0)) = true := by
      rw [decide_eq_false (fun z => by cases z; omega)]
      rfl
    show Q (V.bl (!decide (V.int sg = V.int 0))) H
    rw [e]
    exact k
end
end Lk


/-! ## D04 -/
set_option Elab.async false
set_option linter.all false
set_option maxRecDepth 100000
set_option maxHeartbeats 2000000
namespace Lk
open PySem PySem.Spec PyProof.Rows L2 Gx
open GxR (TabG Tabbed TabB)
variable [Own]
/-- at whom one looks, with which sign -/
def looksOf (W : Web) (f : Int) : List (Int × Int) := (W.looks.filter fun l => l.2.1 == f).map fun l => (l.1, l.2.2)
def row2 (p : Int × Int) : List Int := [p.1, p.2]
abbrev s_looks_of : Stmt := top 17
theorem sc_looks_of : FnScope ["web", "folk", "_", "looks", "one", "other", "sign"] ["web", "folk"] (defScope s_looks_of) := ⟨rfl, rfl, rfl, by decide +kernel, rfl, by decide +kernel, by decide +kernel⟩
def spLooksOf : Sp := fun vs H Q _ => ∃ (v : V) (W : Web) (f : Int), vs = [v, .int f] ∧ WebAt H v W ∧ W.looks.length ≤ 14 ∧ ∀ H' p vs, Ext H H' → H p = none → H' p = some (.lst vs) → Paired (TI H') vs ((looksOf W f).map row2) → Q (.ref p) H'
theorem take_snoc {α : Type} {l : List α} {i : Nat} {x : α} (h : l[i]? = some x) : l.take (i + 1) = l.take i ++ [x] := by
  rw [List.take_add_one, h]; rfl
section
variable {P : Program} {w : World} {K : PySem.W.Frag} {mg : Str → Option Value} {base : Heap} {Ps : List Addr}
theorem ok_looks_of {f : Addr} {fd : FuncData} (F : Fun K "looks_of" "looks_of" s_looks_of f fd) : FnOk P w K mg base CX0 1 f fd ["web", "folk"] spLooksOf := by
  refine F.ok sc_looks_of (fun vs H Q E h => ?_) (fun cdv A outer s H vs Q E hr h => ?_)
  · obtain ⟨v, W, n, rfl, _⟩ := h
    rfl
  · obtain ⟨v, W, n, rfl, ⟨a, t, l, rfl, ha, ht, ⟨b, ls, rfl, hb, hls⟩⟩, h14, k⟩ := h
    refine ⟨_, (pss_cons (ps_asg (pv 0) (pg_tupT (n := 2) rfl (pgs_cons (pg_name (i := 2) sc_looks_of.nd rfl (by first | exact Or.inl rfl | exact Or.inr rfl)) (pgs_cons (pg_name (i := 3) sc_looks_of.nd rfl (by first | exact Or.inl rfl | exact Or.inr rfl)) pgs_nil))))
      (pss_one (ps_ret (pe_lc (own := [("one", 4), ("other", 5), ("sign", 6)]) rfl sc_looks_of.nd (pi_tup (pv 3)) (blkOk_by (N := ["web", "folk", "_", "looks", "one", "other", "sign"]) (sc := defScope s_looks_of) (by decide +kernel)) (fun _ _ _ _ _ => (pg_tupT (n := 3) rfl (pgs_cons (pg_name (i := 4) sc_looks_of.nd rfl (by first | exact Or.inl rfl | exact Or.inr rfl)) (pgs_cons (pg_name (i := 5) sc_looks_of.nd rfl (by first | exact Or.inl rfl | exact Or.inr rfl)) (pgs_cons (pg_name (i := 6) sc_looks_of.nd rfl (by first | exact Or.inl rfl | exact Or.inr rfl)) pgs_nil))))) (fun _ _ _ _ _ => (pts_one (pt_cmpR op_eq (pv 5) (pv 1) (nomark _)))) (fun _ _ _ _ _ => (pe_tup (pa_cons (pv 4) (pa_cons (pv 6) pa_nil)))))))), ?_⟩
    refine ⟨_, rfl, a, _, rfl, ha, rfl, _, _, rfl, _, _, rfl, rfl, ?_⟩
    refine ⟨_, rfl, b, rfl, ⟨_, SqT.of hb⟩, fun D hD => ?_⟩
    have llen : ls.length = W.looks.length := by rw [paired_len hls, List.length_map]
    refine lc_tup (xs := ls) (fun i H' => ∃ acc, H' D = some (.lst acc) ∧ Ext H H' ∧ acc.length ≤ i ∧ Paired (TI H') acc ((((W.looks.take i).filter fun l => l.2.1 == n).map fun l => (l.1, l.2.2)).map row2)) ⟨[], upd_same, Ext.new hD _, Nat.le_refl _, .nil⟩ (fun i H' _ ⟨_, _, e, _⟩ => SqT.of (e.tup hb)) (fun i x H' hi ⟨acc, hacc, e, hl, hp⟩ => ?_) fun H' ⟨acc, hacc, e, hl, hp⟩ => ?_
    · obtain ⟨row, hrow, hx⟩ := paired_get' (pTI.ext e hls) hi
      obtain ⟨lk, hlk, rfl⟩ : ∃ lk, W.looks[i]? = some lk ∧ row = row3 lk := by
        rw [List.getElem?_map] at hrow
        cases q : W.looks[i]? with
        | none => rw [q] at hrow; cases hrow
        | some lk => rw [q] at hrow; exact ⟨lk, rfl, (Option.some.inj hrow).symm⟩
      obtain ⟨p, rfl, hp1⟩ := hx
      have hi14 : i < 14 := by
        have := (List.getElem?_eq_some_iff.mp hlk).1
        omega
      refine ⟨p, _, rfl, hp1, rfl, _, _, rfl, _, _, rfl, _, _, rfl, rfl, rfl, ?_⟩
      refine ⟨_, rfl, _, rfl, rfl, _, rfl, ?_⟩
      rw [take_snoc hlk, List.filter_append]
      by_cases hf : lk.2.1 = n
      · have e1 : decide (V.int lk.2.1 = V.int n) = true := decide_eq_true (by rw [hf])
        have e2 : (lk.2.1 == n) = true := by rw [hf]; exact beq_self_eq_true n
        rw [e1]
        refine iteT ⟨_, rfl, _, rfl, (by show 2 ≤ sizeLine; decide), fun q hq => ?_⟩
        have dq : D ≠ q := ne_of_none hacc hq
        refine ⟨acc, by rw [upd_ne dq]; exact hacc, small1000 (by omega), acc ++ [.ref q], upd_same, (e.trans (Ext.new hq _)).put hD _, by rw [List.length_append]; simp; omega, ?_⟩
        have F1 : [lk].filter (fun l => l.2.1 == n) = [lk] := by rw [List.filter_cons, if_pos e2]; rfl
        rw [F1, List.map_append, List.map_append]
        refine paired_snoc ⟨q, rfl, by rw [upd_ne dq.symm]; exact upd_same⟩ ?_
        refine paired_mono (fun x r h => ?_) hp
        obtain ⟨z, rfl, hz⟩ := h
        exact ⟨z, rfl, by rw [upd_ne (ne_of hacc hz (by intro q; cases q)).symm, upd_ne (ne_of_none hz hq)]; exact hz⟩
      · have e1 : decide (V.int lk.2.1 = V.int n) = false := decide_eq_false (fun z => hf (by cases z; rfl))
        have e2 : (lk.2.1 == n) = false := by simpa using hf
        rw [e1]
        have F1 : [lk].filter (fun l => l.2.1 == n) = [] := by rw [List.filter_cons, e2]; rfl
        rw [F1, List.append_nil]
        exact iteF ⟨acc, hacc, e, by omega, hp⟩
    · rw [llen, List.take_length] at hp
      exact k H' D acc e hD hacc hp
end
end Lk


/-! ## Lc2 -/
set_option Elab.async false
set_option linter.all false
set_option maxRecDepth 100000
set_option maxHeartbeats 2000000
namespace Lk
open PySem PySem.Spec PyProof.Rows L2 Gx
variable [Own]
/-- the outer walk of a comprehension of two clauses -/
theorem lc2_out {J : It} {n : Nat} {G : Hp → Prop} {Y : Nat → Hp → V → Hp → Prop} (w : Walk J n G Y) {g g1 : TG} {tt tt1 : TT} {wi1 : L2.TI} {te : TE} {vs vs1 : List Nat} {σ : L2.St} {H1 : Hp} {D : Addr} {Qd : Hp → Prop} (Pv : Nat → Hp → Prop) (h0 : Pv 0 (upd H1 D (.lst []))) (hG : ∀ i H, i ≤ n → Pv i H → G H)
    (hs : ∀ i x H H', i < n → Pv i H → Y i H x H' → g x (wipe σ vs) H' fun σ2 H2 => wipe σ2 vs = wipe σ vs ∧ tt σ2 H2 fun b H3 =>
      if b = true then wi1 σ2 H3 fun J1 H4 => ∃ W1 : Nat → Nat → Hp → Prop, (∃ m, W1 0 m H4) ∧ ∀ j k H, W1 j k H →
        (J1.stop j H ∧ Pv (i + 1) H) ∨ (J1.go j H ∧ ∃ Nx1 : Hp → Prop, (∀ H', Nx1 H' → ∃ k', k' < k ∧ W1 (j + 1) k' H') ∧ ∀ x H', J1.yld j H x H' → g1 x (wipe σ2 vs1) H' fun σ3 H5 => wipe σ3 vs1 = wipe σ2 vs1 ∧ tt1 σ3 H5 fun b H6 =>
          if b = true then te σ3 H6 fun y H7 => ∃ acc, H7 D = some (.lst acc) ∧ acc.length < sizeLine ∧ Nx1 (upd H7 D (.lst (acc ++ [y]))) else Nx1 H6)
      else Pv (i + 1) H3) (hd : ∀ H, Pv n H → Qd H) :
    ∃ W : Nat → Nat → Hp → Prop, (∃ m, W 0 m (upd H1 D (.lst []))) ∧ ∀ i m H, W i m H →
      (J.stop i H ∧ Qd H) ∨ (J.go i H ∧ ∃ Nx : Hp → Prop, (∀ H', Nx H' → ∃ m', m' < m ∧ W (i + 1) m' H') ∧ ∀ x H', J.yld i H x H' → g x (wipe σ vs) H' fun σ2 H2 => wipe σ2 vs = wipe σ vs ∧ tt σ2 H2 fun b H3 =>
        if b = true then wi1 σ2 H3 fun J1 H4 => ∃ W1 : Nat → Nat → Hp → Prop, (∃ m, W1 0 m H4) ∧ ∀ j k H, W1 j k H →
          (J1.stop j H ∧ Nx H) ∨ (J1.go j H ∧ ∃ Nx1 : Hp → Prop, (∀ H', Nx1 H' → ∃ k', k' < k ∧ W1 (j + 1) k' H') ∧ ∀ x H', J1.yld j H x H' → g1 x (wipe σ2 vs1) H' fun σ3 H5 => wipe σ3 vs1 = wipe σ2 vs1 ∧ tt1 σ3 H5 fun b H6 =>
            if b = true then te σ3 H6 fun y H7 => ∃ acc, H7 D = some (.lst acc) ∧ acc.length < sizeLine ∧ Nx1 (upd H7 D (.lst (acc ++ [y]))) else Nx1 H6)
        else Nx H3) := by
  refine ⟨fun i m H => m = n - i ∧ i ≤ n ∧ Pv i H, ⟨n, by simp, Nat.zero_le _, h0⟩, ?_⟩
  rintro i m H ⟨rfl, hi, p⟩
  have q := hG i H hi p
  by_cases hlt : i < n
  · exact .inr ⟨w.goes i H hlt q, Pv (i + 1), fun H' p' => ⟨n - (i + 1), by omega, rfl, hlt, p'⟩, fun x H' y => hs i x H H' hlt p (w.yields i H x H' hlt q y)⟩
  · have e : i = n := by omega
    subst e
    exact .inl ⟨w.stops H q, hd H p⟩
/-- the inner one -/
theorem lc2_in {J : It} {n : Nat} {G : Hp → Prop} {Y : Nat → Hp → V → Hp → Prop} (w : Walk J n G Y) {g : TG} {tt : TT} {te : TE} {vs : List Nat} {σ : L2.St} {H4 : Hp} {D : Addr} {Qd : Hp → Prop} (Pv : Nat → Hp → Prop) (h0 : Pv 0 H4) (hG : ∀ i H, i ≤ n → Pv i H → G H)
    (hs : ∀ i x H H', i < n → Pv i H → Y i H x H' → g x (wipe σ vs) H' fun σ2 H2 => wipe σ2 vs = wipe σ vs ∧ tt σ2 H2 fun b H3 =>
      if b = true then te σ2 H3 fun y H4 => ∃ acc, H4 D = some (.lst acc) ∧ acc.length < sizeLine ∧ Pv (i + 1) (upd H4 D (.lst (acc ++ [y]))) else Pv (i + 1) H3) (hd : ∀ H, Pv n H → Qd H) :
    ∃ W : Nat → Nat → Hp → Prop, (∃ m, W 0 m H4) ∧ ∀ i m H, W i m H →
      (J.stop i H ∧ Qd H) ∨ (J.go i H ∧ ∃ Nx : Hp → Prop, (∀ H', Nx H' → ∃ m', m' < m ∧ W (i + 1) m' H') ∧ ∀ x H', J.yld i H x H' → g x (wipe σ vs) H' fun σ2 H2 => wipe σ2 vs = wipe σ vs ∧ tt σ2 H2 fun b H3 =>
        if b = true then te σ2 H3 fun y H4 => ∃ acc, H4 D = some (.lst acc) ∧ acc.length < sizeLine ∧ Nx (upd H4 D (.lst (acc ++ [y]))) else Nx H3) := by
  refine ⟨fun i m H => m = n - i ∧ i ≤ n ∧ Pv i H, ⟨n, by simp, Nat.zero_le _, h0⟩, ?_⟩
  rintro i m H ⟨rfl, hi, p⟩
  have q := hG i H hi p
  by_cases hlt : i < n
  · exact .inr ⟨w.goes i H hlt q, Pv (i + 1), fun H' p' => ⟨n - (i + 1), by omega, rfl, hlt, p'⟩, fun x H' y => hs i x H H' hlt p (w.yields i H x H' hlt q y)⟩
  · have e : i = n := by omega
    subst e
    exact .inl ⟨w.stops H q, hd H p⟩
/-- a new list's pairs, told anew behind growth -/
theorem pTI.put {H H' : Hp} {D : Addr} {acc : List V} {rows : List (List Int)} {o : HO} (hD : H D = some (.lst acc)) (e : ∀ a xs, H a = some (.tup xs) → H' a = some (.tup xs)) {vs : List V} (p : Paired (TI H) vs rows) : Paired (TI (upd H' D o)) vs rows :=
  paired_mono (fun x r h => by
    obtain ⟨z, rfl, hz⟩ := h
    exact ⟨z, rfl, by rw [upd_ne (ne_of hD hz (by intro q; cases q)).symm]; exact e _ _ hz⟩) p
end Lk

/-! ## D06 -/
set_option Elab.async false
set_option linter.all false
set_option maxRecDepth 100000
set_option maxHeartbeats 2000000
namespace Lk
open PySem PySem.Spec PyProof.Rows L2 Gx
open GxR (TabG Tabbed TabB)
variable [Own]
abbrev s_are_looks : Stmt := top 13
theorem sc_are_looks : FnScope ["value", "many", "look", "one", "other", "_", "pairs", "lookers", "folk"] ["value", "many"] (defScope s_are_looks) := ⟨rfl, rfl, rfl, by decide +kernel, rfl, by decide +kernel, by decide +kernel⟩
def spAreLooks (Ps : List Addr) : Sp := fun vs H Q _ => ∃ (v : V) (W : Web), vs = [v, .int W.tops.length] ∧ TT2 H v (W.looks.map row3) ∧ W.Ok ∧ Tabs Ps H ∧ ∀ H', Ext H H' → Q (.bl true) H'
def pair2 (l : Look3) : List Int := [l.1, l.2.1]
theorem pairs_asc {W : Web} (ok : W.Ok) : (W.looks.map pair2).Pairwise fun x y => TS.code 64 x < TS.code 64 y := by
  rw [List.pairwise_map]
  refine List.Pairwise.imp_of_mem (fun {a b} ha hb h => ?_) ok.asc
  have h1 := ok.look a ha
  have h2 := ok.look b hb
  have h6 := ok.few
  unfold pair2
  rw [code_pair, code_pair]
  omega
section
variable {P : Program} {w : World} {K : PySem.W.Frag} {mg : Str → Option Value} {base : Heap} {Ps : List Addr}
theorem row3_at {H : Hp} {vs : List V} {ls : List Look3} {i : Nat} {x : V} (p : Paired (TI H) vs (ls.map row3)) (h : vs[i]? = some x) : ∃ l q, ls[i]? = some l ∧ x = .ref q ∧ H q = some (.tup [.int l.1, .int l.2.1, .int l.2.2]) := by
  obtain ⟨row, hrow, q, e, hq⟩ := paired_get' p h
  rw [List.getElem?_map] at hrow
  cases e2 : ls[i]? with
  | none => rw [e2] at hrow; cases hrow
  | some l =>
    rw [e2] at hrow
    obtain rfl := Option.some.inj hrow
    exact ⟨l, q, rfl, e, hq⟩
theorem pair_at {H : Hp} {vs : List V} {ls : List Look3} {i : Nat} {x : V} (p : Paired (TI H) vs (ls.map pair2)) (h : vs[i]? = some x) : ∃ l q, ls[i]? = some l ∧ x = .ref q ∧ H q = some (.tup [.int l.1, .int l.2.1]) := by
  obtain ⟨row, hrow, q, e, hq⟩ := paired_get' p h
  rw [List.getElem?_map] at hrow
  cases e2 : ls[i]? with
  | none => rw [e2] at hrow; cases hrow
  | some l =>
    rw [e2] at hrow
    obtain rfl := Option.some.inj hrow
    exact ⟨l, q, rfl, e, hq⟩
theorem ok_are_looks {f T : Addr} {fd : FuncData} (F : FunT K mg base Ps "are_looks" s_are_looks f fd T) (B : Blt mg) (M : Nums mg)
    (c_is_look : Cal P w K mg base CX0 2 "is_look" ["value", "many"] spIsLook) : FnOk P w K mg base CX0 4 f fd ["value", "many"] (spAreLooks Ps) := by
  refine F.ok sc_are_looks (fun vs H Q E h => ?_) (fun c A outer s0 H vs Q E TB hr h => ?_)
  · obtain ⟨v, W, rfl, _⟩ := h
    rfl
  · obtain ⟨v, W, rfl, ⟨a, ls, rfl, ha, hls⟩, ok, hTb, k⟩ := h
    refine ⟨_, (pss_cons (ps_if (PW.pt (pw_or (pt_not (pt_val (pe_callB call_isi (by rfl) B.isi boot_isinstance (pa_cons (pv 0) (pa_cons (pe_bltn (v := .ty "tuple") (by rfl) B.tuple boot_tyTuple rfl) pa_nil))))) (pw_or1 (pt_cmpR op_gt (pe_callB call_lenT (by rfl) B.len PySem.boot_len (pa_cons (pv 0) pa_nil)) (pe_num M.MOST_LOOKS (by rfl)) (nomark _)))))
        (pss_one (ps_ret pe_bl)) pss_nil)
      (pss_cons (ps_if (pt_not (pt_val (pe_allG (own := [("look", 2)]) (k := 2) (hr.mono (by decide)) rfl sc_are_looks.nd (by rfl) B.all TB rfl (pi_tup (pv 0)) ⟨(blkOk_by (N := ["value", "many", "look", "one", "other", "_", "pairs", "lookers", "folk"]) (sc := defScope s_are_looks) (by decide +kernel)), noCells_ok (by decide +kernel), rfl, rfl⟩ (fun _ _ _ _ _ _ => (pg_name (i := 2) sc_are_looks.nd rfl (by first | exact Or.inl rfl | exact Or.inr rfl))) (fun _ _ _ _ _ _ hr' => pts_nil) (fun _ _ _ _ _ _ hr' => (pe_c0 c_is_look (hr'.mono (by decide)) (by rfl) (pa_cons (pv 2) (pa_cons (pv 1) pa_nil)))))))
        (pss_one (ps_ret pe_bl)) pss_nil)
      (pss_cons (ps_setLc (i := 6) (own := [("one", 3), ("other", 4), ("_", 5)]) rfl sc_are_looks.nd rfl rfl (sw_true rfl rfl rfl (by decide +kernel)) (pi_tup (pv 0)) (blkOk_by (N := ["value", "many", "look", "one", "other", "_", "pairs", "lookers", "folk"]) (sc := defScope s_are_looks) (by decide +kernel)) (fun _ _ _ _ _ => (pg_tupT (n := 3) rfl (pgs_cons (pg_name (i := 3) sc_are_looks.nd rfl (by first | exact Or.inl rfl | exact Or.inr rfl)) (pgs_cons (pg_name (i := 4) sc_are_looks.nd rfl (by first | exact Or.inl rfl | exact Or.inr rfl)) (pgs_cons (pg_name (i := 5) sc_are_looks.nd rfl (by first | exact Or.inl rfl | exact Or.inr rfl)) pgs_nil))))) (fun _ _ _ _ _ => pts_nil) (fun _ _ _ _ _ => (pe_tup (pa_cons (pv 3) (pa_cons (pv 4) pa_nil)))))
      (pss_cons (ps_if (pt_cmpR (op_neLT2 hr.units) (pv 6) (pe_callB (cr_sortedT rfl) (by rfl) B.sorted boot_sorted (pa_cons (pe_callTy (cr_setOfT rfl hr.units) (by rfl) B.set boot_set (pa_cons (pv 6) pa_nil)) pa_nil)) (nomark _))
        (pss_one (ps_ret pe_bl)) pss_nil)
      (pss_cons (ps_set (i := 7) sc_are_looks.nd rfl (by first | exact Or.inl rfl | exact Or.inr rfl) (pe_lc (own := [("_", 5), ("other", 4)]) rfl sc_are_looks.nd (pi_list (pv 6)) (blkOk_by (N := ["value", "many", "look", "one", "other", "_", "pairs", "lookers", "folk"]) (sc := defScope s_are_looks) (by decide +kernel)) (fun _ _ _ _ _ => (pg_tupT (n := 2) rfl (pgs_cons (pg_name (i := 5) sc_are_looks.nd rfl (by first | exact Or.inl rfl | exact Or.inr rfl)) (pgs_cons (pg_name (i := 4) sc_are_looks.nd rfl (by first | exact Or.inl rfl | exact Or.inr rfl)) pgs_nil)))) (fun _ _ _ _ _ => pts_nil) (fun _ _ _ _ _ => (pv 4))))
      (pss_one (ps_ret (pe_allG (own := [("folk", 8)]) (k := 2) (hr.mono (by decide)) rfl sc_are_looks.nd (by rfl) B.all TB rfl (pi_range1 (by rfl) B.range (pa_cons (pv 1) pa_nil)) ⟨(blkOk_by (N := ["value", "many", "look", "one", "other", "_", "pairs", "lookers", "folk"]) (sc := defScope s_are_looks) (by decide +kernel)), noCells_ok (by decide +kernel), rfl, rfl⟩ (fun _ _ _ _ _ _ => (pg_name (i := 8) sc_are_looks.nd rfl (by first | exact Or.inl rfl | exact Or.inr rfl))) (fun _ _ _ _ _ _ hr' => pts_nil) (fun _ _ _ _ _ _ hr' => (pe_cmpR op_le (pe_bmL PySem.F.plainAttrs_list PySem.F.slot_list_count PySem.F.type_list_count mt_cntL (pv 7) (pa_cons (pv 8) pa_nil)) (pe_num M.MOST_LOOKS_OF_ONE (by rfl)) (nomark _))))))))))), ?_⟩
    have lls : ls.length = W.looks.length := by rw [paired_len hls, List.length_map]
    have h14 := ok.most
    have h6 := ok.few
    refine ⟨_, rfl, _, _, _, _, true, rfl, .ty "tuple", isi_tup ha, kit_ty (by decide +kernel), _, rfl, iteF ?_⟩
    refine ⟨_, rfl, _, _, rfl, .inr ha, _, _, rfl, rfl, _, rfl, ?_⟩
    rw [decide_eq_false (by omega : ¬ (14 : Int) < (ls.length : Int))]
    refine iteF ?_
    have hg : TabG H T := hTb T F.mem
    refine ⟨_, rfl, a, rfl, ⟨_, SqT.of ha⟩, hg, fun H2 hT2 => ?_⟩
    have E2 : Ext H H2 := Ext.tabbed F.nown hg hT2
    refine quant_test (walk_tup (K := K) (xs := ls)) (fun _ H' => H' = H2) rfl (fun i H' _ e => by rw [e]; exact SqT.of (E2.tup ha)) (fun i x H4 H5 hi e4 y => ?_) fun H4 e4 => ?_
    · subst e4
      obtain ⟨rfl, hx⟩ := y
      obtain ⟨lk, q, hlk, rfl, hq⟩ := row3_at (pTI.ext E2 hls) hx
      have h1 := ok.look lk (List.mem_of_getElem? hlk)
      refine ⟨rfl, yes ?_⟩
      exact ⟨_, rfl, _, rfl, _, _, lk.1, lk.2.1, lk.2.2, rfl, ⟨q, rfl, hq⟩, h1.1, h1.2.1, h1.2.2, true, rfl, iteTF rfl⟩
    · subst e4
      refine iteF ?_
      refine ⟨_, rfl, a, rfl, ⟨_, SqT.of (E2.tup ha)⟩, fun D hD => ?_⟩
      refine lc_tup (K := K) (xs := ls) (fun i H' => ∃ acc, H' D = some (.lst acc) ∧ Ext H4 H' ∧ acc.length ≤ i ∧ Paired (TI H') acc ((W.looks.take i).map pair2)) ⟨[], upd_same, Ext.new hD _, Nat.le_refl _, .nil⟩ (fun i H' _ ⟨_, _, e, _⟩ => SqT.of (e.tup (E2.tup ha))) (fun i x H' hi ⟨acc, hacc, e, hl, hp⟩ => ?_) fun H' ⟨acc, hacc, e, hl, hp⟩ => ?_
      · obtain ⟨lk, q, hlk, rfl, hq⟩ := row3_at (pTI.ext (E2.trans e) hls) hi
        have hi14 : i < 14 := by
          have := (List.getElem?_eq_some_iff.mp hlk).1
          omega
        refine ⟨q, _, rfl, hq, rfl, _, _, rfl, _, _, rfl, _, _, rfl, rfl, rfl, yes ?_⟩
        refine ⟨_, rfl, _, rfl, (by show 2 ≤ sizeLine; decide), fun u hu => ?_⟩
        have hDu : D ≠ u := ne_of_none hacc hu
        refine ⟨acc, by rw [upd_ne hDu]; exact hacc, small1000 (by omega), acc ++ [.ref u], upd_same, (e.trans (Ext.new hu _)).put hD _, by rw [List.length_append]; simp; omega, ?_⟩
        rw [take_snoc hlk, List.map_append]
        exact pTI.put (H := upd H' u (.tup [.int lk.1, .int lk.2.1])) (by rw [upd_ne hDu]; exact hacc) (fun _ _ h => h) (paired_snoc ⟨u, rfl, upd_same⟩ (pTI.ext (Ext.new hu _) hp))
      · rw [lls, List.take_length] at hp
        have E3 := E2.trans e
        have lacc : acc.length = W.looks.length := by rw [paired_len hp, List.length_map]
        obtain ⟨ks, rfl, hrows, hks⟩ := paired_ks hp
        have lks : ks.length ≤ 14 := by rw [← List.length_map (f := fun p : Addr × List Int => V.ref p.1), lacc]; exact h14
        refine ⟨_, rfl, _, rfl, D, ks, rfl, SqL.of hacc, fun p hpk => SqT.of (hks p hpk), by omega, fun u L hu hL1 hL2 => ?_⟩
        have hksu : ∀ p ∈ ks, p.1 ≠ u := fun p hp z => by
          have := hks p hp
          rw [z, hu] at this
          cases this
        have hmem : ∀ p ∈ ks, ∃ l ∈ W.looks, p.2 = pair2 l := fun p hp => by
          have h1 : p.2 ∈ ks.map (·.2) := List.mem_map.mpr ⟨p, hp, rfl⟩
          rw [← hrows] at h1
          obtain ⟨l, hl, e⟩ := List.mem_map.mp h1
          exact ⟨l, hl, e.symm⟩
        have bdP : ∀ p ∈ ks, p.2.length = 2 ∧ TS.Bd 64 p.2 := fun p hp => by
          obtain ⟨l, hl, e⟩ := hmem p hp
          have h1 := ok.look l hl
          rw [e]
          refine ⟨rfl, fun m hm => ?_⟩
          unfold pair2 at hm
          rcases List.mem_cons.mp hm with z | hm
          · omega
          · rw [List.mem_singleton.mp hm]
            omega
        refine ⟨u, L, 2, 64, rfl, upd_same, fun p hp => SqT.of (by rw [upd_ne (hksu p (hL1 p hp))]; exact hks p (hL1 p hp)), by decide, fun p hp => bdP p (hL1 p hp), fun L' q perm nd hlt hpw hq => ?_⟩
        have E5 := (Ext.new hu _).trans (Ext.new hq (.lst (L'.map fun q => V.ref q.1)))
        have inK : ∀ p ∈ L', p ∈ ks := fun p hp => hL1 p (perm.mem_iff.mp hp)
        have hb : L'.map (·.2) = W.looks.map pair2 := by
          refine asc_eq (f := TS.code 64) ?_ (pairs_asc ok) fun x => ⟨fun hx => ?_, fun hx => ?_⟩
          · rw [List.pairwise_map]
            have nd2 := List.pairwise_map.mp nd
            refine List.Pairwise.imp_of_mem (fun {x y} hx hy h => ?_) (hpw.and nd2)
            obtain ⟨h1, h2⟩ := h
            obtain ⟨l, hl, ex⟩ := hmem x (inK x hx)
            obtain ⟨m, hm, ey⟩ := hmem y (inK y hy)
            have b1 := ok.look l hl
            have b2 := ok.look m hm
            rw [ex, ey] at h1 h2 ⊢
            unfold pair2 at h1 h2 ⊢
            rw [code_pair, code_pair] at h1 ⊢
            rcases Int.lt_or_eq_of_le h1 with z | z
            · exact z
            · exact absurd (by rw [show l.1 = m.1 by omega, show l.2.1 = m.2.1 by omega]) h2
          · obtain ⟨p, hp, rfl⟩ := List.mem_map.mp hx
            rw [hrows]
            exact List.mem_map.mpr ⟨p, inK p hp, rfl⟩
          · rw [hrows] at hx
            obtain ⟨p, hp, rfl⟩ := List.mem_map.mp hx
            obtain ⟨p', hp', e'⟩ := List.mem_map.mp (hL2 p hp)
            exact List.mem_map.mpr ⟨p', perm.mem_iff.mpr hp', e'⟩
        refine ⟨W.looks.map pair2, L'.map (·.2), ⟨D, _, rfl, E5.lst hacc, pTI.ext E5 hp⟩, ⟨q, _, rfl, upd_same, ks_paired fun p hp => E5.tup (hks p (inK p hp))⟩, _, rfl, ?_⟩
        rw [hb, decide_eq_true rfl]
        refine iteF ?_
        refine ⟨_, rfl, D, rfl, ⟨_, SqL.of (E5.lst hacc)⟩, fun D2 hD2 => ?_⟩
        refine lc_list (K := K) (xs := ks.map fun p => V.ref p.1) (fun i H7 => H7 D2 = some (.lst (iv ((W.looks.take i).map fun l => l.2.1))) ∧ Ext H' H7) ⟨upd_same, E5.trans (Ext.new hD2 _)⟩ (fun i H7 _ ⟨_, e7⟩ => SqL.of (e7.lst hacc)) (fun i x H7 hi ⟨h7, e7⟩ => ?_) fun H7 ⟨h7, e7⟩ => ?_
        · obtain ⟨lk, z, hlk, rfl, hz⟩ := pair_at (pTI.ext e7 hp) hi
          refine ⟨z, _, rfl, hz, rfl, _, _, rfl, _, _, rfl, rfl, rfl, yes ?_⟩
          have hi14 : i < 14 := by
            have := (List.getElem?_eq_some_iff.mp hlk).1
            omega
          refine ⟨_, rfl, _, h7, ?_, ?_, e7.put (E5.free hD2) _⟩
          · rw [iv_len, List.length_map, List.length_take]
            exact small1000 (by omega)
          · rw [upd_same, take_snoc hlk, List.map_append]
            show some (HO.lst _) = some (HO.lst (List.map V.int (_ ++ _)))
            rw [List.map_append]
            rfl
        · have h7 : H7 D2 = some (.lst (iv (W.looks.map fun l => l.2.1))) := by
            rw [h7, lacc, List.take_length]
          have E7 := E3.trans e7
          have hg7 : TabG H7 T := E7.tab T hg
          refine ⟨_, rfl, _, rfl, by omega, by omega, hg7, fun H8 hT8 => ?_⟩
          have E8 := E7.trans (Ext.tabbed F.nown hg7 hT8)
          have h8 := (Ext.tabbed F.nown hg7 hT8).lst h7
          refine quant_it (walk_range (lo := 0) (n := ((W.tops.length : Int)).toNat)) (fun _ H' => H' = H8) rfl (fun _ _ _ _ => trivial) (fun i x H9 H10 hi e9 y => ?_) fun H9 e9 => by rw [e9]; exact k H8 E8
          subst e9
          obtain ⟨rfl, rfl⟩ := rng_len y
          refine ⟨rfl, yes ?_⟩
          refine ⟨_, rfl, ⟨D2, _, rfl, h8⟩, _, rfl, D2, _, (i : Int), rfl, rfl, h8, _, _, rfl, rfl, ?_⟩
          have h4 := ok.four (i : Int)
          rw [← List.countP_eq_length_filter] at h4
          refine ⟨true, congrArg V.bl (decide_eq_true ?_), iteTF rfl⟩
          have : ((W.looks.map fun l => l.2.1).count (i : Int)) ≤ 4 := h4
          omega
end
end Lk


/-! ## D07 -/
set_option Elab.async false
set_option linter.all false
set_option maxRecDepth 100000
set_option maxHeartbeats 2000000
namespace Lk
open PySem PySem.Spec PyProof.Rows L2 Gx
open GxR (TabG Tabbed TabB)
variable [Own]
def topAt (W : Web) (i : Int) : Int := W.tops.getD i.toNat 0
theorem topAt_get {W : Web} {i : Int} (h0 : 0 ≤ i) (h1 : i < W.tops.length) : W.tops[i.toNat]? = some (topAt W i) := by
  unfold topAt
  rw [List.getD_eq_getElem?_getD, List.getElem?_eq_getElem (by omega)]
  rfl
theorem topAt_ok {W : Web} (ok : W.Ok) {i : Int} (h0 : 0 ≤ i) (h1 : i < W.tops.length) : 1 ≤ topAt W i ∧ topAt W i ≤ 3 := ok.tops _ (List.mem_of_getElem? (topAt_get h0 h1))
theorem looksOf_ok {W : Web} (ok : W.Ok) {f : Int} : ∀ p ∈ looksOf W f, (0 ≤ p.1 ∧ p.1 < W.tops.length) ∧ (p.2 = 1 ∨ p.2 = -1) := by
  intro p hp
  unfold looksOf at hp
  obtain ⟨l, hl, rfl⟩ := List.mem_map.mp hp
  have := ok.look l (List.mem_filter.mp hl).1
  exact ⟨this.1, this.2.2⟩
def manyStep (W : Web) (m : Int) (p : Int × Int) : Int := m * (topAt W p.1 + 1)
/-- how many rows of moods one can see -/
def manyRows (W : Web) (f : Int) : Int := (looksOf W f).foldl (manyStep W) 1
abbrev s_many_rows : Stmt := top 20
theorem sc_many_rows : FnScope ["web", "folk", "tops", "_", "many", "one"] ["web", "folk"] (defScope s_many_rows) := ⟨rfl, rfl, rfl, by decide +kernel, rfl, by decide +kernel, by decide +kernel⟩
def spManyRows : Sp := fun vs H Q _ => ∃ (v : V) (W : Web) (f : Int), vs = [v, .int f] ∧ WebAt H v W ∧ W.Ok ∧ ∀ H', Ext H H' → Q (.int (manyRows W f)) H'
theorem foldl_take' {α β : Type} {f : α → β → α} {a : α} {l : List β} {i : Nat} {x : β} (h : l[i]? = some x) : (l.take (i + 1)).foldl f a = f ((l.take i).foldl f a) x := by
  rw [List.take_add_one, h]
  simp
section
variable {P : Program} {w : World} {K : PySem.W.Frag} {mg : Str → Option Value} {base : Heap} {Ps : List Addr}
/-- a look of the list, taken apart -/
theorem look_at {H : Hp} {vs : List V} {ls : List (Int × Int)} {i : Nat} {x : V} (p : Paired (TI H) vs (ls.map row2)) (h : vs[i]? = some x) : ∃ l q, ls[i]? = some l ∧ x = .ref q ∧ H q = some (.tup [.int l.1, .int l.2]) := by
  obtain ⟨row, hrow, q, e, hq⟩ := paired_get' p h
  rw [List.getElem?_map] at hrow
  cases e2 : ls[i]? with
  | none => rw [e2] at hrow; cases hrow
  | some l =>
    rw [e2] at hrow
    obtain rfl := Option.some.inj hrow
    exact ⟨l, q, rfl, e, hq⟩
theorem ok_many_rows {f : Addr} {fd : FuncData} (F : Fun K "many_rows" "many_rows" s_many_rows f fd)
    (c_looks_of : Cal P w K mg base CX0 1 "looks_of" ["web", "folk"] spLooksOf) : FnOk P w K mg base CX0 2 f fd ["web", "folk"] spManyRows := by
  refine F.ok sc_many_rows (fun vs H Q E h => ?_) (fun cdv A outer s H vs Q E hr h => ?_)
  · obtain ⟨v, W, n, rfl, _⟩ := h
    rfl
  · obtain ⟨v, W, n, rfl, hW, ok, k⟩ := h
    obtain ⟨a, t, l, rfl, ha, ⟨b, rfl, hb⟩, hl⟩ := id hW
    refine ⟨_, (pss_cons (ps_asg (pv 0) (pg_tupT (n := 2) rfl (pgs_cons (pg_name (i := 2) sc_many_rows.nd rfl (by first | exact Or.inl rfl | exact Or.inr rfl)) (pgs_cons (pg_name (i := 3) sc_many_rows.nd rfl (by first | exact Or.inl rfl | exact Or.inr rfl)) pgs_nil))))
      (pss_cons (ps_set (i := 4) sc_many_rows.nd rfl (by first | exact Or.inl rfl | exact Or.inr rfl) pe_int)
      (pss_cons (ps_for PassesOwn.never rfl (pi_list (pe_c0 c_looks_of (hr.mono (by decide)) (by rfl) (pa_cons (pv 0) (pa_cons (pv 1) pa_nil)))) (pg_tupT (n := 2) rfl (pgs_cons (pg_name (i := 5) sc_many_rows.nd rfl (by first | exact Or.inl rfl | exact Or.inr rfl)) (pgs_cons (pg_name (i := 3) sc_many_rows.nd rfl (by first | exact Or.inl rfl | exact Or.inr rfl)) pgs_nil)))
        (pss_one (ps_set (i := 4) sc_many_rows.nd rfl (by first | exact Or.inl rfl | exact Or.inr rfl) (pe_op op_mul (pv 4) (pe_op op_add (pe_ix ix_tT (pv 2) (pv 5) (fun _ _ => rfl)) pe_int)))))
      (pss_one (ps_ret (pv 4)))))), ?_⟩
    refine ⟨_, rfl, a, _, rfl, ha, rfl, _, _, rfl, _, _, rfl, rfl, ?_⟩
    refine ⟨_, rfl, _, rfl, _, W, n, rfl, hW, ok.most, fun H1 p vs E1 hp0 hp hvs => ?_⟩
    refine ⟨p, rfl, ⟨_, SqL.of hp⟩, for_list (K := K) (a := p) (xs := vs) (fun i σ H' => ∃ (o3 o5 : Option V), σ = [some (.ref a), some (.int n), some (.ref b), o3, some (.int (((looksOf W n).take i).foldl (manyStep W) 1)), o5] ∧ H' = H1)
      ⟨_, _, rfl, rfl⟩ (fun i σ H' _ ⟨_, _, _, e⟩ => by rw [e]; exact SqL.of hp) ?_ ?_⟩
    · rintro i x σ H' hi ⟨o3, o5, rfl, rfl⟩
      obtain ⟨lk, q, hlk, rfl, hq⟩ := look_at hvs hi
      have h1 := looksOf_ok ok lk (List.mem_of_getElem? hlk)
      have h2 := topAt_ok ok h1.1.1 h1.1.2
      refine ⟨q, _, rfl, hq, rfl, _, _, rfl, _, _, rfl, rfl, ?_⟩
      refine ⟨_, rfl, _, rfl, _, rfl, b, _, _, _, rfl, rfl, E1.tup hb, at_of (show lk.1 = ((lk.1.toNat : Nat) : Int) by omega) (iv_at (topAt_get h1.1.1 h1.1.2)), _, _, rfl, rfl, _, _, rfl, rfl, .inr ⟨by omega, by omega⟩, ?_⟩
      exact ⟨_, _, by rw [foldl_take' hlk]; rfl, rfl⟩
    · rintro σ H' ⟨o3, o5, rfl, rfl⟩
      have e : ((looksOf W n).take vs.length) = looksOf W n := List.take_of_length_le (by rw [paired_len hvs, List.length_map]; exact Nat.le_refl _)
      rw [e]
      exact ⟨_, rfl, k _ E1⟩
def stAt (st : List Int) (i : Int) : Int := st.getD i.toNat 0
def placeStep (W : Web) (st : List Int) (m : Int) (p : Int × Int) : Int := m * (topAt W p.1 + 1) + stAt st p.1
def placeOf (W : Web) (st : List Int) (f : Int) : Int := (looksOf W f).foldl (placeStep W st) 0
/-- a state of the web -/
structure StOk (W : Web) (st : List Int) : Prop where
  len : st.length = W.tops.length
  bd : ∀ i : Int, 0 ≤ i → i < W.tops.length → 0 ≤ stAt st i ∧ stAt st i ≤ topAt W i
theorem stAt_get {st : List Int} {i : Int} (h0 : 0 ≤ i) (h1 : i < st.length) : st[i.toNat]? = some (stAt st i) := by
  unfold stAt
  rw [List.getD_eq_getElem?_getD, List.getElem?_eq_getElem (by omega)]
  rfl
theorem place_bd {W : Web} (ok : W.Ok) {st : List Int} (so : StOk W st) : ∀ (ls : List (Int × Int)) (m p : Int), (∀ l ∈ ls, 0 ≤ l.1 ∧ l.1 < W.tops.length) → 0 ≤ p → p < m → 0 ≤ ls.foldl (placeStep W st) p ∧ ls.foldl (placeStep W st) p < ls.foldl (manyStep W) m
  | [], _, _, _, h0, h1 => ⟨h0, h1⟩
  | l :: ls, m, p, hl, h0, h1 => by
    have hh := hl l (List.mem_cons_self ..)
    have ht := topAt_ok ok hh.1 hh.2
    have hs := so.bd l.1 hh.1 hh.2
    refine place_bd ok so ls (manyStep W m l) (placeStep W st p l) (fun x hx => hl x (List.mem_cons_of_mem _ hx)) ?_ ?_
    · unfold placeStep
      have : 0 ≤ p * (topAt W l.1 + 1) := Int.mul_nonneg h0 (by omega)
      omega
    · unfold placeStep manyStep
      have h2 : (p + 1) * (topAt W l.1 + 1) ≤ m * (topAt W l.1 + 1) := Int.mul_le_mul_of_nonneg_right (by omega) (by omega)
      rw [Int.add_mul, Int.one_mul] at h2
      omega
/-- tables: one for each, as long as there are rows -/
structure RuOk (W : Web) (ru : List (List Int)) : Prop where
  len : ru.length = W.tops.length
  rows : ∀ f : Int, 0 ≤ f → f < W.tops.length → ((ru.getD f.toNat []).length : Int) = manyRows W f
def moodTold (W : Web) (ru : List (List Int)) (st : List Int) (f : Int) : Int := (ru.getD f.toNat []).getD (placeOf W st f).toNat 0
abbrev s_place_seen : Stmt := top 22
theorem sc_place_seen : FnScope ["web", "state", "folk", "tops", "_", "place", "one"] ["web", "state", "folk"] (defScope s_place_seen) := ⟨rfl, rfl, rfl, by decide +kernel, rfl, by decide +kernel, by decide +kernel⟩
def spPlaceSeen : Sp := fun vs H Q _ => ∃ (v z : V) (W : Web) (st : List Int) (f : Int), vs = [v, z, .int f] ∧ WebAt H v W ∧ W.Ok ∧ TI H z st ∧ StOk W st ∧ ∀ H', Ext H H' → Q (.int (placeOf W st f)) H'
def spMoodTold : Sp := fun vs H Q _ => ∃ (v r z : V) (W : Web) (ru : List (List Int)) (st : List Int) (f : Int), vs = [v, r, z, .int f] ∧ WebAt H v W ∧ W.Ok ∧ TT2 H r ru ∧ RuOk W ru ∧ TI H z st ∧ StOk W st ∧ (0 ≤ f ∧ f < W.tops.length) ∧ ∀ H', Ext H H' → Q (.int (moodTold W ru st f)) H'
theorem ok_place_seen {f : Addr} {fd : FuncData} (F : Fun K "place_seen" "place_seen" s_place_seen f fd)
    (c_looks_of : Cal P w K mg base CX0 1 "looks_of" ["web", "folk"] spLooksOf) : FnOk P w K mg base CX0 2 f fd ["web", "state", "folk"] spPlaceSeen := by
  refine F.ok sc_place_seen (fun vs H Q E h => ?_) (fun cdv A outer s H vs Q E hr h => ?_)
  · obtain ⟨v, z, W, st, n, rfl, _⟩ := h
    rfl
  · obtain ⟨v, z, W, st, n, rfl, hW, ok, ⟨sa, rfl, hsa⟩, so, k⟩ := h
    obtain ⟨a, t, l, rfl, ha, ⟨b, rfl, hb⟩, hl⟩ := id hW
    refine ⟨_, (pss_cons (ps_asg (pv 0) (pg_tupT (n := 2) rfl (pgs_cons (pg_name (i := 3) sc_place_seen.nd rfl (by first | exact Or.inl rfl | exact Or.inr rfl)) (pgs_cons (pg_name (i := 4) sc_place_seen.nd rfl (by first | exact Or.inl rfl | exact Or.inr rfl)) pgs_nil))))
      (pss_cons (ps_set (i := 5) sc_place_seen.nd rfl (by first | exact Or.inl rfl | exact Or.inr rfl) pe_int)
      (pss_cons (ps_for PassesOwn.never rfl (pi_list (pe_c0 c_looks_of (hr.mono (by decide)) (by rfl) (pa_cons (pv 0) (pa_cons (pv 2) pa_nil)))) (pg_tupT (n := 2) rfl (pgs_cons (pg_name (i := 6) sc_place_seen.nd rfl (by first | exact Or.inl rfl | exact Or.inr rfl)) (pgs_cons (pg_name (i := 4) sc_place_seen.nd rfl (by first | exact Or.inl rfl | exact Or.inr rfl)) pgs_nil)))
        (pss_one (ps_set (i := 5) sc_place_seen.nd rfl (by first | exact Or.inl rfl | exact Or.inr rfl) (pe_op op_add (pe_op op_mul (pv 5) (pe_op op_add (pe_ix ix_tT (pv 3) (pv 6) (fun _ _ => rfl)) pe_int)) (pe_ix ix_tT (pv 1) (pv 6) (fun _ _ => rfl))))))
      (pss_one (ps_ret (pv 5)))))), ?_⟩
    refine ⟨_, rfl, a, _, rfl, ha, rfl, _, _, rfl, _, _, rfl, rfl, ?_⟩
    refine ⟨_, rfl, _, rfl, _, W, n, rfl, hW, ok.most, fun H1 p vs E1 hp0 hp hvs => ?_⟩
    refine ⟨p, rfl, ⟨_, SqL.of hp⟩, for_list (K := K) (a := p) (xs := vs) (fun i σ H' => ∃ (o3 o5 : Option V), σ = [some (.ref a), some (.ref sa), some (.int n), some (.ref b), o3, some (.int (((looksOf W n).take i).foldl (placeStep W st) 0)), o5] ∧ H' = H1)
      ⟨_, _, rfl, rfl⟩ (fun i σ H' _ ⟨_, _, _, e⟩ => by rw [e]; exact SqL.of hp) ?_ ?_⟩
    · rintro i x σ H' hi ⟨o3, o5, rfl, rfl⟩
      obtain ⟨lk, q, hlk, rfl, hq⟩ := look_at hvs hi
      have h1 := looksOf_ok ok lk (List.mem_of_getElem? hlk)
      have h2 := topAt_ok ok h1.1.1 h1.1.2
      refine ⟨q, _, rfl, hq, rfl, _, _, rfl, _, _, rfl, rfl, ?_⟩
      refine ⟨_, rfl, _, rfl, _, rfl, b, _, _, _, rfl, rfl, E1.tup hb, at_of (show lk.1 = ((lk.1.toNat : Nat) : Int) by omega) (iv_at (topAt_get h1.1.1 h1.1.2)), _, _, rfl, rfl, _, _, rfl, rfl, .inr ⟨by omega, by omega⟩, ?_⟩
      refine ⟨_, rfl, _, rfl, sa, _, _, _, rfl, rfl, E1.tup hsa, at_of (show lk.1 = ((lk.1.toNat : Nat) : Int) by omega) (iv_at (stAt_get h1.1.1 (by rw [so.len]; exact h1.1.2))), _, _, rfl, rfl, ?_⟩
      exact ⟨_, _, by rw [foldl_take' hlk]; rfl, rfl⟩
    · rintro σ H' ⟨o3, o5, rfl, rfl⟩
      have e : ((looksOf W n).take vs.length) = looksOf W n := List.take_of_length_le (by rw [paired_len hvs, List.length_map]; exact Nat.le_refl _)
      rw [e]
      exact ⟨_, rfl, k _ E1⟩
end
end Lk


/-! ## D11 -/
set_option Elab.async false
set_option linter.all false
set_option maxRecDepth 100000
set_option maxHeartbeats 2000000
namespace Lk
open PySem PySem.Spec PyProof.Rows L2 Gx
open GxR (TabG Tabbed TabB)
open RZ (ItzT pi_zipA)
variable [Own]
theorem walk_zipT {K : PySem.W.Frag} {a b : Addr} {xs ys : List V} {n : Nat} (hn : n = min xs.length ys.length) : Walk (ItzT K a b) n (fun H => SqT K H a xs ∧ SqT K H b ys) (YPair (fun i => xs[i]?) (fun i => ys[i]?)) := by
  subst hn
  refine ⟨fun i _ hi q => ⟨xs, ys, xs[i]'(by omega), ys[i]'(by omega), q.1, q.2, by simp [show i < xs.length by omega], by simp [show i < ys.length by omega]⟩, fun _ q => ⟨xs, ys, q.1, q.2, by omega⟩, fun i H v H' _ q y => ?_⟩
  obtain ⟨T, x, z, h1, h2, h3, h4, h5⟩ := y
  exact ⟨T, x, z, h1, h2, h3, h4 xs q.1, h5 ys q.2⟩
def spIsState (Ps : List Addr) : Sp := fun vs H Q _ => ∃ (v z : V) (W : Web) (st : List Int), vs = [v, z] ∧ WebAt H v W ∧ W.Ok ∧ TI H z st ∧ StOk W st ∧ Tabs Ps H ∧ ∀ H', Ext H H' → Q (.bl true) H'
def spCheckState (Ps : List Addr) : Sp := fun vs H Q _ => ∃ (v z : V) (W : Web) (st : List Int), vs = [v, z] ∧ WebAt H v W ∧ W.Ok ∧ TI H z st ∧ StOk W st ∧ Tabs Ps H ∧ ∀ H', Ext H H' → Q .non H'
abbrev s_wrong_part : Stmt := top 14
theorem sc_wrong_part : FnScope ["web", "tops", "looks"] ["web"] (defScope s_wrong_part) := ⟨rfl, rfl, rfl, by decide +kernel, rfl, by decide +kernel, by decide +kernel⟩
def spWrongPart (Ps : List Addr) : Sp := fun vs H Q _ => ∃ (v : V) (W : Web), vs = [v] ∧ WebAt H v W ∧ W.Ok ∧ Tabs Ps H ∧ ∀ H', Ext H H' → Q .non H'
abbrev s_check_web : Stmt := top 15
theorem sc_check_web : FnScope ["web", "part"] ["web"] (defScope s_check_web) := ⟨rfl, rfl, rfl, by decide +kernel, rfl, by decide +kernel, by decide +kernel⟩
def spCheckWeb (Ps : List Addr) : Sp := fun vs H Q _ => ∃ (v : V) (W : Web), vs = [v] ∧ WebAt H v W ∧ W.Ok ∧ Tabs Ps H ∧ ∀ H', Ext H H' → Q .non H'
abbrev s_check_folk : Stmt := top 16
theorem sc_check_folk : FnScope ["web", "folk", "tops", "_"] ["web", "folk"] (defScope s_check_folk) := ⟨rfl, rfl, rfl, by decide +kernel, rfl, by decide +kernel, by decide +kernel⟩
def spCheckFolk : Sp := fun vs H Q _ => ∃ (v : V) (W : Web) (f : Int), vs = [v, .int f] ∧ WebAt H v W ∧ (0 ≤ f ∧ f < W.tops.length) ∧ Q .non H
section
variable {P : Program} {w : World} {K : PySem.W.Frag} {mg : Str → Option Value} {base : Heap} {Ps : List Addr}
theorem ok_wrong_part {f : Addr} {fd : FuncData} (F : Fun K "wrong_part" "wrong_part" s_wrong_part f fd) (B : Blt mg)
    (c_are_tops : Cal P w K mg base CX0 3 "are_tops" ["value"] (spAreTops Ps)) (c_are_looks : Cal P w K mg base CX0 4 "are_looks" ["value", "many"] (spAreLooks Ps)) : FnOk P w K mg base CX0 5 f fd ["web"] (spWrongPart Ps) := by
  refine F.ok sc_wrong_part (fun vs H Q E h => ?_) (fun cdv A outer s0 H vs Q E hr h => ?_)
  · obtain ⟨v, W, rfl, _⟩ := h
    rfl
  · obtain ⟨v, W, rfl, hW, ok, hTb, k⟩ := h
    obtain ⟨a, t, l, rfl, ha, ⟨b, rfl, hb⟩, hl⟩ := id hW
    refine ⟨_, (pss_cons (ps_if (PW.pt (pw_or (pt_not (pt_val (pe_callB call_isi (by rfl) B.isi boot_isinstance (pa_cons (pv 0) (pa_cons (pe_bltn (v := .ty "tuple") (by rfl) B.tuple boot_tyTuple rfl) pa_nil))))) (pw_or1 (pt_cmpR op_ne (pe_callB call_lenT (by rfl) B.len PySem.boot_len (pa_cons (pv 0) pa_nil)) pe_int (nomark _)))))
        (pss_one (ps_ret pe_str)) pss_nil)
      (pss_cons (ps_asg (pv 0) (pg_tupT (n := 2) rfl (pgs_cons (pg_name (i := 1) sc_wrong_part.nd rfl (by first | exact Or.inl rfl | exact Or.inr rfl)) (pgs_cons (pg_name (i := 2) sc_wrong_part.nd rfl (by first | exact Or.inl rfl | exact Or.inr rfl)) pgs_nil))))
      (pss_cons (ps_if (pt_not (pt_val (pe_c0 c_are_tops (hr.mono (by decide)) (by rfl) (pa_cons (pv 1) pa_nil))))
        (pss_one (ps_ret pe_str)) pss_nil)
      (pss_cons (ps_if (pt_not (pt_val (pe_c0 c_are_looks (hr.mono (by decide)) (by rfl) (pa_cons (pv 2) (pa_cons (pe_callB call_lenT (by rfl) B.len PySem.boot_len (pa_cons (pv 1) pa_nil)) pa_nil)))))
        (pss_one (ps_ret pe_str)) pss_nil)
      (pss_one (ps_ret pe_non)))))), ?_⟩
    refine ⟨_, rfl, _, _, _, _, true, rfl, .ty "tuple", isi_tup ha, kit_ty (by decide +kernel), _, rfl, iteF ?_⟩
    refine ⟨_, rfl, _, _, rfl, .inr ha, rfl, _, rfl, iteF ?_⟩
    refine ⟨_, rfl, a, _, rfl, ha, rfl, _, _, rfl, _, _, rfl, rfl, ?_⟩
    refine ⟨_, rfl, _, W.tops, rfl, ⟨b, rfl, hb⟩, ⟨ok.some_, ok.few⟩, ok.tops, hTb, fun H1 e1 => ⟨_, rfl, iteF ?_⟩⟩
    refine ⟨_, rfl, _, rfl, _, _, rfl, .inr (e1.tup hb), _, W, ?_, hl.ext e1, ok, hTb.ext e1, fun H2 e2 => ⟨_, rfl, iteF (k H2 (e1.trans e2))⟩⟩
    rw [iv_len]
    rfl
theorem ok_check_web {f : Addr} {fd : FuncData} (F : Fun K "check_web" "check_web" s_check_web f fd)
    (c_wrong_part : Cal P w K mg base CX0 5 "wrong_part" ["web"] (spWrongPart Ps)) : FnOk P w K mg base CX0 6 f fd ["web"] (spCheckWeb Ps) := by
  refine F.ok sc_check_web (fun vs H Q E h => ?_) (fun cdv A outer s0 H vs Q E hr h => ?_)
  · obtain ⟨v, W, rfl, _⟩ := h
    rfl
  · obtain ⟨v, W, rfl, hW, ok, hTb, k⟩ := h
    refine ⟨_, (pss_cons (ps_set (i := 1) sc_check_web.nd rfl (by first | exact Or.inl rfl | exact Or.inr rfl) (pe_c0 c_wrong_part (hr.mono (by decide)) (by rfl) (pa_cons (pv 0) pa_nil)))
      (pss_one (ps_if (pt_cmpR op_notN (pv 1) pe_non (nomark _))
        (pss_one ps_never) pss_nil))), ?_⟩
    exact ⟨_, rfl, _, W, rfl, hW, ok, hTb, fun H' e => ⟨_, rfl, rfl, _, rfl, iteF (k H' e)⟩⟩
theorem ok_check_folk {f : Addr} {fd : FuncData} (F : Fun K "check_folk" "check_folk" s_check_folk f fd) (B : Blt mg)
    (c_is_whole : Cal P w K mg base CX0 1 "is_whole" ["value", "least", "most"] spIsWhole) : FnOk P w K mg base CX0 2 f fd ["web", "folk"] spCheckFolk := by
  refine F.ok sc_check_folk (fun vs H Q E h => ?_) (fun cdv A outer s0 H vs Q E hr h => ?_)
  · obtain ⟨v, W, n, rfl, _⟩ := h
    rfl
  · obtain ⟨v, W, n, rfl, hW, hn, k⟩ := h
    obtain ⟨a, t, l, rfl, ha, ⟨b, rfl, hb⟩, hl⟩ := id hW
    refine ⟨_, (pss_cons (ps_asg (pv 0) (pg_tupT (n := 2) rfl (pgs_cons (pg_name (i := 2) sc_check_folk.nd rfl (by first | exact Or.inl rfl | exact Or.inr rfl)) (pgs_cons (pg_name (i := 3) sc_check_folk.nd rfl (by first | exact Or.inl rfl | exact Or.inr rfl)) pgs_nil))))
      (pss_one (ps_if (pt_not (pt_val (pe_c0 c_is_whole (hr.mono (by decide)) (by rfl) (pa_cons (pv 1) (pa_cons pe_int (pa_cons (pe_op op_sub (pe_callB call_lenT (by rfl) B.len PySem.boot_len (pa_cons (pv 2) pa_nil)) pe_int) pa_nil))))))
        (pss_one ps_never) pss_nil))), ?_⟩
    refine ⟨_, rfl, a, _, rfl, ha, rfl, _, _, rfl, _, _, rfl, rfl, ?_⟩
    refine ⟨_, rfl, _, rfl, _, _, rfl, .inr hb, _, _, rfl, rfl, n, 0, _, rfl, _, rfl, ?_⟩
    rw [whole_in hn.1 (by rw [iv_len]; omega)]
    exact iteF k
end
end Lk


/-! ## LkR -/
set_option Elab.async false
set_option linter.all false
set_option maxRecDepth 100000
set_option maxHeartbeats 2000000
/-! The laws' draws: a row of four, the script first. -/
namespace Lk
open PySem PySem.Spec PyProof.Rows L2 Gx
open GxR (TabG Tabbed TabB)
variable [Own]
/-- as Ext, but for the list at r -/
structure ExtB (r : Addr) (H H' : Hp) : Prop where
  keep : ∀ a o, a ≠ r → H a = some o → isTbl o = false → H' a = some o
  tab : ∀ P, TabG H P → TabG H' P
  tb : ∀ a o, H a = some o → ∃ o', H' a = some o'
  own : ∀ P ps, Own.own P → H P = some (.tbl ps) → H' P = some (.tbl ps)
theorem Ext.b {r : Addr} {H H' : Hp} (e : Ext H H') : ExtB r H H' := ⟨fun a o _ h q => e.keep a o h q, e.tab, e.tb, e.own⟩
theorem ExtB.refl (r : Addr) (H : Hp) : ExtB r H H := (Ext.refl H).b
theorem ExtB.trans {r : Addr} {H H1 H2 : Hp} (a : ExtB r H H1) (b : ExtB r H1 H2) : ExtB r H H2 := ⟨fun c o n h q => b.keep c o n (a.keep c o n h q) q, fun P h => b.tab P (a.tab P h), fun c o h => by
  obtain ⟨o', h'⟩ := a.tb c o h
  exact b.tb c o' h', fun P ps o h => b.own P ps o (a.own P ps o h)⟩
theorem ExtB.upd {r : Addr} {H : Hp} {xs ys : List V} (h : H r = some (.lst xs)) : ExtB r H (upd H r (.lst ys)) := ⟨fun a o n e _ => by rw [upd_ne n]; exact e, fun P ⟨ps, e, t⟩ => ⟨ps, by rw [upd_ne (ne_of h e (by intro z; cases z)).symm]; exact e, t⟩, fun a o e => by
  by_cases z : a = r
  · exact ⟨_, by rw [z]; exact upd_same⟩
  · exact ⟨o, by rw [upd_ne z]; exact e⟩, fun P ps _ e => by rw [upd_ne (ne_of h e (by intro z; cases z)).symm]; exact e⟩
theorem ExtB.free {r : Addr} {H H' : Hp} (e : ExtB r H H') {l : Addr} (h : H' l = none) : H l = none := by
  cases q : H l with
  | none => rfl
  | some o =>
    obtain ⟨o', h'⟩ := e.tb l o q
    rw [h] at h'
    cases h'
section
variable {r : Addr} {H H' : Hp} {rs : List V}
theorem ExtB.tup (e : ExtB r H H') (hr : H r = some (.lst rs)) {a : Addr} {xs : List V} (h : H a = some (.tup xs)) : H' a = some (.tup xs) := e.keep _ _ (ne_of hr h (by intro z; cases z)).symm h rfl
theorem ExtB.lst (e : ExtB r H H') {a : Addr} {xs : List V} (n : a ≠ r) (h : H a = some (.lst xs)) : H' a = some (.lst xs) := e.keep _ _ n h rfl
theorem TI.extB (e : ExtB r H H') (hr : H r = some (.lst rs)) {v : V} {ns : List Int} (h : TI H v ns) : TI H' v ns := by
  obtain ⟨a, q, h⟩ := h
  exact ⟨a, q, e.tup hr h⟩
theorem pTI.extB (e : ExtB r H H') (hr : H r = some (.lst rs)) {vs : List V} {rows : List (List Int)} (h : Paired (TI H) vs rows) : Paired (TI H') vs rows := paired_mono (fun _ _ h => h.extB e hr) h
theorem TT2.extB (e : ExtB r H H') (hr : H r = some (.lst rs)) {v : V} {rows : List (List Int)} (h : TT2 H v rows) : TT2 H' v rows := by
  obtain ⟨a, vs, q, h, p⟩ := h
  exact ⟨a, vs, q, e.tup hr h, pTI.extB e hr p⟩
theorem WebAt.extB (e : ExtB r H H') (hr : H r = some (.lst rs)) {v : V} {W : Web} (h : WebAt H v W) : WebAt H' v W := by
  obtain ⟨a, t, l, q, h, p1, p2⟩ := h
  exact ⟨a, t, l, q, e.tup hr h, p1.extB e hr, p2.extB e hr⟩
theorem Tabs.extB {Ps : List Addr} (t : Tabs Ps H) (e : ExtB r H H') : Tabs Ps H' := fun P h => e.tab P (t P h)
end
/-- the rest of a row of draws -/
structure Dr where
  pos : Nat
  rest : Int
  cell : Int
structure Dr.Ok (d : Dr) : Prop where
  r0 : 0 ≤ d.rest
  r1 : d.rest < 2147483647
  c0 : 0 ≤ d.cell
theorem SqL.extB {K : PySem.W.Frag} {r : Addr} {H H' : Hp} (e : ExtB r H H') {a : Addr} {xs : List V} (n : a ≠ r) (h : SqL K H a xs) : SqL K H' a xs := by
  rcases h with (h | ⟨o, h⟩) | h
  · exact .inl (.inl (e.keep _ _ n h rfl))
  · exact .inl (.inr ⟨o, e.keep _ _ n h rfl⟩)
  · exact .inr h
theorem SqL.ext {K : PySem.W.Frag} {H H' : Hp} (e : Ext H H') {a : Addr} {xs : List V} (h : SqL K H a xs) : SqL K H' a xs := by
  rcases h with (h | ⟨o, h⟩) | h
  · exact .inl (.inl (e.keep _ _ h rfl))
  · exact .inl (.inr ⟨o, e.keep _ _ h rfl⟩)
  · exact .inr h
/-- the script, that is no row -/
def ScrAt (K : PySem.W.Frag) (H : Hp) (r sc : Addr) (xs : List V) : Prop := (SqL K H sc xs ∧ sc ≠ r) ∨ ∀ H' : Hp, SqL K H' sc xs
theorem ScrAt.sql {K : PySem.W.Frag} {H : Hp} {r sc : Addr} {xs : List V} (h : ScrAt K H r sc xs) : SqL K H sc xs := by
  rcases h with h | h
  · exact h.1
  · exact h H
theorem ScrAt.extB {K : PySem.W.Frag} {H H' : Hp} {r sc : Addr} {xs : List V} (h : ScrAt K H r sc xs) (e : ExtB r H H') : ScrAt K H' r sc xs := by
  rcases h with ⟨h, n⟩ | h
  · exact .inl ⟨SqL.extB e n h, n⟩
  · exact .inr h
theorem ScrAt.new {K : PySem.W.Frag} {H : Hp} {r sc : Addr} {xs : List V} (h : SqL K H sc xs) (hr : H r = none) (o : HO) : ScrAt K (L2.upd H r o) r sc xs := by
  rcases h with (h | ⟨o', h⟩) | h
  · have n := ne_of_none h hr
    exact .inl ⟨.inl (.inl (by rw [upd_ne n]; exact h)), n⟩
  · have n := ne_of_none h hr
    exact .inl ⟨.inl (.inr ⟨o', by rw [upd_ne n]; exact h⟩), n⟩
  · exact .inr fun _ => .inr h
/-- at a list that stands not in H0 -/
theorem ScrAt.put {K : PySem.W.Frag} {H H0 : Hp} {r sc D : Addr} {xs : List V} (h : ScrAt K H r sc xs) (h0 : ScrAt K H0 r sc xs) (q : H0 D = none) (o : HO) : ScrAt K (L2.upd H D o) r sc xs := by
  rcases h0 with ⟨h0, n0⟩ | h0
  · rcases h0 with (h1 | ⟨o1, h1⟩) | h1
    · have n := ne_of_none h1 q
      refine .inl ⟨?_, n0⟩
      rcases h.sql with (h2 | ⟨o2, h2⟩) | h2
      · exact .inl (.inl (by rw [upd_ne n]; exact h2))
      · exact .inl (.inr ⟨o2, by rw [upd_ne n]; exact h2⟩)
      · exact .inr h2
    · have n := ne_of_none h1 q
      refine .inl ⟨?_, n0⟩
      rcases h.sql with (h2 | ⟨o2, h2⟩) | h2
      · exact .inl (.inl (by rw [upd_ne n]; exact h2))
      · exact .inl (.inr ⟨o2, by rw [upd_ne n]; exact h2⟩)
      · exact .inr h2
    · exact .inr fun _ => .inr h1
  · exact .inr h0
/-- the row stands -/
structure RowAt (K : PySem.W.Frag) (H : Hp) (r sc : Addr) (ns : List Int) (d : Dr) : Prop where
  row : H r = some (.lst [.ref sc, .int d.pos, .int d.rest, .int d.cell])
  scr : ScrAt K H r sc (iv ns)
  len : ns.length ≤ 63
  ok : d.Ok
theorem RowAt.ext {K : PySem.W.Frag} {H H' : Hp} {r sc : Addr} {ns : List Int} {d : Dr} (h : RowAt K H r sc ns d) (e : Ext H H') : RowAt K H' r sc ns d := ⟨e.lst h.row, h.scr.extB e.b, h.len, h.ok⟩
theorem RowAt.extB {K : PySem.W.Frag} {H H' : Hp} {r sc : Addr} {ns : List Int} {d d' : Dr} (h : RowAt K H r sc ns d) (e : ExtB r H H') (hr : H' r = some (.lst [.ref sc, .int d'.pos, .int d'.rest, .int d'.cell])) (ok : d'.Ok) : RowAt K H' r sc ns d' := ⟨hr, h.scr.extB e, h.len, ok⟩
/-- one draw -/
def drawn (ns : List Int) (d : Dr) (m : Int) : Int × Dr :=
  if 0 < d.cell then (d.cell % m, { d with cell := d.cell / m })
  else if ns.length < d.pos + 1 then ((d.rest * 48271 + 11) % 2147483647 / 7 % m, { d with pos := d.pos + 1, rest := (d.rest * 48271 + 11) % 2147483647 })
  else ((ns.getD d.pos 0) % m, { pos := d.pos + 1, rest := (d.rest * 48271 + ns.getD d.pos 0 + 11) % 2147483647, cell := if 10 ^ 18 ≤ ns.getD d.pos 0 then ns.getD d.pos 0 / m else d.cell })
theorem drawn_bd {ns : List Int} {d : Dr} {m : Int} (h : 0 < m) : 0 ≤ (drawn ns d m).1 ∧ (drawn ns d m).1 < m := by
  unfold drawn
  split
  · exact ⟨Int.emod_nonneg _ (by omega), Int.emod_lt_of_pos _ h⟩
  · split
    · exact ⟨Int.emod_nonneg _ (by omega), Int.emod_lt_of_pos _ h⟩
    · exact ⟨Int.emod_nonneg _ (by omega), Int.emod_lt_of_pos _ h⟩
theorem drawn_ok {ns : List Int} {d : Dr} {m : Int} (h : 0 < m) (ok : d.Ok) : (drawn ns d m).2.Ok := by
  have h1 := ok.r0
  have h2 := ok.r1
  have h3 := ok.c0
  unfold drawn
  split
  · exact ⟨h1, h2, Int.ediv_nonneg h3 (by omega)⟩
  · split
    · exact ⟨Int.emod_nonneg _ (by omega), Int.emod_lt_of_pos _ (by omega), h3⟩
    · refine ⟨Int.emod_nonneg _ (by omega), Int.emod_lt_of_pos _ (by omega), ?_⟩
      show 0 ≤ (if 10 ^ 18 ≤ ns.getD d.pos 0 then ns.getD d.pos 0 / m else d.cell)
      split
      · rename_i hh
        exact Int.ediv_nonneg (by omega) (by omega)
      · exact h3
end Lk

/-! ## D20 -/
set_option Elab.async false
set_option linter.all false
set_option maxRecDepth 100000
set_option maxHeartbeats 2000000
namespace Lk
open PySem PySem.Spec PyProof.Rows L2 Gx
open GxR (TabG Tabbed TabB)
variable [Own]
abbrev s__law_taken : Stmt := top 35
theorem sc__law_taken : FnScope ["row", "many", "found", "cell"] ["row", "many"] (defScope s__law_taken) := ⟨rfl, rfl, rfl, by decide +kernel, rfl, by decide +kernel, by decide +kernel⟩
/-- a row of draws stands -/
def Rw (K : PySem.W.Frag) (H : Hp) (r sc : Addr) (ns : List Int) : Prop := ∃ d, RowAt K H r sc ns d
theorem Rw.lst {K : PySem.W.Frag} {H : Hp} {r sc : Addr} {ns : List Int} (h : Rw K H r sc ns) : ∃ rs, H r = some (.lst rs) := by
  obtain ⟨_, h⟩ := h
  exact ⟨_, h.row⟩
theorem Rw.ext {K : PySem.W.Frag} {H H' : Hp} {r sc : Addr} {ns : List Int} (h : Rw K H r sc ns) (e : Ext H H') : Rw K H' r sc ns := by
  obtain ⟨_, h⟩ := h
  exact ⟨_, h.ext e⟩
def spTaken (K : PySem.W.Frag) : Sp := fun vs H Q _ => ∃ (r sc : Addr) (ns : List Int) (m : Int), vs = [.ref r, .int m] ∧ Rw K H r sc ns ∧ (0 < m ∧ m < 1000000) ∧
  ∀ H' i, ExtB r H H' → Rw K H' r sc ns → (∀ a, a ≠ r → H' a = H a) → (0 ≤ i ∧ i < m) → Q (.int i) H'
section
variable {P : Program} {w : World} {K : PySem.W.Frag} {mg : Str → Option Value} {base : Heap} {Ps : List Addr}
theorem ok_taken {f : Addr} {fd : FuncData} (F : Fun K "_law_taken" "_law_taken" s__law_taken f fd) (B : Blt mg) : FnOk P w K mg base CX0 1 f fd ["row", "many"] (spTaken K) := by
  refine F.ok sc__law_taken (fun vs H Q E h => ?_) (fun cdv A outer s0 H vs Q E hr h => ?_)
  · obtain ⟨r, sc, ns, m, rfl, _⟩ := h
    rfl
  · obtain ⟨r, sc, ns, m, rfl, ⟨d, hR⟩, hm, k0⟩ := h
    have k : ∀ H', ExtB r H H' → RowAt K H' r sc ns (drawn ns d m).2 → (∀ a, a ≠ r → H' a = H a) → Q (.int (drawn ns d m).1) H' := fun H' e q t => k0 H' _ e ⟨_, q⟩ t (drawn_bd hm.1)
    refine ⟨_, (pss_cons (ps_if (pt_cmpR op_gt (pe_ix ix_lT (pv 0) pe_int (fun _ _ => rfl)) pe_int (nomark _))
        (pss_cons (ps_set (i := 2) sc__law_taken.nd rfl (by first | exact Or.inl rfl | exact Or.inr rfl) (pe_op op_mod (pe_callTy call_int1 (by rfl) B.int boot_tyInt (pa_cons (pe_ix ix_lT (pv 0) pe_int (fun _ _ => rfl)) pa_nil)) (pv 1)))
        (pss_cons (ps_asg (pe_op op_fdiv (pe_ix ix_lT (pv 0) pe_int (fun _ _ => rfl)) (pv 1)) (pg_sub (pv 0) pe_int set_list))
        (pss_one (ps_ret (pv 2))))) pss_nil)
      (pss_cons (ps_asg (pe_op op_add (pe_ix ix_lT (pv 0) pe_int (fun _ _ => rfl)) pe_int) (pg_sub (pv 0) pe_int set_list))
      (pss_cons (ps_if (pt_cmpR op_gt (pe_ix ix_lT (pv 0) pe_int (fun _ _ => rfl)) (pe_callB call_len_seq (by rfl) B.len PySem.boot_len (pa_cons (pe_ix ix_lT (pv 0) pe_int (fun _ _ => rfl)) pa_nil)) (nomark _))
        (pss_cons (ps_asg (pe_op op_mod (pe_callTy call_int1 (by rfl) B.int boot_tyInt (pa_cons (pe_op op_add (pe_op op_mul (pe_ix ix_lT (pv 0) pe_int (fun _ _ => rfl)) pe_int) pe_int) pa_nil)) pe_int) (pg_sub (pv 0) pe_int set_list))
        (pss_one (ps_ret (pe_op op_mod (pe_callTy call_int1 (by rfl) B.int boot_tyInt (pa_cons (pe_op op_fdiv (pe_ix ix_lT (pv 0) pe_int (fun _ _ => rfl)) pe_int) pa_nil)) (pv 1))))) pss_nil)
      (pss_cons (ps_set (i := 3) sc__law_taken.nd rfl (by first | exact Or.inl rfl | exact Or.inr rfl) (pe_ix ix_list (pe_ix ix_lT (pv 0) pe_int (fun _ _ => rfl)) (pe_op op_sub (pe_ix ix_lT (pv 0) pe_int (fun _ _ => rfl)) pe_int) (fun _ _ => rfl)))
      (pss_cons (ps_asg (pe_op op_mod (pe_callTy call_int1 (by rfl) B.int boot_tyInt (pa_cons (pe_op op_add (pe_op op_add (pe_op op_mul (pe_ix ix_lT (pv 0) pe_int (fun _ _ => rfl)) pe_int) (pv 3)) pe_int) pa_nil)) pe_int) (pg_sub (pv 0) pe_int set_list))
      (pss_cons (ps_if (pt_cmpR op_ge (pv 3) (pe_op op_pow pe_int pe_int) (nomark _))
        (pss_one (ps_asg (pe_op op_fdiv (pv 3) (pv 1)) (pg_sub (pv 0) pe_int set_list))) pss_nil)
      (pss_one (ps_ret (pe_op op_mod (pe_callTy call_int1 (by rfl) B.int boot_tyInt (pa_cons (pv 3) pa_nil)) (pv 1)))))))))), ?_⟩
    have h1 := hR.ok.r0
    have h2 := hR.ok.r1
    have h3 := hR.ok.c0
    have k1 := k
    refine ⟨_, rfl, r, _, _, _, rfl, rfl, hR.row, rfl, _, _, rfl, rfl, _, rfl, ?_⟩
    unfold drawn at k1
    by_cases hc : 0 < d.cell
    · rw [if_pos hc] at k1
      rw [decide_eq_true hc]
      refine iteT ?_
      refine ⟨_, rfl, r, _, _, _, rfl, rfl, hR.row, rfl, .inl ⟨_, rfl, _, rfl, _, _, rfl, rfl, hm.1, ?_⟩⟩
      refine ⟨_, rfl, r, _, _, _, rfl, rfl, hR.row, rfl, _, rfl, _, _, rfl, rfl, ⟨hm.1, by omega⟩, _, rfl, r, _, _, _, rfl, rfl, hR.row, rfl, _, rfl, ?_⟩
      exact k1 _ (ExtB.upd hR.row) (hR.extB (ExtB.upd hR.row) upd_same ⟨h1, h2, Int.ediv_nonneg h3 (by omega)⟩) fun a ha => upd_ne ha
    · rw [if_neg hc] at k1
      rw [decide_eq_false hc]
      refine iteF ?_
      refine ⟨_, rfl, r, _, _, _, rfl, rfl, hR.row, rfl, _, _, rfl, rfl, _, rfl, r, _, _, _, rfl, rfl, hR.row, rfl, ?_⟩
      have b1 := ExtB.upd (ys := [V.ref sc, .int ((d.pos : Int) + 1), .int d.rest, .int d.cell]) hR.row
      have r1 : (upd H r (.lst [V.ref sc, .int ((d.pos : Int) + 1), .int d.rest, .int d.cell])) r = some (.lst [V.ref sc, .int ((d.pos : Int) + 1), .int d.rest, .int d.cell]) := upd_same
      have s1 := (hR.scr.extB b1).sql
      refine ⟨_, rfl, r, _, _, _, rfl, rfl, r1, rfl, _, rfl, r, _, _, _, rfl, rfl, r1, rfl, sc, _, rfl, .inl s1, _, _, rfl, rfl, _, rfl, ?_⟩
      have eL : decide (((iv ns).length : Int) < (d.pos : Int) + 1) = decide (ns.length < d.pos + 1) := by
        rw [iv_len]
        exact decide_eq_decide.mpr (by omega)
      rw [eL]
      by_cases hL : ns.length < d.pos + 1
      · rw [if_pos hL] at k1
        rw [decide_eq_true hL]
        refine iteT ?_
        refine ⟨_, rfl, r, _, _, _, rfl, rfl, r1, rfl, _, _, rfl, rfl, .inl ⟨by omega, by omega⟩, _, _, rfl, rfl, .inl ⟨_, rfl, _, _, rfl, rfl, (show (0 : Int) < 2147483647 by decide), ?_⟩⟩
        refine ⟨_, rfl, r, _, _, _, rfl, rfl, r1, rfl, ?_⟩
        have eu : ∀ z w : HO, upd (upd H r z) r w = upd H r w := fun z w => upd_upd
        rw [eu]
        refine ⟨_, rfl, r, _, _, _, rfl, rfl, upd_same, rfl, _, _, rfl, rfl, ⟨by decide, by decide⟩, .inl ⟨_, rfl, _, rfl, _, _, rfl, rfl, hm.1, ?_⟩⟩
        exact k1 _ (ExtB.upd hR.row) (hR.extB (ExtB.upd hR.row) upd_same ⟨Int.emod_nonneg _ (by omega), Int.emod_lt_of_pos _ (by omega), h3⟩) fun a ha => upd_ne ha
      · rw [if_neg hL] at k1
        rw [decide_eq_false hL]
        refine iteF ?_
        have hp : ns[d.pos]? = some (ns.getD d.pos 0) := by rw [List.getD_eq_getElem?_getD, List.getElem?_eq_getElem (by omega)]; rfl
        generalize ns.getD d.pos 0 = cell at hp k1
        refine ⟨_, rfl, r, _, _, _, rfl, rfl, r1, rfl, _, rfl, r, _, _, _, rfl, rfl, r1, rfl, _, _, rfl, rfl, sc, _, _, _, rfl, rfl, s1, at_of (j := d.pos) (by omega) (iv_at hp), ?_⟩
        refine ⟨_, rfl, r, _, _, _, rfl, rfl, r1, rfl, _, _, rfl, rfl, .inl ⟨by omega, by omega⟩, _, rfl, _, _, rfl, rfl, _, _, rfl, rfl, .inl ⟨_, rfl, _, _, rfl, rfl, (show (0 : Int) < 2147483647 by decide), ?_⟩⟩
        refine ⟨_, rfl, r, _, _, _, rfl, rfl, r1, rfl, ?_⟩
        have eu : ∀ z w : HO, upd (upd H r z) r w = upd H r w := fun z w => upd_upd
        rw [eu]
        refine ⟨_, rfl, _, _, rfl, rfl, ⟨by decide, by decide, by decide⟩, _, _, rfl, rfl, _, rfl, ?_⟩
        have e18 : (10 : Int) ^ (18 : Int).toNat = 10 ^ 18 := rfl
        rw [e18]
        have i1 : 0 ≤ (d.rest * 48271 + cell + 11) % 2147483647 := Int.emod_nonneg _ (by omega)
        have i2 : (d.rest * 48271 + cell + 11) % 2147483647 < 2147483647 := Int.emod_lt_of_pos _ (by omega)
        by_cases h18 : 10 ^ 18 ≤ cell
        · rw [if_pos h18] at k1
          rw [decide_eq_true h18]
          refine iteT ?_
          refine ⟨_, rfl, _, rfl, _, _, rfl, rfl, ⟨hm.1, by omega⟩, _, rfl, r, _, _, _, rfl, rfl, upd_same, rfl, ?_⟩
          rw [eu]
          refine ⟨_, rfl, .inl ⟨_, rfl, _, rfl, _, _, rfl, rfl, hm.1, ?_⟩⟩
          exact k1 _ (ExtB.upd hR.row) (hR.extB (ExtB.upd hR.row) upd_same ⟨i1, i2, Int.ediv_nonneg (by omega) (by omega)⟩) fun a ha => upd_ne ha
        · rw [if_neg h18] at k1
          rw [decide_eq_false h18]
          refine iteF ?_
          refine ⟨_, rfl, .inl ⟨_, rfl, _, rfl, _, _, rfl, rfl, hm.1, ?_⟩⟩
          exact k1 _ (ExtB.upd hR.row) (hR.extB (ExtB.upd hR.row) upd_same ⟨i1, i2, h3⟩) fun a ha => upd_ne ha
end
end Lk


/-! ## D05 -/
set_option Elab.async false
set_option linter.all false
set_option maxRecDepth 100000
set_option maxHeartbeats 2000000
namespace Lk
open PySem PySem.Spec PyProof.Rows L2 Gx
open GxR (TabG Tabbed TabB)
variable [Own]
/-- the moods up to a top -/
def moods (t : Int) : List Int := (List.range (t + 1).toNat).map fun k : Nat => (k : Int)
def rowsStep (rows : List (List Int)) (t : Int) : List (List Int) := rows.flatMap fun r => (moods t).map fun m => r ++ [m]
/-- all rows of moods up to these tops -/
def rowsOf (tops : List Int) : List (List Int) := tops.foldl rowsStep [[]]
theorem moods_len (t : Int) : (moods t).length = (t + 1).toNat := by unfold moods; rw [List.length_map, List.length_range]
theorem rowsStep_len (rows : List (List Int)) (t : Int) : (rowsStep rows t).length = rows.length * (t + 1).toNat := by
  unfold rowsStep
  induction rows with
  | nil => simp
  | cons r rs ih =>
    rw [List.flatMap_cons, List.length_append, ih, List.length_map, moods_len, List.length_cons, Nat.add_mul, Nat.one_mul, Nat.add_comm]
theorem rows_len4 {tops : List Int} (h : ∀ t ∈ tops, t ≤ 3) : ∀ rows : List (List Int), (tops.foldl rowsStep rows).length ≤ rows.length * 4 ^ tops.length := by
  induction tops with
  | nil => intro rows; simp
  | cons t ts ih =>
    intro rows
    have h1 := ih (fun u hu => h u (List.mem_cons_of_mem _ hu)) (rowsStep rows t)
    rw [rowsStep_len] at h1
    have h2 : (t + 1).toNat ≤ 4 := by
      have := h t (List.mem_cons_self ..)
      omega
    rw [List.foldl_cons, List.length_cons, Nat.pow_succ]
    refine Nat.le_trans h1 ?_
    have h3 : rows.length * (t + 1).toNat ≤ rows.length * 4 := Nat.mul_le_mul_left _ h2
    calc rows.length * (t + 1).toNat * 4 ^ ts.length ≤ rows.length * 4 * 4 ^ ts.length := Nat.mul_le_mul_right _ h3
      _ = rows.length * (4 ^ ts.length * 4) := by rw [Nat.mul_assoc, Nat.mul_comm 4]
theorem rows_row {tops : List Int} : ∀ {rows : List (List Int)} {n : Nat}, (∀ r ∈ rows, r.length = n) → ∀ r ∈ tops.foldl rowsStep rows, r.length = n + tops.length := by
  induction tops with
  | nil => intro rows n h r hr; simpa using h r hr
  | cons t ts ih =>
    intro rows n h r hr
    rw [List.foldl_cons] at hr
    have := ih (rows := rowsStep rows t) (n := n + 1) (fun q hq => by
      unfold rowsStep at hq
      obtain ⟨z, hz, hq⟩ := List.mem_flatMap.mp hq
      obtain ⟨m, _, rfl⟩ := List.mem_map.mp hq
      rw [List.length_append, h z hz]
      rfl) r hr
    rw [this, List.length_cons]
    omega
abbrev s_rows_of : Stmt := top 19
theorem sc_rows_of : FnScope ["tops", "rows", "top", "row", "mood"] ["tops"] (defScope s_rows_of) := ⟨rfl, rfl, rfl, by decide +kernel, rfl, by decide +kernel, by decide +kernel⟩
def spRowsOf : Sp := fun vs H Q _ => ∃ (v : V) (tops : List Int), vs = [v] ∧ TI H v tops ∧ tops.length ≤ 6 ∧ (∀ t ∈ tops, 0 ≤ t ∧ t ≤ 3) ∧ ∀ H' p vs, Ext H H' → H p = none → H' p = some (.lst vs) → Paired (TI H') vs (rowsOf tops) → Q (.ref p) H'
theorem foldl_take {α β : Type} {f : α → β → α} {a : α} {l : List β} {i : Nat} {x : β} (h : l[i]? = some x) : (l.take (i + 1)).foldl f a = f ((l.take i).foldl f a) x := by
  rw [List.take_add_one, h]
  simp
theorem flatMap_take {α β : Type} {f : α → List β} {l : List α} {i : Nat} {x : α} (h : l[i]? = some x) : (l.take (i + 1)).flatMap f = (l.take i).flatMap f ++ f x := by
  rw [List.take_add_one, h]
  simp
section
variable {P : Program} {w : World} {K : PySem.W.Frag} {mg : Str → Option Value} {base : Heap} {Ps : List Addr}
theorem ok_rows_of {f : Addr} {fd : FuncData} (F : Fun K "rows_of" "rows_of" s_rows_of f fd) (B : Blt mg) : FnOk P w K mg base CX0 1 f fd ["tops"] spRowsOf := by
  refine F.ok sc_rows_of (fun vs H Q E h => ?_) (fun cdv A outer s H vs Q E hr h => ?_)
  · obtain ⟨v, W, rfl, _⟩ := h
    rfl
  · obtain ⟨v, tops, rfl, ⟨a, rfl, ha⟩, h6, hT, k⟩ := h
    refine ⟨_, (pss_cons (ps_set (i := 1) sc_rows_of.nd rfl (by first | exact Or.inl rfl | exact Or.inr rfl) (pe_lst (pa_cons (pe_tup pa_nil) pa_nil)))
      (pss_cons (ps_for PassesOwn.never rfl (pi_tup (pv 0)) (pg_name (i := 2) sc_rows_of.nd rfl (by first | exact Or.inl rfl | exact Or.inr rfl))
        (pss_one (ps_setLc2 (i := 1) (own := [("row", 3), ("mood", 4)]) (vs1 := [4]) rfl sc_rows_of.nd rfl rfl (sw_true rfl rfl rfl (by decide +kernel)) (pi_list (pv 1)) (blkOk_by (N := ["tops", "rows", "top", "row", "mood"]) (sc := defScope s_rows_of) (by decide +kernel)) (by decide) (fun _ _ _ _ _ => (pg_name (i := 3) sc_rows_of.nd rfl (by first | exact Or.inl rfl | exact Or.inr rfl))) (fun _ _ _ _ _ => pts_nil) (fun _ _ _ _ _ => (pi_range1 (by rfl) B.range (pa_cons (pe_op op_add (pv 2) pe_int) pa_nil))) (fun _ _ _ _ _ => (pg_name (i := 4) sc_rows_of.nd rfl (by first | exact Or.inl rfl | exact Or.inr rfl))) (fun _ _ _ _ _ => pts_nil) (fun _ _ _ _ _ => (pe_op op_catTT (pv 3) (pe_tup (pa_cons (pv 4) pa_nil)))))))
      (pss_one (ps_ret (pv 1))))), ?_⟩
    have rl : ∀ i, ((tops.take i).foldl rowsStep [[]]).length ≤ 4096 := fun i => by
      have h1 := rows_len4 (tops := tops.take i) (fun t ht => (hT t (List.mem_of_mem_take ht)).2) [[]]
      have h2 : 4 ^ (tops.take i).length ≤ 4 ^ 6 := Nat.pow_le_pow_right (by decide) (by rw [List.length_take]; omega)
      simp only [List.length_singleton, Nat.one_mul] at h1
      exact Nat.le_trans h1 h2
    refine ⟨(by show 0 ≤ sizeLine; decide), fun q hq => ⟨(by show 1 ≤ sizeLine; decide), fun p hp => ?_⟩⟩
    have hpq : p ≠ q := fun z => by rw [z, upd_same] at hp; cases hp
    have hp0 : H p = none := by rw [upd_ne hpq] at hp; exact hp
    have E1 : Ext H (upd (upd H q (.tup [])) p (.lst [.ref q])) := (Ext.new hq _).trans (Ext.new hp _)
    refine ⟨_, rfl, a, rfl, ⟨_, SqT.of (E1.tup ha)⟩, for_tup (K := K) (a := a) (xs := iv tops) (fun i σ H' => ∃ (r : Addr) (vs : List V) (o2 o3 o4 : Option V), σ = [some (.ref a), some (.ref r), o2, o3, o4] ∧ Ext H H' ∧ H r = none ∧ H' r = some (.lst vs) ∧ Paired (TI H') vs ((tops.take i).foldl rowsStep [[]]))
      ⟨p, _, none, none, none, rfl, E1, hp0, upd_same, .cons ⟨q, rfl, by rw [upd_ne hpq.symm]; exact upd_same⟩ .nil⟩ (fun i σ H' _ ⟨_, _, _, _, _, _, e, _⟩ => SqT.of (e.tup ha)) ?_ ?_⟩
    · rintro i x σ H' hi ⟨r, vs, o2, o3, o4, rfl, e, hr0, hvs, hpv⟩
      obtain ⟨t, ht, rfl⟩ := iv_get hi
      have hb := hT t (List.mem_of_getElem? ht)
      have lvs : vs.length ≤ 4096 := by rw [paired_len hpv]; exact rl i
      refine ⟨_, rfl, r, rfl, ⟨_, SqL.of hvs⟩, fun D hD => ?_⟩
      have hDr : D ≠ r := fun z => by rw [z, hvs] at hD; cases hD
      have D0 : H D = none := e.free hD
      refine lc2_out (walk_list (K := K) (a := r) (xs := vs)) (fun j H2 => ∃ acc, H2 D = some (.lst acc) ∧ Ext H' H2 ∧ acc.length = j * (t + 1).toNat ∧ Paired (TI H2) acc ((((tops.take i).foldl rowsStep [[]]).take j).flatMap fun r => (moods t).map fun m => r ++ [m])) ⟨[], upd_same, Ext.new hD _, by simp, .nil⟩ (fun j H2 _ ⟨_, _, e2, _⟩ => SqL.of (e2.lst hvs)) (fun j x H2 H3 hj ⟨acc, hacc, e2, hl, hp2⟩ y => ?_) fun H2 ⟨acc, hacc, e2, hl, hp2⟩ => ?_
      · obtain ⟨e3, hx⟩ := y
        subst e3
        obtain ⟨row, hrow, hx2⟩ := paired_get' (pTI.ext e2 hpv) hx
        obtain ⟨z, rfl, hz⟩ := hx2
        refine ⟨rfl, yes ?_⟩
        refine ⟨_, rfl, _, _, rfl, rfl, t + 1, rfl, by omega, by omega, ?_⟩
        refine lc2_in (walk_range (lo := 0) (n := (t + 1).toNat)) (fun m H4 => ∃ acc2, H4 D = some (.lst acc2) ∧ Ext H' H4 ∧ acc2.length = j * (t + 1).toNat + m ∧ Paired (TI H4) acc2 (((((tops.take i).foldl rowsStep [[]]).take j).flatMap fun r => (moods t).map fun m => r ++ [m]) ++ ((moods t).take m).map fun m => row ++ [m])) ⟨acc, hacc, e2, by omega, by simpa using hp2⟩ (fun _ _ _ _ => trivial) (fun m x H4 H5 hm ⟨acc2, hacc2, e4, hl2, hp4⟩ y => ?_) fun H4 ⟨acc2, hacc2, e4, hl2, hp4⟩ => ?_
        · obtain ⟨e5, ex⟩ := y
          subst e5
          have ex' : x = V.int (m : Int) := ex.trans (by show V.int (0 + ((m : Nat) : Int)) = _; rw [Int.zero_add])
          subst ex'
          have hz4 : H5 z = some (.tup (iv row)) := by
            obtain ⟨row', hrow', z', ez, hz'⟩ := paired_get' (pTI.ext e4 hpv) hx
            cases ez
            rw [hrow] at hrow'
            cases hrow'
            exact hz'
          have rowlen : row.length ≤ 6 := by
            have h1 := rows_row (tops := tops.take i) (rows := [[]]) (n := 0) (fun r hr => by rw [List.mem_singleton.mp hr]; rfl) row (List.mem_of_getElem? hrow)
            rw [h1, List.length_take]
            omega
          have hm' : m < (t + 1).toNat := hm
          have hjv : j < vs.length := hj
          have lb : acc2.length < 20000 := by
            rw [hl2]
            have h3 : (t + 1).toNat ≤ 4 := by omega
            have h4 : j * (t + 1).toNat ≤ j * 4 := Nat.mul_le_mul_left _ h3
            omega
          have fin : ∀ (H7 : Hp) (y : V), Ext H5 H7 → H7 D = some (.lst acc2) → TI H7 y (row ++ [(m : Int)]) → ∃ acc, H7 D = some (.lst acc) ∧ acc.length < sizeLine ∧ ∃ acc3, (upd H7 D (.lst (acc ++ [y]))) D = some (.lst acc3) ∧ Ext H' (upd H7 D (.lst (acc ++ [y]))) ∧ acc3.length = j * (t + 1).toNat + (m + 1) ∧
              Paired (TI (upd H7 D (.lst (acc ++ [y])))) acc3 (((((tops.take i).foldl rowsStep [[]]).take j).flatMap fun r => (moods t).map fun m => r ++ [m]) ++ ((moods t).take (m + 1)).map fun m => row ++ [m]) := by
            intro H7 y e7 h7 hy
            refine ⟨acc2, h7, Nat.lt_of_lt_of_le lb (by decide), acc2 ++ [y], upd_same, (e4.trans e7).put hD _, by rw [List.length_append, hl2]; simp; omega, ?_⟩
            have em : (moods t)[m]? = some (m : Int) := by
              unfold moods
              rw [List.getElem?_map, List.getElem?_range hm']
              rfl
            rw [List.take_add_one, em, List.map_append, ← List.append_assoc]
            refine pTI.put (H := H7) h7 (fun _ _ h => h) (paired_snoc hy (pTI.ext e7 hp4))
          refine ⟨rfl, yes ?_⟩
          refine ⟨_, rfl, _, rfl, (by show 1 ≤ sizeLine; decide), fun u hu => ?_⟩
          have hzu : z ≠ u := ne_of_none hz4 hu
          have hDu : D ≠ u := ne_of_none hacc2 hu
          refine ⟨z, u, iv row, _, rfl, rfl, by rw [upd_ne hzu]; exact hz4, upd_same, by rw [iv_len]; show row.length + 1 ≤ sizeLine; exact Nat.le_of_lt (small1000 (by omega)), fun e0 => ?_, (fun _ e0 => by cases e0), fun e0 _ v hv => ?_⟩
          · refine fin _ _ (Ext.new hu _) (by rw [upd_ne hDu]; exact hacc2) ⟨u, rfl, ?_⟩
            have r0 : row = [] := by
              cases row with
              | nil => rfl
              | cons a b => cases e0
            rw [upd_same, r0]
            rfl
          · have hDv : D ≠ v := fun z => by rw [z] at hDu hacc2; rw [upd_ne hDu, hacc2] at hv; cases hv
            refine fin _ _ ((Ext.new hu _).trans (Ext.new hv _)) (by rw [upd_ne hDv, upd_ne hDu]; exact hacc2) ⟨v, rfl, ?_⟩
            rw [upd_same]
            show some (HO.tup (iv row ++ [V.int (m : Int)])) = _
            unfold iv
            rw [List.map_append]
            rfl
        · refine ⟨acc2, hacc2, e4, by rw [hl2, Nat.add_mul, Nat.one_mul], ?_⟩
          have hm2 : (moods t).take (t + 1).toNat = moods t := List.take_of_length_le (by rw [moods_len]; exact Nat.le_refl _)
          rw [hm2] at hp4
          rw [flatMap_take hrow]
          exact hp4
      · refine ⟨D, acc, _, _, _, rfl, e.trans e2, D0, hacc, ?_⟩
        have hj2 : ((tops.take i).foldl rowsStep [[]]).take vs.length = (tops.take i).foldl rowsStep [[]] := List.take_of_length_le (by rw [paired_len hpv]; exact Nat.le_refl _)
        rw [hj2] at hp2
        rw [foldl_take ht]
        exact hp2
    · rintro σ H' ⟨r, vs, o2, o3, o4, rfl, e, hr0, hvs, hpv⟩
      rw [iv_len, List.take_length] at hpv
      exact ⟨_, rfl, k H' r vs e hr0 hvs hpv⟩
end
end Lk


/-! ## Seq2 -/
set_option Elab.async false
set_option linter.all false
set_option maxRecDepth 100000
set_option maxHeartbeats 2000000
/-! Walks over a list or a tuple. -/
namespace Lk
open PySem PySem.Spec PyProof.Rows L2 Gx
variable [Own]
/-- a list (true) or a tuple of these -/
def SqB (k : Bool) (H : Hp) (a : Addr) (xs : List V) : Prop := if k = true then H a = some (.lst xs) else H a = some (.tup xs)
theorem SqB.ext {k : Bool} {H H' : Hp} {a : Addr} {xs : List V} (e : Ext H H') (h : SqB k H a xs) : SqB k H' a xs := by
  cases k with
  | true => exact e.lst h
  | false => exact e.tup h
def itB (K : PySem.W.Frag) (k : Bool) (a : Addr) : It := if k = true then Itl K a else Itt K a
def iSeqV (K : PySem.W.Frag) (i : Nat) : L2.TI := fun σ H R => ∃ a, σ[i]? = some (some (.ref a)) ∧ ∃ (k : Bool) (xs : List V), SqB k H a xs ∧ R (itB K k a) H
section
variable {X : Cx} {tg l : Expr}
theorem pi_seqV {i : Nat} (hv : PE X l (tVar i)) : PI X tg l (iSeqV X.K i) := by
  refine ⟨fun pins s σ H R I h => ?_⟩
  obtain ⟨a, e, k, xs, h, r⟩ := h
  cases k with
  | true => exact (pi_list hv).run pins s σ H R I ⟨_, e, a, rfl, ⟨xs, SqL.of h⟩, r⟩
  | false => exact (pi_tup hv).run pins s σ H R I ⟨_, e, a, rfl, ⟨xs, SqT.of h⟩, r⟩
end
theorem for_seq {K : PySem.W.Frag} {k : Bool} {a : Addr} {xs : List V} {g : TG} {tb : TS} {D : Ends} {σ : L2.St} {H : Hp} (Pv : Nat → L2.St → Hp → Prop) (h0 : Pv 0 σ H) (hl : ∀ i σ H, i ≤ xs.length → Pv i σ H → SqB k H a xs)
    (hs : ∀ i x σ H, xs[i]? = some x → Pv i σ H → g x σ H fun σ2 H2 => tb { nx := Pv (i + 1), rt := D.rt, bk := D.nx, ct := Pv (i + 1) } σ2 H2) (hd : ∀ σ H, Pv xs.length σ H → D.nx σ H) :
    ∃ W : Nat → Nat → L2.St → Hp → Prop, (∃ m, W 0 m σ H) ∧ ∀ i m σ H, W i m σ H → (itB K k a).stop i H ∧ D.nx σ H ∨ (itB K k a).go i H ∧
      ∃ N : L2.St → Hp → Prop, (∀ σ' H', N σ' H' → ∃ m', m' < m ∧ W (i + 1) m' σ' H') ∧ ∀ x H', (itB K k a).yld i H x H' → g x σ H' fun σ2 H2 => tb { nx := N, rt := D.rt, bk := D.nx, ct := N } σ2 H2 := by
  cases k with
  | true => exact for_list (K := K) (a := a) (xs := xs) Pv h0 (fun i σ H hi p => SqL.of (hl i σ H hi p)) hs hd
  | false => exact for_tup (K := K) (a := a) (xs := xs) Pv h0 (fun i σ H hi p => SqT.of (hl i σ H hi p)) hs hd
theorem paired_app {α β : Type} {R : α → β → Prop} : ∀ {l l' : List α} {m m' : List β}, Paired R l m → Paired R l' m' → Paired R (l ++ l') (m ++ m')
  | _, _, _, _, .nil, q => q
  | _, _, _, _, .cons r t, q => .cons r (paired_app t q)
end Lk

/-! ## Zip3 -/
set_option Elab.async false
set_option linter.all false
set_option maxRecDepth 100000
set_option maxHeartbeats 2000000
/-! zip of a list and two tuples of one length. -/
namespace Lk
open PySem PySem.Spec PyProof.Rows L2 Gx
variable [Own]
/-- what stands at the three -/
def At3 (a b c : Addr) (H : Hp) (xs ys zs : List V) : Prop := (H a = some (.lst xs) ∧ H b = some (.tup ys) ∧ H c = some (.tup zs)) ∧ ys.length = xs.length ∧ zs.length = xs.length
def Itz3 (a b c : Addr) : It where
  go i H := ∃ xs ys zs, At3 a b c H xs ys zs ∧ i < xs.length
  yld i H v H' := ∃ T x y u, v = .ref T ∧ H T = none ∧ H' = upd H T (.tup [x, y, u]) ∧ ∀ xs ys zs, At3 a b c H xs ys zs → xs[i]? = some x ∧ ys[i]? = some y ∧ zs[i]? = some u
  stop i H := ∃ xs ys zs, At3 a b c H xs ys zs ∧ i = xs.length
theorem vals_arr {xs : List V} {its : List Value} (v : Vals xs its) {i : Nat} {u : Value} (h : its.toArray[i]? = some u) : ∃ x, xs[i]? = some x ∧ L2.RelV x u := by
  have h2 : its[i]? = some u := by simpa using h
  exact paired_get v h2
theorem istup_is {h : Heap} {a : Addr} {arr : Array Value} (q : IsTup h a arr) : h.IsTuple a arr := by
  first
  | exact q
  | (obtain ⟨n, q⟩ := q; exact ⟨_, q, rfl, n, rfl⟩)
  | exact ⟨_, q, rfl, _, rfl⟩
theorem is_istup {h : Heap} {a : Addr} {arr : Array Value} (q : h.IsTuple a arr) (h0 : ∀ o, h.get? a = some o → o.cls = .type "tuple" → True) : IsTup h a arr := by
  first
  | exact q
  | exact ⟨_, q⟩
theorem get_lt {h : Heap} {a : Addr} {o : Obj} (e : h.get? a = some o) : a < h.objs.size := by
  rcases Nat.lt_or_ge a h.objs.size with q | q
  · exact q
  · exfalso
    unfold Heap.get? at e
    rw [Array.getElem?_eq_none q] at e
    cases e
abbrev tn3 (z TI TO i1 i2 i3 a b c : Addr) : Nat → Heap → Prop := fun i h => IsZip h z TI TO .none ∧ IsTupOf3 h TI (.ref i1) (.ref i2) (.ref i3) ∧ (∃ a1 a2 a3, IsTupOf3 h TO a1 a2 a3) ∧ h.IsListIter i1 a i ∧ h.IsTupleIter i2 b i ∧ h.IsTupleIter i3 c i
section
variable {P : Program} {w : World} {K : PySem.W.Frag}
theorem turn_zip3 {elts : List Expr} {kk : Nat} {tpos : Pos} {a b c z TI TO i1 i2 i3 : Addr} (sep : ZipSep3 z TI TO i1 i2 i3 [i1, a] [i2, b] [i3, c]) (n1 : a ≠ i1) (n2 : b ≠ i2) (n3 : c ≠ i3) :
    Turn P w K (.Tuple elts kk tpos) (Itz3 a b c) [z, TI, TO, i1, i2, i3] z (tn3 z TI TO i1 i2 i3 a b c) := by
  refine ⟨List.mem_cons_self .., ?_, ?_, ?_, ?_, ?_⟩
  · rintro i h ⟨hz, hti, ⟨a1, a2, a3, hto⟩, ⟨o1, h1, c1, d1⟩, ⟨o2, h2, c2, d2⟩, ⟨o3, h3, c3, d3⟩⟩ q hq
    simp only [List.mem_cons, List.mem_nil_iff, or_false] at hq
    rcases hq with rfl | rfl | rfl | rfl | rfl | rfl
    · exact ⟨_, hz, fun v e => by cases e⟩
    · exact ⟨_, hti, fun v e => by cases e⟩
    · exact ⟨_, hto, fun v e => by cases e⟩
    · exact ⟨_, h1, fun v e => by rw [d1] at e; cases e⟩
    · exact ⟨_, h2, fun v e => by rw [d2] at e; cases e⟩
    · exact ⟨_, h3, fun v e => by rw [d3] at e; cases e⟩
  · rintro i h h' ⟨hz, hti, ⟨a1, a2, a3, hto⟩, ⟨o1, h1, c1, d1⟩, ⟨o2, h2, c2, d2⟩, ⟨o3, h3, c3, d3⟩⟩ kp
    exact ⟨kp z (by simp) _ hz, kp TI (by simp) _ hti, ⟨a1, a2, a3, kp TO (by simp) _ hto⟩, ⟨o1, kp i1 (by simp) _ h1, c1, d1⟩, ⟨o2, kp i2 (by simp) _ h2, c2, d2⟩, ⟨o3, kp i3 (by simp) _ h3, c3, d3⟩⟩
  · rintro X rfl rfl rfl calm i pins s σ H E I hfp ⟨hz, hti, hto, h1, h2, h3⟩ ⟨xs, ys, zs, ⟨⟨ea, eb, ec⟩, ly, lz⟩, hi⟩
    obtain ⟨its1, m1, v1, g1, s1⟩ := I.lst ea
    obtain ⟨its2, v2, g2, s2⟩ := I.tuple (SqT.of eb)
    obtain ⟨its3, v3, g3, s3⟩ := I.tuple (SqT.of ec)
    have hA : X.A.in1.handled = none := I.ok.hd calm
    have G := GoesN.zip3 (prog := X.prog) (w := X.w) (A := X.A) (elts := elts) (x1 := kk) (pos := tpos) sep (Draws.list hA i1 a n1 its1.toArray) (Draws.tuple hA i2 b n2 its2.toArray) (Draws.tuple hA i3 c n3 its3.toArray)
    have l1 := paired_len v1
    have l2 := paired_len v2
    have l3 := paired_len v3
    refine G.goes i s _ E (by simp only [List.size_toArray]; omega) ⟨hz, hti, hto, ⟨h1, ⟨_, g1, rfl, _, rfl⟩⟩, ⟨h2, istup_is g2⟩, ⟨h3, istup_is g3⟩⟩ ?_
    rintro v h' tk ⟨T, x, y, u, rfl, hT, p1, p2, p3, hI⟩ ⟨qz, qti, qto, ⟨q1, _⟩, ⟨q2, _⟩, ⟨q3, _⟩⟩ kp ht
    obtain ⟨x', e1, r1⟩ := vals_arr v1 p1
    obtain ⟨y', e2, r2⟩ := vals_arr v2 p2
    obtain ⟨u', e3, r3⟩ := vals_arr v3 p3
    have hT0 : H T = none := I.hok.fresh hT
    have I2 := I.turnedNew (h' := h') (t' := tk) (ch := [z, TO, i1, i2, i3]) (T := T) (ob := .tup [x', y', u']) kp (fun q hq => hfp q (by
      simp only [List.mem_cons, List.mem_nil_iff, or_false] at hq ⊢
      rcases hq with h | h | h | h | h <;> simp [h])) hT (by
        unfold ObjOk
        exact ⟨by show 3 ≤ sizeLine; decide, [x, y, u], .cons r1 (.cons r2 (.cons r3 .nil)), hI⟩)
    refine ⟨.ref T, _, I2, rfl, ⟨T, x', y', u', rfl, hT0, rfl, ?_⟩, ⟨qz, qti, qto, q1, q2, q3⟩, fun q hq => ?_⟩
    · rintro xs' ys' zs' ⟨⟨fa, fb, fc⟩, _, _⟩
      rw [ea] at fa
      rw [eb] at fb
      rw [ec] at fc
      cases fa
      cases fb
      cases fc
      exact ⟨e1, e2, e3⟩
    · obtain ⟨hn, _⟩ := hfp q hq
      obtain ⟨o, ho, _⟩ : ∃ o, s.heap.get? q = some o ∧ True := by
        obtain ⟨a1, a2, a3, hto⟩ := hto
        obtain ⟨o1, h1, _⟩ := h1
        obtain ⟨o2, h2, _⟩ := h2
        obtain ⟨o3, h3, _⟩ := h3
        simp only [List.mem_cons, List.mem_nil_iff, or_false] at hq
        rcases hq with rfl | rfl | rfl | rfl | rfl | rfl
        · exact ⟨_, hz, trivial⟩
        · exact ⟨_, hti, trivial⟩
        · exact ⟨_, hto, trivial⟩
        · exact ⟨_, h1, trivial⟩
        · exact ⟨_, h2, trivial⟩
        · exact ⟨_, h3, trivial⟩
      have : q ≠ T := fun e => by
        rw [e] at ho
        exact absurd (get_lt ho) (Nat.not_lt.mpr hT)
      rw [upd_ne this]
      exact hn
  · rintro X rfl rfl rfl calm i pins s σ H E I hfp ⟨hz, hti, hto, h1, h2, h3⟩ ⟨xs, ys, zs, ⟨⟨ea, eb, ec⟩, ly, lz⟩, hi⟩
    obtain ⟨its1, m1, v1, g1, s1⟩ := I.lst ea
    obtain ⟨its2, v2, g2, s2⟩ := I.tuple (SqT.of eb)
    obtain ⟨its3, v3, g3, s3⟩ := I.tuple (SqT.of ec)
    have hA : X.A.in1.handled = none := I.ok.hd calm
    have G := GoesN.zip3 (prog := X.prog) (w := X.w) (A := X.A) (elts := elts) (x1 := kk) (pos := tpos) sep (Draws.list hA i1 a n1 its1.toArray) (Draws.tuple hA i2 b n2 its2.toArray) (Draws.tuple hA i3 c n3 its3.toArray)
    have l1 := paired_len v1
    have l2 := paired_len v2
    have l3 := paired_len v3
    have en : min (min its1.toArray.size its2.toArray.size) its3.toArray.size = i := by simp only [List.size_toArray]; omega
    refine G.stops s _ E (by rw [en]; exact ⟨hz, hti, hto, ⟨h1, ⟨_, g1, rfl, _, rfl⟩⟩, ⟨h2, istup_is g2⟩, ⟨h3, istup_is g3⟩⟩) ?_
    intro h' tk kp ht
    exact I.turnedL (h' := h') (t' := tk) (ch := [z, TO, i1, i2, i3]) kp (fun q hq => hfp q (by
      simp only [List.mem_cons, List.mem_nil_iff, or_false] at hq ⊢
      rcases hq with h | h | h | h | h <;> simp [h]))
  · rintro A i s Q E ⟨hz, _⟩ q
    exact wpAny_pyIter_zip hz q
def iZip3 (ta : TA) : L2.TI := fun σ H R => ta σ H fun vs H1 => ∃ (a b c : Addr) (xs ys zs : List V), vs = [.ref a, .ref b, .ref c] ∧ At3 a b c H1 xs ys zs ∧ R (Itz3 a b c) H1
theorem pi_zip3 {X : Cx} {e e2 e3 : Expr} {ta : TA} {p pos tpos : Pos} {elts : List Expr} {kk : Nat} (hg : Gl X "zip") (hm : X.mg "zip" = none) (ha : PA X [e, e2, e3] ta)
    (hs : starEach [e, e2, e3] X.env = (false, eval e X.env) :: starEach [e2, e3] X.env := by rfl) (hpl : (backTo pos (starEach [e2, e3] X.env)).any (·.1) = false := by rfl) :
    PI X (.Tuple elts kk tpos) (.Call (.Name "zip" p) [e, e2, e3] [] pos) (iZip3 ta) := by
  refine ⟨fun pins s σ H R I h => ?_⟩
  refine Call_ (ld_blt I hg hm boot_zip (PyProof.Rows.callWith_type1 (thn (ha.run pos pins s σ H _ I h) fun us s2 q => ?_) hs hpl))
  obtain ⟨vs, H2, I2, rv, a, b, c, xs, ys, zs, rfl, hat, r⟩ := q
  obtain ⟨⟨ea, eb, ec⟩, ly, lz⟩ := id hat
  cases rv with
  | cons r1 rv =>
  cases rv with
  | cons r2 rv =>
  cases rv with
  | cons r3 rv =>
  cases rv
  cases r1
  cases r2
  cases r3
  obtain ⟨its1, m1, v1, g1, s1⟩ := I2.lst ea
  obtain ⟨its2, v2, g2, s2'⟩ := I2.tuple (SqT.of eb)
  obtain ⟨its3, v3, g3, s3⟩ := I2.tuple (SqT.of ec)
  have la := get_lt g1
  have lb : b < s2.heap.objs.size := by obtain ⟨o, g, _⟩ := g2; exact get_lt g
  have lc : c < s2.heap.objs.size := by obtain ⟨o, g, _⟩ := g3; exact get_lt g
  refine zip_begins3 (begins_list a its1.toArray) (begins_tuple b its2.toArray) (begins_tuple c its3.toArray) ⟨_, g1, rfl, _, rfl⟩ (istup_is g2) (istup_is g3) ?_
  intro h' hz hti hto e1 e2 e3 hsz kp
  refine wpAny_pyIter_zip hz ?_
  have sep := zip_sep3 (N := s2.heap.objs.size) (fp1 := [a]) (fp2 := [b]) (fp3 := [c]) (by simpa using la) (by simpa using lb) (by simpa using lc)
  have I3 : L2.Inv X pins σ H2 { heap := h', gens := s2.gens, drawn := s2.drawn, toks := s2.toks, os := s2.os } := I2.kept kp
  refine ⟨_, _, _, _, H2, rfl, I3, turn_zip3 sep (Nat.ne_of_lt la) (Nat.ne_of_lt (Nat.lt_succ_of_lt lb)) (Nat.ne_of_lt (Nat.lt_succ_of_lt (Nat.lt_succ_of_lt lc))), ⟨hz, hti, ⟨_, _, _, hto⟩, ⟨_, e1, rfl, rfl⟩, ⟨_, e2, rfl, rfl⟩, ⟨_, e3, rfl, rfl⟩⟩, fun q hq => ?_, r⟩
  have hq2 : s2.heap.objs.size ≤ q := by
    simp only [List.mem_cons, List.mem_nil_iff, or_false] at hq
    rcases hq with h | h | h | h | h | h <;> (rw [h]; simp)
  exact I2.fpOk hq2 (I2.hok.fresh hq2)
theorem walk_zip3 {a b c : Addr} {xs ys zs : List V} : Walk (Itz3 a b c) xs.length (fun H => At3 a b c H xs ys zs) (fun i H v H' => ∃ T x y u, v = .ref T ∧ H T = none ∧ H' = upd H T (.tup [x, y, u]) ∧ xs[i]? = some x ∧ ys[i]? = some y ∧ zs[i]? = some u) := by
  refine ⟨fun i H hi h => ⟨xs, ys, zs, h, hi⟩, fun H h => ⟨xs, ys, zs, h, rfl⟩, fun i H x H' hi h y => ?_⟩
  obtain ⟨T, x', y', u, e, h0, e2, q⟩ := y
  exact ⟨T, x', y', u, e, h0, e2, q xs ys zs h⟩
end
end Lk

/-! ## D24 -/
set_option Elab.async false
set_option linter.all false
set_option maxRecDepth 100000
set_option maxHeartbeats 2000000
namespace Lk
open PySem PySem.Spec PyProof.Rows L2 Gx
open GxR (TabG Tabbed TabB)
variable [Own]
/-- a comprehension over any walk -/
theorem lc_walk {J : It} {n : Nat} {G : Hp → Prop} {Y : Nat → Hp → V → Hp → Prop} (w : Walk J n G Y) {g : TG} {tt : TT} {te : TE} {vs : List Nat} {σ : L2.St} {H1 : Hp} {D : Addr} {Qd : Hp → Prop} (Pv : Nat → Hp → Prop) (h0 : Pv 0 (upd H1 D (.lst []))) (hG : ∀ i H, i ≤ n → Pv i H → G H)
    (hs : ∀ i x H H', i < n → Pv i H → Y i H x H' → g x (wipe σ vs) H' fun σ2 H2 => wipe σ2 vs = wipe σ vs ∧ tt σ2 H2 fun b H3 =>
      if b = true then te σ2 H3 fun y H4 => ∃ acc, H4 D = some (.lst acc) ∧ acc.length < sizeLine ∧ Pv (i + 1) (upd H4 D (.lst (acc ++ [y]))) else Pv (i + 1) H3) (hd : ∀ H, Pv n H → Qd H) :
    ∃ W : Nat → Nat → Hp → Prop, (∃ m, W 0 m (upd H1 D (.lst []))) ∧ ∀ i m H, W i m H →
      (J.stop i H ∧ Qd H) ∨ (J.go i H ∧ ∃ Nx : Hp → Prop, (∀ H', Nx H' → ∃ m', m' < m ∧ W (i + 1) m' H') ∧ ∀ x H', J.yld i H x H' → g x (wipe σ vs) H' fun σ2 H2 => wipe σ2 vs = wipe σ vs ∧ tt σ2 H2 fun b H3 =>
        if b = true then te σ2 H3 fun y H4 => ∃ acc, H4 D = some (.lst acc) ∧ acc.length < sizeLine ∧ Nx (upd H4 D (.lst (acc ++ [y]))) else Nx H3) := by
  refine ⟨fun i m H => m = n - i ∧ i ≤ n ∧ Pv i H, ⟨n, by simp, Nat.zero_le _, h0⟩, ?_⟩
  rintro i m H ⟨rfl, hi, p⟩
  have q := hG i H hi p
  by_cases hlt : i < n
  · exact .inr ⟨w.goes i H hlt q, Pv (i + 1), fun H' p' => ⟨n - (i + 1), by omega, rfl, hlt, p'⟩, fun x H' y => hs i x H H' hlt p (w.yields i H x H' hlt q y)⟩
  · have e : i = n := by omega
    subst e
    exact .inl ⟨w.stops H q, hd H p⟩
/-- an empty list, told of any -/
def rEqLn : R2 := fun x y H Q => ∃ (a b : Addr) (n : Nat), x = .ref a ∧ y = .ref b ∧ H a = some (.lst (List.replicate n (.int 1))) ∧ H b = some (.lst []) ∧ Q (.bl (decide (n = 0))) H
abbrev s__law_goes : Stmt := top 39
theorem sc__law_goes : FnScope ["signs", "one", "other", "sign", "left", "right"] ["signs", "one", "other"] (defScope s__law_goes) := ⟨rfl, rfl, rfl, by decide +kernel, rfl, by decide +kernel, by decide +kernel⟩
/-- nowhere worse, by signs -/
def lawGoes : List Int → List Int → List Int → Bool
  | s :: ss, x :: xs, y :: ys => !decide (s * (y - x) < 0) && lawGoes ss xs ys
  | _, _, _ => true
def spLawGoes : Sp := fun vs H Q _ => ∃ (a : Addr) (x y : V) (ss xs ys : List Int), vs = [.ref a, x, y] ∧ H a = some (.lst (iv ss)) ∧ TI H x xs ∧ TI H y ys ∧ xs.length = ss.length ∧ ys.length = ss.length ∧ ss.length ≤ 1000 ∧ (∀ s ∈ ss, s = 1 ∨ s = -1) ∧ (∀ x ∈ xs, 0 ≤ x ∧ x ≤ 1000) ∧ (∀ x ∈ ys, 0 ≤ x ∧ x ≤ 1000) ∧
  ∀ H', Ext H H' → Q (.bl (lawGoes ss xs ys)) H'
def worse (ss xs ys : List Int) : Nat → Nat
  | 0 => 0
  | n + 1 => worse ss xs ys n + if ss.getD n 0 * (ys.getD n 0 - xs.getD n 0) < 0 then 1 else 0
theorem worse_le (ss xs ys : List Int) : ∀ n, worse ss xs ys n ≤ n
  | 0 => Nat.le_refl _
  | n + 1 => by
    have := worse_le ss xs ys n
    unfold worse
    split <;> omega
theorem worse_cons (s x y : Int) (ss xs ys : List Int) : ∀ n, worse (s :: ss) (x :: xs) (y :: ys) (n + 1) = (if s * (y - x) < 0 then 1 else 0) + worse ss xs ys n
  | 0 => by simp [worse]
  | n + 1 => by
    have := worse_cons s x y ss xs ys n
    rw [worse, this, worse]
    simp only [List.getD_cons_succ]
    omega
theorem worse_goes : ∀ (ss xs ys : List Int), xs.length = ss.length → ys.length = ss.length → decide (worse ss xs ys ss.length = 0) = lawGoes ss xs ys
  | [], [], [], _, _ => by simp [worse, lawGoes]
  | s :: ss, x :: xs, y :: ys, h1, h2 => by
    rw [List.length_cons, worse_cons, lawGoes, ← worse_goes ss xs ys (by simpa using h1) (by simpa using h2)]
    by_cases h : s * (y - x) < 0
    · rw [if_pos h, decide_eq_true h]
      simp
    · rw [if_neg h, decide_eq_false h]
      simp
section
variable {P : Program} {w : World} {K : PySem.W.Frag} {mg : Str → Option Value} {base : Heap} {Ps : List Addr}
theorem eqv_reps (n : Nat) : PyData.eqv (.list ((List.replicate n 1).map .int)) (.list ([].map .int)) = decide (n = 0) := by
  cases n with
  | zero => simp [PyData.eqv, PyData.eqvAll]
  | succ n => simp [PyData.eqv, PyData.eqvAll, List.replicate_succ]
theorem shaped_li (a : List Int) : SeqAt.shaped (.list (a.map .int)) = true := by
  unfold SeqAt.shaped
  simp only [PyData.canLay0, canLay_ints a, PyData.depth, depth_ints a, Bool.true_and]
  decide
theorem op_eqLn {X : Cx} (hu : X.A.units + 64 < cLine) : OpR X (compareOp .Eq) rEqLn := by
  intro pins s σ H x y v u Q I rx ry h
  obtain ⟨a, b, n, rfl, rfl, h1, h2, q⟩ := h
  refine op_eqD hu pins s σ H _ _ v u Q I rx ry ⟨_, _, .lst (SqL.of h1) (by
    have := dpAll_ints (K := X.K) (H := H) (List.replicate n 1)
    unfold iv at this
    rw [List.map_replicate] at this
    exact this), .lst (SqL.of h2) .nil, shaped_li _, shaped_li [], ?_⟩
  rw [show ([] : List PyData) = ([] : List Int).map .int from rfl, eqv_reps]
  exact q
theorem ok_law_goes {f : Addr} {fd : FuncData} (F : Fun K "_law_goes" "_law_goes" s__law_goes f fd) (B : Blt mg) : FnOk P w K mg base CX0 1 f fd ["signs", "one", "other"] spLawGoes := by
  refine F.ok sc__law_goes (fun vs H Q E h => ?_) (fun cdv A outer s H vs Q E hr h => ?_)
  · obtain ⟨a, x, y, ss, xs, ys, rfl, _⟩ := h
    rfl
  · obtain ⟨a, x, y, ss, xs, ys, rfl, ha, ⟨b, rfl, hb⟩, ⟨c, rfl, hc⟩, lx, ly, hl, hS, hX, hY, k⟩ := h
    refine ⟨_, (pss_one (ps_ret (pe_cmpR (op_eqLn hr.units) (pe_lc (own := [("sign", 3), ("left", 4), ("right", 5)]) rfl sc__law_goes.nd (pi_zip3 (by rfl) B.zip (pa_cons (pv 0) (pa_cons (pv 1) (pa_cons (pv 2) pa_nil)))) (blkOk_by (N := ["signs", "one", "other", "sign", "left", "right"]) (sc := defScope s__law_goes) (by decide +kernel)) (fun _ _ _ _ _ => (pg_tupT (n := 3) rfl (pgs_cons (pg_name (i := 3) sc__law_goes.nd rfl (by first | exact Or.inl rfl | exact Or.inr rfl)) (pgs_cons (pg_name (i := 4) sc__law_goes.nd rfl (by first | exact Or.inl rfl | exact Or.inr rfl)) (pgs_cons (pg_name (i := 5) sc__law_goes.nd rfl (by first | exact Or.inl rfl | exact Or.inr rfl)) pgs_nil))))) (fun _ _ _ _ _ => (pts_one (pt_cmpR op_lt (pe_op op_mul (pv 3) (pe_op op_sub (pv 5) (pv 4))) pe_int (nomark _)))) (fun _ _ _ _ _ => pe_int)) (pe_lst pa_nil) (nomark _)))), ?_⟩
    refine ⟨_, rfl, _, rfl, _, rfl, a, b, c, iv ss, iv xs, iv ys, rfl, ⟨⟨ha, hb, hc⟩, by rw [iv_len, iv_len, lx], by rw [iv_len, iv_len, ly]⟩, fun D hD => ?_⟩
    refine lc_walk (walk_zip3 (a := a) (b := b) (c := c) (xs := iv ss) (ys := iv xs) (zs := iv ys)) (fun i H' => H' D = some (.lst (List.replicate (worse ss xs ys i) (.int 1))) ∧ Ext H H') ⟨upd_same, Ext.new hD _⟩ (fun i H' _ ⟨h, e⟩ => ⟨⟨e.lst ha, e.tup hb, e.tup hc⟩, by rw [iv_len, iv_len, lx], by rw [iv_len, iv_len, ly]⟩) (fun i v H1 H2 hi ⟨h1, e1⟩ y => ?_) fun H1 ⟨h1, e1⟩ => ?_
    · obtain ⟨T, x, y, u, rfl, hT, rfl, g1, g2, g3⟩ := y
      obtain ⟨s1, e1', rfl⟩ := iv_get g1
      obtain ⟨x1, e2', rfl⟩ := iv_get g2
      obtain ⟨y1, e3', rfl⟩ := iv_get g3
      have hDT : D ≠ T := ne_of_none h1 hT
      have sb := hS _ (List.mem_of_getElem? e1')
      have xb := hX _ (List.mem_of_getElem? e2')
      have yb := hY _ (List.mem_of_getElem? e3')
      refine ⟨T, _, rfl, upd_same, rfl, _, _, rfl, _, _, rfl, _, _, rfl, rfl, rfl, ?_⟩
      refine ⟨_, rfl, _, rfl, _, rfl, _, _, rfl, rfl, _, _, rfl, rfl, .inl ⟨by omega, by omega⟩, _, _, rfl, rfl, _, rfl, ?_⟩
      have G1 : ss.getD i 0 = s1 := by rw [List.getD_eq_getElem?_getD, e1']; rfl
      have G2 : xs.getD i 0 = x1 := by rw [List.getD_eq_getElem?_getD, e2']; rfl
      have G3 : ys.getD i 0 = y1 := by rw [List.getD_eq_getElem?_getD, e3']; rfl
      by_cases hw : s1 * (y1 - x1) < 0
      · rw [decide_eq_true hw]
        refine iteT ⟨_, by rw [upd_ne hDT]; exact h1, ?_, ?_, (e1.trans (Ext.new hT _)).put hD _⟩
        · rw [List.length_replicate]
          have := worse_le ss xs ys i
          have : i < ss.length := by rw [← iv_len]; exact hi
          exact small1000 (by omega)
        · rw [upd_same, worse, G1, G2, G3, if_pos hw, ← List.replicate_succ']
      · rw [decide_eq_false hw]
        refine iteF ⟨?_, e1.trans (Ext.new hT _)⟩
        rw [upd_ne hDT, h1, worse, G1, G2, G3, if_neg hw]
        rfl
    · refine ⟨(by show 0 ≤ sizeLine; decide), fun u hu => ?_⟩
      refine ⟨D, u, _, rfl, rfl, by rw [upd_ne (ne_of_none h1 hu)]; exact h1, upd_same, ?_⟩
      rw [iv_len, worse_goes ss xs ys lx ly]
      exact k _ (e1.trans (Ext.new hu _))
end
end Lk


/-! ## Own0 -/
set_option Elab.async false
set_option linter.all false
set_option maxRecDepth 100000
set_option maxHeartbeats 2000000
/-! raise X(), X an own error class without an __init__ of its own. -/
namespace Lk
open PySem PySem.Spec PyProof.Rows L2
variable [Own]
/-- what the written part says of an own error class x, at C -/
structure Own0 (K : PySem.W.Frag) (mg : Str → Option Value) (x : Str) (C : Addr) : Prop where
  gC : mg x = some (.ref C)
  ex : PySem.W.excIn K C [.type "ValueError", .type "Exception", .type "BaseException", .type "object"] "ValueError.__new__" = true
  kC : PySem.W.keepIn K (.ref C) = true
  exC : PySem.W.subIn K (.ref C) (.type "BaseException") = some true
  tyC : PySem.W.typeIn K (.ref C) = some (.type "type")
section
variable {X : Cx} {C : Addr} {x : Str} {p pos pos2 : Pos}
theorem pmk0 (T : Own0 X.K X.mg x C) (hg : Gl X x) (hdb : (x == ("__debug__" : Str)) = false := by decide) : PMk X (.Call (.Name x p) [] [] pos) (fun _ H Q => Q (.ref C) none H) := by
  intro pins s σ H Q I h
  refine wpAny_Call_Name_kw (ld_glob I hg T.gC ?_ hdb)
  refine PySem.W.callWith_K0 I.kIn T.kC ?_
  show wpAny _ _ (call (.ref C) []) _ _ _
  obtain ⟨bm, N, nm, qn, bs, hdct, sn, sub, ab, col, dd, k0, k1, k2, k3, k5, mN, hC, hN, hni, T2⟩ := exc_obj I.kIn T.ex
  refine wpAny_call_exc_subT PySem.F.excBase_ValueError T2 hC hN hni (fun h' e hm => ?_) (Nat.zero_le _)
  exact mk_of I hm (raises_own T.exC T.tyC) h (I.hok.gone hm.new)
def tRaise0 (C : Addr) (W : WX) : TS := fun _ σ H => W (.ref C) none σ H
theorem ps_raise0 {W : WX} (hc : X.calm = true) (T : Own0 X.K X.mg x C) (tk : Takes X W) (hg : Gl X x) (hdb : (x == ("__debug__" : Str)) = false := by decide) :
    PS X (.Raise (some (.Call (.Name x p) [] [] pos)) none pos2) (tRaise0 C W) := ps_raise hc tk (pmk0 T hg hdb)
end
end Lk

/-! ## CntB -/
set_option Elab.async false
set_option linter.all false
set_option maxRecDepth 100000
set_option maxHeartbeats 2000000
/-! How often a flat thing stands in a list of flat things. -/
namespace Lk
open PySem PySem.Spec PyProof.Rows L2
variable [Own]
theorem cnt_vals {y : V} : ∀ {ys : List V} {us : List Value}, Vals ys us → ys.all flatV = true → us.countP (eqU y) = ys.countP fun z => eqV z y
  | _, _, .nil, _ => rfl
  | z :: ys, u :: us, .cons r t, h => by
    rw [List.all_cons, Bool.and_eq_true] at h
    rw [List.countP_cons, List.countP_cons, cnt_vals t h.2, eqU_of r h.1]
def rCntF (K : PySem.W.Frag) : V → List V → Hp → VK → Prop := fun x xs H Q => ∃ (a : Addr) (ys : List V) (y : V), x = .ref a ∧ xs = [y] ∧ SqL K H a ys ∧ flatV y = true ∧ ys.all flatV = true ∧ Q (.int (ys.countP fun z => eqV z y : Nat)) H
theorem mt_cntF {X : Cx} : MtR X "list.count" (rCntF X.K) := by
  intro pins s σ H x xs v us Q I rx rxs h
  obtain ⟨a, ys, y, rfl, rfl, hs, fy, fys, q⟩ := h
  cases rx
  cases rxs with
  | cons ry rt =>
    rename_i uy ut
    cases rt
    obtain ⟨its, rv, ⟨⟨cls, dd, data, sl⟩, n, ho, hc, hdn, hd⟩, hlen⟩ := I.list hs
    simp only at hc hd
    subst hc hd
    refine call_meets PySem.F.slot_list_count ⟨_, ho, rfl⟩ PySem.F.entry_list_count (PySem.F.args_list_count_2 _ _)
      (SeqAt.list_countAt a its.toArray n dd sl uy (eqU y)) ⟨ho, fun u' hu' => mem_eqAt ry fy rv fys u' (by simpa using hu'), ?_⟩
    refine ⟨.int (ys.countP fun z => eqV z y : Nat), H, I.tok _, ⟨s.toks, ?_⟩, q⟩
    show Value.int ((its.toArray.toList.countP (eqU y) : Nat) : Int) s.toks = _
    rw [show its.toArray.toList = its from rfl, cnt_vals rv fys]
end Lk

/-! ## D62g -/
set_option Elab.async false
set_option linter.all false
set_option maxRecDepth 100000
set_option maxHeartbeats 4000000
namespace Lk
open PySem PySem.Spec PyProof.Rows L2 Gx LamX
open GxR (TabG Tabbed TabB)
variable [Own]
/-- the errors that the law tells apart by a word -/
def errN (k : Nat) : Str := (["BadState", "BadFolk", "BadLot", "BadRing", "BadNumber", "BadWord", "HasOdd", "HasRing", "NoEven", "NoOdd", "BadStep"] : List Str).getD k ""
def wordN (k : Nat) : Str := (["state", "folk", "lot", "ring", "number", "word", "odd", "tree", "noeven", "noodd", "step"] : List Str).getD k ""
/-- what the written part says of the error at C, the i-th of these -/
structure RefG (K : PySem.W.Frag) (mg : Str → Option Value) (CF C : Addr) (Ad : Str → Addr) (i : Nat) : Prop where
  gF : mg "FolkError" = some (.ref CF)
  te : PySem.W.exmOne K (.ref C) (.ref CF) = some true
  ec : ExcC K C
  kW : ∀ x ∈ (["BadWeb", "BadRules", "TooMany"] : List Str), mg x = some (.ref (Ad x)) ∧ PySem.W.kitOne K (.ref C) (.ref (Ad x)) = some false
  kN : ∀ k, k < 11 → mg (errN k) = some (.ref (Ad (errN k))) ∧ PySem.W.kitOne K (.ref C) (.ref (Ad (errN k))) = some (k == i)
  i11 : i < 11
/-- the suite of the except clause -/
def suiteOf : List Stmt → List Stmt
  | .Try _ [.ExceptHandler _ _ b _] _ _ _ :: _ => b
  | _ => []
section
variable {P : Program} {w : World} {K : PySem.W.Frag} {mg : Str → Option Value} {base : Heap} {Ps : List Addr} {CF C : Addr} {Ad : Str → Addr} {i : Nat}
end
end Lk


/-! ## D63 -/
set_option Elab.async false
set_option linter.all false
set_option maxRecDepth 100000
set_option maxHeartbeats 4000000
/-! A lambda that lets errors out, handed to the def that tells which; all but the table of its code stays. -/
namespace Lk
open PySem PySem.Spec PyProof.Rows L2 Gx LamX NdefX
variable [Own]
section
variable {X : Cx} {pins : List (Addr × Obj)} {σ : L2.St} {H : Hp} {s : Shared}
/-- all but what stands at P stays, nothing goes -/
def Grown (P : Addr) (H H1 : Hp) : Prop := (∀ b o, b ≠ P → H b = some o → H1 b = some o) ∧ ∀ b, H1 b = none → H b = none
theorem lam_bare {c P : Addr} {q : Str} {params : Arguments} {body : Expr} {scope : Scope} {pos : Pos} {E : Value → Shared → Prop} {Q : Value → Shared → Prop} (I : Inv X pins σ H s) (TB : LamX.TabB X.base X.mg c P) (hcode : X.env.code = .ref c) (hT : TabS H P q) (hq : X.env.qual ++ "<lambda>" = q)
    (hdef : defaultsOf params X.env = ([], [])) (hfree : ∀ y ∈ scope.names, y.2 = .free → ∃ c, X.env.cells.lookup y.1 = some c)
    (k : ∀ (f c' : Addr) (pm ctv : Value) (H2 : Hp) (s2 : Shared), Inv X pins σ H2 s2 → Grown P H H2 → TabS H2 P q → s2.heap.get? f = some (PySem.W.kla_obj "<lambda>" q params body scope (cloFrom X.env.cells scope.names []) pm c' ctv) → H2 f = none → f ∉ frs X.stack → H2 c' = some (CodeO c' q) → Q (.ref f) s2) :
    wpAny (model X.prog X.w) X.A (eval (.Lambda params body scope pos) X.env) Q E s := by
  subst hq
  obtain ⟨tb, tP, tOk, tAll⟩ := hT
  refine PySem.W.kla_eval hdef ?_
  have old : s.heap.get? P = some { cls := .none, data := .fields tb } := I.hok P _ tP
  have blt : s.heap.BuiltinsAt X.mg P := TB.bm.keeps I.bk
  have out : ∀ {HH : Hp} {S : Shared}, Inv X pins σ HH S → S.heap.objs.size ∉ frs X.stack := fun {HH S} J hm =>
    (List.mem_cons.mp (J.stkSub _ hm)).elim (fun e => Nat.lt_irrefl _ (e ▸ J.lt)) fun e => J.nofs (Nat.le_refl _) e
  cases found : codeAmong pos tb.toList with
  | some cv =>
    obtain ⟨c0, rfl, c0O⟩ := tAll pos cv found
    refine PySem.W.kla_makeFunctionHit (mg := X.mg) (c := c) (P := P) (ps := tb) (closure_ok hfree) I.ok.glob (I.mod.glob.keeps I.bk) hcode (TB.code.keeps I.bk) old tOk found blt fun ctv hh tk grown hsz => ?_
    have J : Inv X pins σ H { s with heap := hh, toks := tk } := I.kept grown
    have J2 : Inv X pins σ H { s with heap := hh.push (PySem.W.kla_obj "<lambda>" (X.env.qual ++ "<lambda>") params body scope (cloFrom X.env.cells scope.names []) ((X.mg "__name__").getD .none) c0 ctv), toks := tk } := J.kept (t' := tk) fun _ _ e => Heap.get?_push_of_some _ e
    exact k hh.objs.size c0 _ ctv H _ J2 ⟨fun _ _ _ e => e, fun _ e => e⟩ ⟨tb, tP, tOk, tAll⟩ (Heap.get?_push_size _ rfl) (J.hok.fresh (Nat.le_refl _)) (out J) c0O
  | none =>
    refine PySem.W.kla_makeFunction (mg := X.mg) (c := c) (P := P) (ps := tb) (closure_ok hfree) I.ok.glob (I.mod.glob.keeps I.bk) hcode (TB.code.keeps I.bk) old tOk found TB.gP blt fun c1 ctv hh tk grown hge hlt hrec htb => ?_
    obtain ⟨c2, oc, vs, t, e2, hoc, hd, hv⟩ := hrec
    cases e2
    have nC : H c1 = none := I.hok.fresh hge
    have nCP : P ≠ c1 := ne_of_none tP nC
    have J := inv_table (q := X.env.qual ++ "<lambda>") (t' := tk) (more := #[rawInt pos.line, rawInt pos.col, .ref c1]) (h' := hh) I tP (fun b o hb e => grown b o hb e) htb hge ⟨oc, vs, t, hoc, hd, hv⟩
    have J2 := J.kept (t' := tk) (h' := hh.push (PySem.W.kla_obj "<lambda>" (X.env.qual ++ "<lambda>") params body scope (cloFrom X.env.cells scope.names []) ((X.mg "__name__").getD .none) c1 ctv)) fun _ _ e => Heap.get?_push_of_some _ e
    have ext : ∀ b o, b ≠ P → H b = some o → upd (upd H P (.tbl (tb ++ #[rawInt pos.line, rawInt pos.col, .ref c1]))) c1 (CodeO c1 (X.env.qual ++ "<lambda>")) b = some o := fun b o hb e => by
      rw [upd_ne (ne_of_none e nC), upd_ne hb]
      exact e
    have e1 : upd (upd H P (.tbl (tb ++ #[rawInt pos.line, rawInt pos.col, .ref c1]))) c1 (CodeO c1 (X.env.qual ++ "<lambda>")) P = some (.tbl (tb ++ #[rawInt pos.line, rawInt pos.col, .ref c1])) := by
      rw [upd_ne nCP]
      exact upd_same
    have el : (tb ++ #[rawInt pos.line, rawInt pos.col, .ref c1]).toList = tb.toList ++ [rawInt pos.line, rawInt pos.col, .ref c1] := by simp
    have tS : TabS (upd (upd H P (.tbl (tb ++ #[rawInt pos.line, rawInt pos.col, .ref c1]))) c1 (CodeO c1 (X.env.qual ++ "<lambda>"))) P (X.env.qual ++ "<lambda>") := by
      refine ⟨_, e1, by rw [el]; exact PySem.TriplesOk_snoc _ _ _ _ tOk, fun p' cv hcv => ?_⟩
      rw [el] at hcv
      rcases among_app _ tOk hcv with z | z
      · obtain ⟨c0, a1, a2⟩ := tAll p' cv z
        exact ⟨c0, a1, ext _ _ (fun z => by rw [z, tP] at a2; cases a2) a2⟩
      · exact ⟨c1, z, upd_same⟩
    exact k hh.objs.size c1 _ ctv _ _ J2 ⟨ext, fun b e => upd_none (upd_none e)⟩ tS (Heap.get?_push_size _ rfl) (J.hok.fresh (Nat.le_refl _)) (out J) upd_same
end
/-- the reading of x(lambda: ..): TT is what x makes of the lambda's -/
def tGive (P : Addr) (q : Str) (TT : (XK → Hp → VK → Prop) → Hp → VK → Prop) (t : XK → TE) : TE := fun σ H Q => TabS H P q ∧ ∀ H1, Grown P H H1 → TabS H1 P q → TT (fun E H' Q' => t E σ H' Q') H1 Q
/-- what the def handed the lambda is, in the written part -/
structure GDef (K : PySem.W.Frag) (mg : Str → Option Value) (x : Str) (st : Stmt) (g : Addr) (cdv : Value) : Prop where
  gm : mg x = some (.ref g)
  gk : PySem.W.keepIn K (.ref g) = true
  fn : ∃ (oc : Value) (od : Option Addr) (kV doc pm : Value) (an : Option Addr) (ct : Value) (osl : Array (Option Value)), K.lookup g = some ⟨oc, od, .func (PySem.W.fnOf x x (defArgs st) (defBody st) (defScope st) .none kV doc pm an cdv ct), osl⟩ ∧ Binds K (PySem.W.fnOf x x (defArgs st) (defBody st) (defScope st) .none kV doc pm an cdv ct) ["work"] []
  cd : PySem.W.codeIn K cdv x = true
section
variable {X : Cx}
theorem pe_give {TT : (XK → Hp → VK → Prop) → Hp → VK → Prop} {x q : Str} {st : Stmt} {g c P : Addr} {k : Nat} {cdv : Value} {Ng : List Str} {params : Arguments} {body : Expr} {scope : Scope} {t : XK → TE} {p lpos pos : Pos} (hg : Gl X x) (G : GDef X.K X.mg x st g cdv)
    (Sg : FnScope Ng ["work"] (defScope st)) (h0 : Ng[0]? = some ("work" : Str)) (hv : Vis (defScope st) "work") (hq : X.env.qual ++ "<lambda>" = q) (hG : GivesTo X Ng x (defScope st) g cdv (defBody st) "work" q TT)
    (TB : LamX.TabB X.base X.mg c P) (hcode : X.env.code = .ref c) (hr : Room (k + 2) X.A) (L : LamS X.env.scope scope) (hdef : defaultsOf params X.env = ([], []))
    (hbind : ∀ (q : Str) (cl : List (Str × Addr)) (pm cv ctv : Value), bindArgs (PySem.W.kla_fn "<lambda>" q params body scope cl pm cv ctv) ⟨[], []⟩ = pure [])
    (hbody : ∀ (A : Around) (outer : List Env) (s : Shared) (H : Hp) (E : XK) (f c' : Addr), Room k (A.deeper (lamEnv X scope s.heap.objs.size f c')) → PE (lamCx X A outer s H E scope f c') body (t E))
    (hdb : (x == ("__debug__" : Str)) = false := by decide) :
    PE X (.Call (.Name x p) [.Lambda params body scope lpos] [] pos) (tGive P q TT t) := by
  subst hq
  obtain ⟨oc, od, kV, doc, pm, an, ct, osl, lk, hb⟩ := G.fn
  refine ⟨fun pins s σ H Q I ⟨hT, h⟩ => wpAny_Call_Name_kw (ld_glob I hg G.gm (PySem.W.callWith_K (h₀ := X.base) I.ok.mod.kin G.gk ?_ (by rfl) (by rfl)) hdb)⟩
  refine Calls.spliced_cons (lam_bare I TB hcode hT rfl hdef (L.has I.ok) fun f c' pm' ctv H1 s' I1 eN T1 hf hfn hfr hco => Calls.spliced_nil ⟨I1.kIn, ?_⟩)
  refine wpAny_call (codeAny_mono (run_ofS (CX := C8.CX0) (E := C8.E0) (Q := Q) (N := Ng) (ps := ["work"]) (us := [.ref f]) (vs := [.ref f]) lk G.cd Sg hr I1.env0 (hb s' [.ref f] I1.kIn rfl) (.cons rfl .nil) rfl fun hr' => ?_) fun r s2 hq => ?_)
  · obtain ⟨t', a, b⟩ := hG f c' s' H1 Q (fun E H' Q' => t E σ H' Q') (fun W pn xe E p1 p2 tk hW => pe_act (i := 0) I1 L hf hfn hfr (hbind _ _ _ _ _) tk hW hr' (fun A outer s H hr2 => hbody A outer s H E f c' hr2) h0 hv) hco (h H1 eN T1)
    exact ⟨t', a.nox, b⟩
  · match r, hq with
    | .ok (.ret u), hq => exact I1.after hq
    | .ok .next, hq => exact hq.elim
    | .ok .brk, hq => exact hq.elim
    | .ok .cont, hq => exact hq.elim
    | .error e, hq => exact (show False from hq).elim
end
end Lk


/-! ## EndP -/
set_option Elab.async false
set_option linter.all false
set_option maxRecDepth 100000
set_option maxHeartbeats 4000000
/-! The end of any law: defs as they stand in the heap behind the program's lines, their tables of code objects. -/
namespace Lk
open PySem PySem.Spec PyProof.Rows L2 Gx
/-- the tables of code objects are empty when the law is called -/
def TabAll (q : Program) (mg : Str → Option Value) (h : Heap) : Prop := ∀ d ∈ recsOf q, ∃ a o fd c P, mg d.name = some (.ref a) ∧ h.get? a = some o ∧ o.data = .func fd ∧ fd.code = .ref c ∧ h.IsCode c P #[] ∧ h.TableAt c P #[]
theorem walk_tabs {l : PySem.W.OpenLaw} {q : Program} {XP : (Str → Option Value) → Heap → Prop} {YP : World → Heap → Prop} {d : DefRec} {K : Params → PySem.W.Frag} {k : Nat} {x : Str} (hn : l.most = some 63) (hdf : d.params.defaults = []) (hr : Room k callerA) (hY : ∀ w h, YP w h → (K w.params).In h)
    (F : ∀ w mg fa h, (K w.params).In h → h.Ns mainGlobals mg → mg d.name = some (.ref fa) → TabAll q mg h → LamX.LawAtS l w (K w.params) CX0 k 63 x mg fa h) : PySem.W.WalkO q [] XP YP l.row.toRowW d [] (fun f vs => PySem.call f vs) := by
  refine Att.attach_callB hn hdf fun w _ s1 mg _ fa _ _ _ _ a vs ns G Y _ _ _ hm ho hi hl hb hg => ?_
  obtain ⟨fd, cs, sp, t1, t2, t3, t4, t5, t6⟩ := F w mg fa s1.heap (hY w _ Y) G.T.g hm G.T.tab
  exact LamX.law_callTs (hY w _ Y) G.T.g G.T.b G.T.builtins G.T.nolimit hg t1 t2 t3 G.T.bmain ho hi (Nat.le_trans hl (by decide)) hr t6 t4 (fun H hH hS => t5 H a ns hl hb hH hS) fun _ _ _ z => z
/-- a def of the module, named as it is bound -/
structure FnAt (K : PySem.W.Frag) (x : Str) (st : Stmt) : Prop where
  ex : ∃ f fd, PySem.W.nsIn K mainGlobals x = some (some (.ref f)) ∧ L2.Fun K x x st f fd
/-- .. that has a table of code objects, at T -/
structure FnTb (K : PySem.W.Frag) (x : Str) (st : Stmt) (T : Addr) : Prop where
  ex : ∃ f oc od kV doc pm an cda ct osl ccl cdd vs ccs, PySem.W.nsIn K mainGlobals x = some (some (.ref f)) ∧ K.lookup f = some ⟨oc, od, .func (PySem.W.fnOf x x (defArgs st) (defBody st) (defScope st) .none kV doc pm an (.ref cda) ct), osl⟩ ∧ PySem.W.codeIn K (.ref cda) x = true ∧ PySem.W.keepIn K (.ref f) = true ∧
    K.lookup cda = some ⟨ccl, cdd, .fields vs, ccs⟩ ∧ vs[11]? = some (.ref T)
/-- .. in the heap -/
structure TabAt (K : PySem.W.Frag) (mg : Str → Option Value) (h : Heap) (x : Str) (st : Stmt) (c T : Addr) : Prop where
  hd : PySem.W.CodeHd h c T
  none : h.get? T = some { cls := .none, data := .fields #[] }
  fn : ∃ f fd, mg x = some (.ref f) ∧ L2.Fun K x x st f fd ∧ ∃ (oc : Value) (od : Option Addr) (kV doc pm : Value) (an : Option Addr) (ct : Value) (osl : Array (Option Value)),
    fd = PySem.W.fnOf x x (defArgs st) (defBody st) (defScope st) .none kV doc pm an (.ref c) ct ∧ K.lookup f = some ⟨oc, od, .func fd, osl⟩ ∧ PySem.W.codeIn K (.ref c) x = true
section
variable {P : Program} {w : World} {K : PySem.W.Frag} {mg : Str → Option Value} {base h : Heap} {x : Str} {st : Stmt} {q : Program} {CX : CXT} {k : Nat} {ps : List Str} {sp : Sp}
theorem fnAt {f : Addr} {oc : Value} {od an : Option Addr} {osl : Array (Option Value)} {kV doc pm cdv ct : Value} (n : PySem.W.nsIn K mainGlobals x = some (some (.ref f)))
    (l : K.lookup f = some ⟨oc, od, .func (PySem.W.fnOf x x (defArgs st) (defBody st) (defScope st) .none kV doc pm an cdv ct), osl⟩) (c : PySem.W.codeIn K cdv x = true) (k : PySem.W.keepIn K (.ref f) = true) : FnAt K x st := ⟨⟨_, _, n, L2.fun_mk l c k⟩⟩
theorem fnTb {f cda T : Addr} {oc : Value} {od an : Option Addr} {osl : Array (Option Value)} {kV doc pm ct : Value} {ccl : Value} {cdd : Option Addr} {vs : Array Value} {ccs : Array (Option Value)} (n : PySem.W.nsIn K mainGlobals x = some (some (.ref f)))
    (l : K.lookup f = some ⟨oc, od, .func (PySem.W.fnOf x x (defArgs st) (defBody st) (defScope st) .none kV doc pm an (.ref cda) ct), osl⟩) (c : PySem.W.codeIn K (.ref cda) x = true) (k : PySem.W.keepIn K (.ref f) = true)
    (lc : K.lookup cda = some ⟨ccl, cdd, .fields vs, ccs⟩) (l11 : vs[11]? = some (.ref T)) : FnTb K x st T := ⟨⟨_, _, _, _, _, _, _, _, _, _, _, _, _, _, n, l, c, k, lc, l11⟩⟩
theorem FnAt.cal (A : FnAt K x st) (X : K.In h) (G : h.Ns mainGlobals mg)
    (hb : ∀ (kV doc pm : Value) (an : Option Addr) (cdv ct : Value) (us : List Value), us.length = ps.length → bindArgs (PySem.W.fnOf x x (defArgs st) (defBody st) (defScope st) .none kV doc pm an cdv ct) ⟨us, []⟩ = pure (ps.zip us))
    (ok : ∀ f fd, L2.Fun K x x st f fd → FnOk P w K mg base CX k f fd ps sp) : Cal P w K mg base CX k x ps sp := by
  obtain ⟨f, fd, n, F⟩ := A.ex
  exact ⟨f, fd, PySem.W.mg_of X G n, F.kp, F.binds hb, ok f fd F⟩
theorem FnAt.gdef (A : FnAt K x st) (X : K.In h) (G : h.Ns mainGlobals mg)
    (hb : ∀ (kV doc pm : Value) (an : Option Addr) (cdv ct : Value) (us : List Value), us.length = ["work"].length → bindArgs (PySem.W.fnOf x x (defArgs st) (defBody st) (defScope st) .none kV doc pm an cdv ct) ⟨us, []⟩ = pure ((["work"] : List Str).zip us)) : ∃ g cdv, GDef K mg x st g cdv := by
  obtain ⟨f, fd, n, F⟩ := A.ex
  have B := F.binds (ps := ["work"]) hb
  have kp := F.kp
  obtain ⟨oc, od, kV, doc, pm, an, cdv, ct, osl, rfl, lk, hcd⟩ := F.ex
  exact ⟨f, cdv, PySem.W.mg_of X G n, kp, ⟨oc, od, kV, doc, pm, an, ct, osl, lk, B⟩, hcd⟩
theorem FnTb.tab {T : Addr} (A : FnTb K x st T) (X : K.In h) (G : h.Ns mainGlobals mg) (TA : TabAll q mg h) (hr : ((recsOf q).any fun e => e.name == x) = true) : ∃ c, TabAt K mg h x st c T := by
  obtain ⟨d, hd, hx⟩ := List.any_eq_true.mp hr
  have hx : d.name = x := beq_iff_eq.mp hx
  subst hx
  obtain ⟨a, o, fd, c, Q, h1, h2, h3, h4, h5, h6⟩ := TA d hd
  obtain ⟨f, oc, od, kV, doc, pm, an, cda, ct, osl, ccl, cdd, vs, ccs, n, lk, hcd, kp, lc, l11⟩ := A.ex
  have hm := PySem.W.mg_of X G n
  rw [hm] at h1
  cases h1
  have g := X _ _ lk
  rw [h2] at g
  cases g
  have e3 : fd = PySem.W.fnOf d.name d.name (defArgs st) (defBody st) (defScope st) .none kV doc pm an (.ref cda) ct := by
    have h3' : Data.func (PySem.W.fnOf d.name d.name (defArgs st) (defBody st) (defScope st) .none kV doc pm an (.ref cda) ct) = Data.func fd := h3
    exact (Data.func.inj h3').symm
  subst e3
  have e4 : Value.ref cda = .ref c := h4
  cases e4
  have eT : Q = T := by
    obtain ⟨⟨o, us, g1, _, g2, g3⟩, _⟩ := h6
    have g4 := X _ _ lc
    rw [g1] at g4
    cases g4
    have g2' : Data.fields vs = Data.fields us := g2
    cases g2'
    rw [l11] at g3
    cases g3
    rfl
  subst eT
  exact ⟨c, PySem.W.CodeHd.of h5 h6, h6.2, a, _, hm, L2.fun_mk lk hcd kp, oc, od, kV, doc, pm, an, ct, osl, rfl, lk, hcd⟩
theorem TabAt.cal [Own] {c T : Addr} {Ps : List Addr} (A : TabAt K mg h x st c T) (hP : T ∈ Ps) (hn : ¬ Own.own T) (tb : LamX.TabB base mg c T)
    (hb : ∀ (kV doc pm : Value) (an : Option Addr) (cdv ct : Value) (us : List Value), us.length = ps.length → bindArgs (PySem.W.fnOf x x (defArgs st) (defBody st) (defScope st) .none kV doc pm an cdv ct) ⟨us, []⟩ = pure (ps.zip us))
    (ok : ∀ f fd, FunT K mg base Ps x st f fd T → FnOk P w K mg base CX k f fd ps sp) : Cal P w K mg base CX k x ps sp := by
  obtain ⟨f, fd, hm, F, oc, od, kV, doc, pm, an, ct, osl, e, lk, hcd⟩ := A.fn
  exact ⟨f, fd, hm, F.kp, F.binds hb, ok f fd ⟨⟨oc, od, kV, doc, pm, an, c, ct, osl, e, lk, hcd, tb.code, tb.bm, tb.gP⟩, hP, hn⟩⟩
end
/-- no table stands among the heap's written objects -/
def noTbl (K : PySem.W.Frag) : Bool := K.all fun p => match p.2.data with | .fields vs => vs.size != 0 | _ => true
theorem lookup_mem {α β : Type} [BEq α] [LawfulBEq α] {a : α} {b : β} : ∀ {l : List (α × β)}, l.lookup a = some b → (a, b) ∈ l
  | [], e => by simp at e
  | (c, d) :: r, e => by
    rw [List.lookup_cons] at e
    cases hc : a == c with
    | true =>
      rw [hc] at e
      have := beq_iff_eq.mp hc
      subst this
      cases e
      exact .head _
    | false =>
      rw [hc] at e
      exact .tail _ (lookup_mem e)
theorem noTbl_at {K : PySem.W.Frag} {h : Heap} {T : Addr} (n : noTbl K = true) (X : K.In h) (e : h.get? T = some { cls := .none, data := .fields #[] }) : K.lookup T = none := by
  cases q : K.lookup T with
  | none => rfl
  | some o =>
    have g := X _ _ q
    rw [e] at g
    cases g
    have := List.all_eq_true.mp n _ (lookup_mem q)
    exact absurd this (fun z => Bool.noConfusion (show false = true from z))
theorem exm_self {K : PySem.W.Frag} {S : Addr} (h1 : PySem.W.subIn K (.ref S) (.type "BaseException") = some true) (h2 : PySem.W.isClsIn K S = true) (h3 : PySem.W.typeIn K (.ref S) = some (.type "type")) (h4 : PySem.W.subIn K (.ref S) (.ref S) = some true) : PySem.W.exmOne K (.ref S) (.ref S) = some true := by
  have h5 : (PySem.W.clsIn K S).isSome = true := h2
  have t1 : ((some true : Option Bool) == some true) = true := by decide
  have t2 : (some (Value.type "type") == some (Value.type "type")) = true := by rfl
  unfold PySem.W.exmOne
  rw [h1, if_pos t1]
  have t3 : ((PySem.W.clsIn K S).isSome && PySem.W.typeIn K (.ref S) == some (.type "type")) = true := by
    rw [h3, h5, t2] <;> rfl
  show (if ((PySem.W.clsIn K S).isSome && PySem.W.typeIn K (.ref S) == some (.type "type")) = true then PySem.W.subIn K (.ref S) (.ref S) else none) = some true
  rw [if_pos t3]
  exact h4
theorem num_mk {K : PySem.W.Frag} {x : Str} {n : Int} {t : Tok} (e : PySem.W.nsIn K mainGlobals x = some (some (.int n t))) : ∃ t, PySem.W.nsIn K mainGlobals x = some (some (.int n t)) := ⟨t, e⟩
/-- an own error class of the module without an __init__ of its own, as raised and as caught -/
structure OwnAt (K : PySem.W.Frag) (x : Str) (C : Addr) : Prop where
  gC : PySem.W.nsIn K mainGlobals x = some (some (.ref C))
  ex : PySem.W.excIn K C [.type "ValueError", .type "Exception", .type "BaseException", .type "object"] "ValueError.__new__" = true
  kC : PySem.W.keepIn K (.ref C) = true
  exC : PySem.W.subIn K (.ref C) (.type "BaseException") = some true
  tyC : PySem.W.typeIn K (.ref C) = some (.type "type")
  isC : PySem.W.isClsIn K C = true
  sC : PySem.W.subIn K (.ref C) (.ref C) = some true
theorem OwnAt.own0 {K : PySem.W.Frag} {h : Heap} {mg : Str → Option Value} {x : Str} {C : Addr} (o : OwnAt K x C) (X : K.In h) (G : h.Ns mainGlobals mg) : @Own0 K mg x C := ⟨PySem.W.mg_of X G o.gC, o.ex, o.kC, o.exC, o.tyC⟩
theorem OwnAt.te {K : PySem.W.Frag} {x : Str} {C : Addr} (o : OwnAt K x C) : PySem.W.exmOne K (.ref C) (.ref C) = some true := exm_self o.exC o.isC o.tyC o.sC
/-- two defs of unlike names stand apart -/
theorem fn_apart {K : PySem.W.Frag} {h : Heap} {mg : Str → Option Value} {x y : Str} {st st' : Stmt} {f1 f2 : Addr} (X : K.In h) (G : h.Ns mainGlobals mg) (A : FnAt K x st) (B : FnAt K y st') (ne : x ≠ y) (m1 : mg x = some (.ref f1)) (m2 : mg y = some (.ref f2)) : f1 ≠ f2 := by
  obtain ⟨g1, gd1, n1, F1⟩ := A.ex
  obtain ⟨g2, gd2, n2, F2⟩ := B.ex
  have h1 := PySem.W.mg_of X G n1
  have h2 := PySem.W.mg_of X G n2
  rw [m1] at h1
  rw [m2] at h2
  cases h1
  cases h2
  obtain ⟨oc1, od1, kV1, doc1, pm1, an1, cd1, ct1, osl1, rfl, lk1, _⟩ := F1.ex
  obtain ⟨oc2, od2, kV2, doc2, pm2, an2, cd2, ct2, osl2, rfl, lk2, _⟩ := F2.ex
  intro e
  subst e
  rw [lk1] at lk2
  have e2 := congrArg (fun o : Option Obj => match o with | some ⟨_, _, .func fd, _⟩ => fd.name | _ => "") lk2
  exact ne e2
/-- .. that calls itself -/
theorem FnAt.calR {P : Program} {w : World} {K : PySem.W.Frag} {mg : Str → Option Value} {base h : Heap} {x : Str} {st : Stmt} {CX : CXT} {k : Nat} {ps : List Str} {sp : Sp} (A : FnAt K x st) (X : K.In h) (G : h.Ns mainGlobals mg)
    (hb : ∀ (kV doc pm : Value) (an : Option Addr) (cdv ct : Value) (us : List Value), us.length = ps.length → bindArgs (PySem.W.fnOf x x (defArgs st) (defBody st) (defScope st) .none kV doc pm an cdv ct) ⟨us, []⟩ = pure (ps.zip us))
    (ok : ∀ f fd, L2.Fun K x x st f fd → mg x = some (.ref f) → Binds K fd ps [] → FnOk P w K mg base CX k f fd ps sp) : Cal P w K mg base CX k x ps sp := by
  obtain ⟨f, fd, n, F⟩ := A.ex
  have hm := PySem.W.mg_of X G n
  exact ⟨f, fd, hm, F.kp, F.binds hb, ok f fd F hm (F.binds hb)⟩
end Lk

/-! ## TryL -/
set_option Elab.async false
set_option linter.all false
set_option maxRecDepth 100000
set_option maxHeartbeats 4000000
namespace Lk
open PySem PySem.Spec PyProof.Rows L2 Gx LamX NdefX
open GxR (Tabbed TabG)
variable [Own]
/-- a try, by a name -/
def tTryN (tb : WX → TS) (K : PySem.W.Frag) (c : Value) (i : Nat) (ts : Addr → Value → Option Addr → TS) (Wout : WX) : TS := fun D σ H => tb (wAs K c i ts Wout D) D σ H
theorem ps_tryN {X : Cx} {x n : Str} {c : Value} {i : Nat} {body suite : List Stmt} {b₀ : Stmt} {np pos pos' : Pos} {tb : WX → TS} {ts : Addr → Value → Option Addr → TS} {Wout : WX} (hs : X.stack = X.env :: X.outer) (hf : X.env.frame = some X.env.locals) (hN : X.N.Nodup) (hi : X.N[i]? = some n) (hln : X.env.kindOf n = some .local) (hc : Names X x c) (tk : Takes X Wout)
    (hb : ∀ (W : WX) (pn : List (Addr × Obj)) (xe : Value → Shared → Prop), Takes (X.tr pn xe) W → PassesOwn (model X.prog X.w) X.A X.env xe → PSs (X.tr pn xe) body (tb W))
    (hsu : ∀ (a : Addr) (oe : Obj) (cls : Value) (d : Option Addr) (pn : List (Addr × Obj)), Zc cls d oe → (∃ vs, oe.data = .fields vs) → PSs (X.suite a ((a, oe) :: pn)) (b₀ :: suite) (ts a cls d)) :
    PS X (.Try body [.ExceptHandler (some (.Name x np)) (some n) (b₀ :: suite) pos'] [] [] pos) (tTryN tb X.K c i ts Wout) := ps_try_as hs hf hN hi hln hc tk hb hsu
/-- a def with lambdas of its own: its code object's address, its table's -/
structure FunL (K : PySem.W.Frag) (mg : Str → Option Value) (base : Heap) (x : Str) (st : Stmt) (f : Addr) (fd : FuncData) (T : Addr) : Prop where
  ex : ∃ (oc : Value) (od : Option Addr) (kV doc pm : Value) (an : Option Addr) (c : Addr) (ct : Value) (osl : Array (Option Value)),
    fd = PySem.W.fnOf x x (defArgs st) (defBody st) (defScope st) .none kV doc pm an (.ref c) ct ∧ K.lookup f = some ⟨oc, od, .func fd, osl⟩ ∧ PySem.W.codeIn K (.ref c) x = true ∧ LamX.TabB base mg c T
theorem FunL.ok {P : Program} {w : World} {K : PySem.W.Frag} {mg : Str → Option Value} {base : Heap} {x : Str} {st : Stmt} {f : Addr} {fd : FuncData} {T : Addr} {N ps : List Str} {k : Nat} {sp : Sp} (F : FunL K mg base x st f fd T) (S : FnScope N ps (defScope st)) (len : ∀ vs H Q E, sp vs H Q E → vs.length = ps.length)
    (hbody : ∀ (c : Addr) (A : Around) (outer : List Env) (s : Shared) (H : Hp) (vs : List V) (Q : VK) (E : XK), LamX.TabB base mg c T → Room k (A.deeper (envOfC x (defScope st) s.heap.objs.size f (.ref c))) → sp vs H Q E →
      ∃ t, PSs (cxOf CX0 P w K mg base N x (defScope st) f (.ref c) A outer s H E).nox (defBody st) t ∧ t { nx := fun _ H' => Q .non H', rt := Q } (start N vs) H) : FnOk P w K mg base CX0 (k + 1) f fd ps sp := by
  obtain ⟨oc, od, kV, doc, pm, an, c, ct, osl, rfl, lk, hcd, tb⟩ := F.ex
  refine fn_of lk hcd S len fun A outer s H vs Q E hr hsp => ?_
  obtain ⟨t, h, q⟩ := hbody c A outer s H vs Q E tb hr hsp
  exact ⟨t, h.nox, q⟩
/-- behind a lambda that was made: as seen without tables of one's own -/
theorem grownExt {T : Addr} {q : Str} {H1 H2 : Hp} (t1 : LamX.TabS H1 T q) (kp : Grown T H1 H2) (t2 : LamX.TabS H2 T q) : @Ext ⟨fun _ => False⟩ H1 H2 := by
  obtain ⟨p1, a1, b1, _⟩ := t1
  obtain ⟨p2, a2, b2, _⟩ := t2
  refine @Ext.mk ⟨fun _ => False⟩ _ _ (fun a o h q => kp.1 a o (fun z => ?_) h) (fun P h => ?_) (fun a o h => ?_) (fun _ _ z _ => z.elim)
  · rw [z, a1] at h
    cases h
    cases q
  · by_cases z : P = T
    · rw [z]
      exact ⟨p2, a2, b2⟩
    · obtain ⟨ps, e, t⟩ := h
      exact ⟨ps, kp.1 P _ z e, t⟩
  · by_cases z : a = T
    · rw [z]
      exact ⟨_, a2⟩
    · exact ⟨o, kp.1 a o z h⟩
theorem tabS_own {T : Addr} {q : Str} {H H' : Hp} (ho : Own.own T) (e : Ext H H') (t : LamX.TabS H T q) : LamX.TabS H' T q := by
  obtain ⟨ps, a1, a2, a3⟩ := t
  refine ⟨ps, e.own T ps ho a1, a2, fun pos cv hc => ?_⟩
  obtain ⟨c, e1, e2⟩ := a3 pos cv hc
  exact ⟨c, e1, e.keep _ _ e2 rfl⟩
end Lk

/-! ## IsD -/
set_option Elab.async false
set_option linter.all false
set_option maxRecDepth 100000
set_option maxHeartbeats 2000000
/-! isinstance of a caught exception that bears a dict of its own. -/
namespace PySem.W
open PySem PySem.Spec PySem.Calls PyProof.Rows
section
variable {prog : Program} {w : World} {A : Around} {E : Value → Shared → Prop} {s : Shared} {K : Frag} {x D : Addr} {ox : Obj} {od : Option Obj}
theorem lk_findD {C : Addr} {name : Str} {a g : Value} (hc : (clsIn K C).isSome = true) (ha : findIn K (.ref C) name = some (some a)) (hg : specialIn K a "__get__" = some (some g)) (ht : takesIn K a = some true) : findObj K C od name = some (.bind g a) := by
  obtain ⟨cd, hc⟩ := Option.isSome_iff_exists.mp hc
  unfold findObj
  rw [hc, Option.bind_some, ha, Option.bind_some]
  simp [hg, ht]
theorem lk_classD {Q : Option Value → Shared → Prop} (hga : findIn K (.ref D) "__getattribute__" = some (some (.builtin "BaseException.__getattribute__"))) (hgt : findIn K (.ref D) "__getattr__" = some none) (hsub : subIn K (.ref D) (.type "BaseException") = some true)
    (hdct : hasDictIn K D = true) (ha : findIn K (.ref D) "__class__" = some (some (.builtin "object.__class__")))
    (hn : specialIn K (.builtin "object.__class__") "__get__" = some (some (.builtin "getset_descriptor.__get__"))) (htk : takesIn K (.builtin "object.__class__") = some true) (hm : mroIn K D (.type "object") = some true)
    (X : K.In s.heap) (I : InstAt s.heap x ox D od) (h : Q (some (.ref D)) { s with toks := s.toks + 1 }) : wpAny (model prog w) A (getAttr? (.ref x) "__class__") Q E s := by
  have hf : findObj K D od "__class__" = some (.bind (.builtin "getset_descriptor.__get__") (.builtin "object.__class__")) := lk_findD (by obtain ⟨cd, hc, _⟩ := any_some hdct; rw [hc]; rfl) ha hn htk
  obtain ⟨hp, g, d, t, os⟩ := s
  have L0 := I.type (M := model prog w)
  have L1 := looks_findIn (M := model prog w) X hga
  have L2 := looks_findIn (M := model prog w) X hgt
  have L3 := looks_find (M := model prog w) X I hf
  have sub : Looks (model prog w) hp (isInstance (.ref x) (.type "BaseException")) true := L0.andThen (looks_subIn X hsub)
  have hx0 : (false && onTheHeap (Value.builtin "BaseException.__getattribute__")) = false := rfl
  have hx2 : (Value.builtin "BaseException.__getattribute__" == Value.builtin "object.__getattribute__") = false := by decide +kernel
  have hx1 : (onTheHeap (Value.ref D) && Value.builtin "BaseException.__getattribute__" == Value.builtin "object.__getattribute__") = false := by rw [hx2]; rfl
  unfold getAttr? getAttrBy? getAttrBy
  refine wpAny_bind (wpAny_mkText (wpAny_bind (wpAny_attempt (wpAny_holding (wpAny_bind (L0.at (wpAny_bind (L1.at ?_))))))))
  show wpAny _ _ (if (onTheHeap (Value.ref D) && Value.builtin "BaseException.__getattribute__" == Value.builtin "object.__getattribute__") = true then _ else _) _ _ _
  rw [hx1, if_neg Bool.false_ne_true]
  unfold getAttrByItsOwn hookBefore
  refine wpAny_bind ?_
  rw [if_pos (show onTheHeap (Value.ref D) = true from rfl)]
  refine L2.at ?_
  refine wpAny_bind (wpAny_attempt (wpAny_holding ?_))
  unfold callGetattribute
  rw [hx0, if_neg Bool.false_ne_true]
  unfold boundAndCalled
  rw [PySem.F.excAttr_ValueError.ga.bind (.ref x)]
  refine wpAny_bind (wpAny_pure ?_)
  show wpAny _ _ (call (.builtin "BaseException.__getattribute__") [.ref x, .str "__class__" t]) _ _ _
  refine wpAny_call (codeAny_call_builtin PySem.F.excAttr_ValueError.ga.plain PySem.F.entry_bexc_ga ?_)
  refine @check_slot (model prog w) _ _ ⟨hp, g, d, t + 1, os⟩ "BaseException.__getattribute__" "BaseException" "__getattribute__" (.ref x) [.str "__class__" t] [] _ (by decide +kernel) (by decide +kernel) sub (PySem.F.args_bexc_ga (.ref x) (.str "__class__" t)) ?_
  unfold Builtin.«object.__getattribute__»
  refine wpAny_bind (wpAny_of_eq (a := ((Value.ref x : Value), [Value.str "__class__" t])) (by first | rfl | (simp only [slotArgs]; rfl)) ?_)
  refine wpAny_bind (wpAny_pure (wpAny_bind (L0.at (wpAny_bind (L3.at ?_)))))
  show wpAny _ _ (holding [Value.builtin "object.__class__"] (call (.builtin "getset_descriptor.__get__") [.builtin "object.__class__", .ref x, .ref D]) >>= ret) _ _ _
  refine wpAny_bind (wpAny_holding (wpAny_call (class_get (s := ⟨hp, g, d, t + 1, os⟩) (ox := ox) (od := od) X I hm ?_)))
  refine wpAny_pure ?_
  show wpAny _ _ (handedOut (.ref D)) _ _ _
  rw [handedOut_of (v := .ref D) rfl]
  first
    | exact wpAny_pure (wpAny_pure h)
    | exact wpAny_pure h
    | exact wpAny_pure (wpAny_bind (wpAny_pure (wpAny_pure h)))
theorem lk_kitD (hga : findIn K (.ref D) "__getattribute__" = some (some (.builtin "BaseException.__getattribute__"))) (hgt : findIn K (.ref D) "__getattr__" = some none) (hsub : subIn K (.ref D) (.type "BaseException") = some true) (hdct : hasDictIn K D = true) (ha : findIn K (.ref D) "__class__" = some (some (.builtin "object.__class__")))
    (hn : specialIn K (.builtin "object.__class__") "__get__" = some (some (.builtin "getset_descriptor.__get__"))) (htk : takesIn K (.builtin "object.__class__") = some true) (hm : mroIn K D (.type "object") = some true) :
    KitX K (.ref x) (.ref D) (fun h => InstAt h x ox D od) where
  ty := fun _ _ _ I => I.type
  it := fun _ _ X _ => by
    obtain ⟨cdD, hcD, _⟩ := any_some hdct
    unfold clsIn at hcD
    split at hcD
    · rename_i c' d' cd' sl' ho
      intro A' Q' E' s' k q
      unfold isType loadHead
      exact wpAny_bind (wpAny_loadPart (k _ _ (X _ _ ho)) (wpAny_pure q))
    · cases hcD
  ne := fun h tp dd its n sl X htp => by
    obtain ⟨cdD, hcD, _⟩ := any_some hdct
    refine Bool.eq_false_iff.mpr fun q => ?_
    have e : D = tp := Value.ref.inj (beq_iff_eq.mp q)
    subst e
    unfold clsIn at hcD
    split at hcD
    · rename_i c' d' cd' sl' ho
      have z := (X _ _ ho).symm.trans htp
      cases z
    · cases hcD
  ca := fun X I k => lk_classD hga hgt hsub hdct ha hn htk hm X I k
end
end PySem.W
namespace Lk
open PySem PySem.Spec PyProof.Rows L2
variable [Own]
def rIsED (K : PySem.W.Frag) (D a : Addr) (d : Option Addr) : List V → Hp → VK → Prop := fun xs H Q => ∃ (c : V) (cv : Value) (b : Bool), xs = [.ref a, c] ∧ (∀ u, RelV c u → u = cv) ∧ PySem.W.kitOne K (.ref D) cv = some b ∧ (∃ (dd : Addr) (fs : List (Str × V)), d = some dd ∧ H dd = some (.xd fs)) ∧ Q (.bl b) H
theorem call_isED {X : Cx} {a D : Addr} {d : Option Addr} {oe : Obj} {pn : List (Addr × Obj)} (C : ExcC X.K D) (hz : Zc (.ref D) d oe) (hf : ∃ vs, oe.data = .fields vs) : CallR (X.suite a ((a, oe) :: pn)) (.builtin "isinstance") (rIsED X.K D a d) := by
  intro pins s σ H xs us Q I r h
  obtain ⟨c, cv, b, rfl, hcv, e, ⟨dd, fs, rfl, hdd⟩, q⟩ := h
  cases r with
  | cons rx rr =>
    cases rr with
    | cons rt rr =>
      cases rr
      cases rx
      have ec := hcv _ rt
      subst ec
      obtain ⟨hget, _⟩ := I.pin (a, oe) (List.mem_append.mpr (.inl List.mem_cons_self))
      obtain ⟨vs, hv⟩ := hf
      have hx : ObjOk X.prog X.w H s.heap dd (.xd fs) := I.hok dd _ hdd
      obtain ⟨mA, hns, hr⟩ := hx
      obtain ⟨od, ho, hl⟩ := lookIn_ns hns
      have J : PySem.W.InstAt s.heap a oe D (some od) := ⟨hget, hz.1, by unfold PySem.W.notCls; rw [hv] <;> rfl, by rw [hz.2]; exact ho⟩
      exact PySem.W.kia_one (PySem.W.lk_kitD C.hg C.hk C.hs C.hd C.ha C.hn C.ht C.hm) I.kIn J e (fun z => nomatch z) fun tk => ⟨.bl b, H, I.kept (t' := tk) fun _ _ z => z, rfl, q⟩
end Lk

/-! ## D99 -/
set_option Elab.async false
set_option linter.all false
set_option maxRecDepth 100000
set_option maxHeartbeats 4000000
namespace Lk
open PySem PySem.Spec PyProof.Rows L2 Gx LamX NdefX
variable [Own]
abbrev s__law_word : Stmt := top 42
theorem sc__law_word : FnScope ["work", "found", "e"] ["work"] (defScope s__law_word) := ⟨rfl, rfl, rfl, by decide +kernel, rfl, by decide +kernel, by decide +kernel⟩
/-- what the written part says of TooMany, at C, in an except clause -/
structure WrdG (K : PySem.W.Frag) (mg : Str → Option Value) (CF C : Addr) : Prop where
  gF : mg "FolkError" = some (.ref CF)
  te : PySem.W.exmOne K (.ref C) (.ref CF) = some true
  ec : ExcC K C
  xc : XfC K C
  no : PySem.W.findIn K (.ref C) "most" = some none
  gC : mg "TooMany" = some (.ref C)
  ki : PySem.W.kitOne K (.ref C) (.ref C) = some true
abbrev wrdSuite : List Stmt := suiteOf (defBody s__law_word)
/-- what the word is of a TooMany of n -/
def WrdE (C : Addr) (Q : VK) : XK := fun cls d H' => cls = .ref C ∧ ∃ (dd : Addr) (n : Int), d = some dd ∧ H' dd = some (.xd [("most", .int n)]) ∧ ∀ H'' p, Ext H' H'' → H' p = none → H'' p = some (.tup [.str "many", .int n]) → Q (.ref p) H''
def TTword (C : Addr) : (XK → Hp → VK → Prop) → Hp → VK → Prop := fun tl H Q => ∀ Q' : VK, (∀ v H1, Q v H1 → Q' v H1) → tl (WrdE C Q) H Q'
section
variable {P : Program} {w : World} {K : PySem.W.Frag} {mg : Str → Option Value} {base : Heap} {Ps : List Addr} {CF C : Addr}
theorem wrd_suite {f a : Addr} {cdv cls : Value} {d : Option Addr} {A : Around} {outer : List Env} {s : Shared} {H : Hp} {oe : Obj} {pn : List (Addr × Obj)} (T : WrdG K mg CF C) (B : Blt mg) (hz : Zc cls d oe) (hf : ∃ vs, oe.data = .fields vs) :
    PSs ((cxOf CX0 P w K mg base ["work", "found", "e"] "_law_word" (defScope s__law_word) f cdv A outer s H E0).nox.suite a ((a, oe) :: pn)) wrdSuite
      (fun D σ H' => cls = .ref C ∧ (∃ τ : L2.St, σ = τ.set 2 (some (.ref a))) ∧ ∃ (dd : Addr) (n : Int), d = some dd ∧ H' dd = some (.xd [("most", .int n)]) ∧ ∀ (σ2 : L2.St) H'' p, Ext H' H'' → H' p = none → H'' p = some (.tup [.str "many", .int n]) → σ2[1]? = some (some (.ref p)) → D.nx σ2 H'') := by
  refine ⟨fun pins s' σ H' D I h => ?_⟩
  obtain ⟨rfl, ⟨τ, rfl⟩, dd, n, rfl, hdd, k⟩ := h
  have h2 : (τ.set 2 (some (.ref a))).length = 3 := I.len
  have h1 : (τ.set 2 (some (.ref a)))[2]? = some (some (.ref a)) := List.getElem?_set_self (by rw [List.length_set] at h2; omega)
  generalize τ.set 2 (some (.ref a)) = σ at I h1 h2
  obtain ⟨o0, o1, o2, rfl⟩ : ∃ o0 o1 o2, σ = [o0, o1, o2] := by
    match σ, h2 with
    | [o0, o1, o2], _ => exact ⟨o0, o1, o2, rfl⟩
  obtain rfl : o2 = some (.ref a) := Option.some.inj h1
  have key : ∃ t, PSs ((cxOf CX0 P w K mg base ["work", "found", "e"] "_law_word" (defScope s__law_word) f cdv A outer s H E0).nox.suite a ((a, oe) :: pn)) wrdSuite t ∧ t D [o0, o1, some (.ref a)] H' := by
    refine ⟨_, (pss_one (ps_set (i := 1) sc__law_word.nd rfl (by first | exact Or.inl rfl | exact Or.inr rfl)
      (pe_ifExp (pt_val (pe_callB (call_isED T.ec hz hf) (by rfl) B.isi boot_isinstance (pa_cons (pv 2) (pa_cons (pe_glob (v := .ref C) (by rfl) T.gC rfl) pa_nil))))
        (pe_tup (pa_cons pe_str (pa_cons (pe_xf T.xc T.no hz hf (pv 2)) pa_nil))) pe_str))), ?_⟩
    refine ⟨_, rfl, _, _, true, rfl, fun _ h => h, T.ki, ⟨dd, _, rfl, hdd⟩, _, rfl, ?_⟩
    refine iteT ?_
    refine ⟨_, rfl, rfl, rfl, dd, _, _, rfl, hdd, rfl, (by show 2 ≤ sizeLine; decide), fun p hp => ?_⟩
    exact k _ _ p (Ext.new hp _) hp upd_same rfl
  obtain ⟨t, ht, hq⟩ := key
  exact ht.run pins s' _ H' D I hq
end
theorem word_gives {X : Cx} {CF C g : Addr} {cdv : Value} {q : Str} (T : WrdG X.K X.mg CF C) (B : Blt X.mg) :
    GivesTo X ["work", "found", "e"] "_law_word" (defScope s__law_word) g cdv (defBody s__law_word) "work" q (TTword C) := by
  intro f c' s H Q tl act hc h
  refine ⟨_, pss_cons (ps_tryN (X := (cxOf C8.CX0 X.prog X.w X.K X.mg X.base ["work", "found", "e"] "_law_word" (defScope s__law_word) g cdv X.A X.stack s H C8.E0).nox) (c := .ref CF) (i := 2)
    (tb := fun W D σ H => ∃ Ech : XK, (∀ cls d σ' H', Ech cls d H' → W cls d σ' H') ∧ σ[0]? = some (some (.ref f)) ∧ H c' = some (CodeO c' q) ∧ tl Ech H (fun v H1 => D.nx (σ.set 1 (some v)) H1)) (Wout := fun _ _ _ _ => False)
    rfl rfl sc__law_word.nd rfl rfl ⟨rfl, by decide, .inl T.gF⟩ L2.takes0 (fun W pn xe tk _ => ?_) (fun a oe cls d pn hz hf => wrd_suite T B hz hf)) (pss_one (ps_ret (pv 1))), ?_⟩
  · refine ⟨fun pins s' σ H' D I h' => ?_⟩
    obtain ⟨Ech, hW, h1, h2, h3⟩ := h'
    have hp := fun p1 p2 => act W pn xe Ech p1 p2 tk hW
    exact (pss_one (ps_set (i := 1) sc__law_word.nd rfl (by first | exact Or.inl rfl | exact Or.inr rfl) (hp _ _))).run pins s' σ H' D I ⟨h1, h2, h3⟩
  · refine ⟨WrdE C Q, fun cls d σ' H' ⟨e1, dd, n, e2, e3, e4⟩ => ⟨true, by rw [e1]; exact T.te, fun _ a _ => ⟨e1, ⟨σ', rfl⟩, dd, n, e2, e3, fun σ2 H'' p e hp ht hs => ?_⟩, fun z => by cases z⟩, rfl, hc, h _ fun v H1 hv => ?_⟩
    · exact ⟨_, by rw [List.getElem?_set_ne (by decide)]; exact hs, e4 H'' p e hp ht⟩
    · exact ⟨_, rfl, hv⟩
end Lk


/-! ## Mn1 -/
set_option Elab.async false
set_option linter.all false
set_option maxRecDepth 100000
set_option maxHeartbeats 2000000
/-! TooMany, made and raised: its __init__ calls ValueError's by super, then tells the folk. -/
namespace Lk.Mn
open PySem PySem.Spec PyProof.Rows L2 Lk
variable [Own]
/-- a class's i-th method -/
def methAt (s : Stmt) (i : Nat) : Stmt := match s with
  | .ClassDef _ _ _ b _ _ _ _ _ _ _ => b.getD i (.Pass ⟨0, 0, 0, 0⟩)
  | _ => .Pass ⟨0, 0, 0, 0⟩
abbrev mI : Stmt := methAt (top 4) 0
/-- what the written part says of TooMany, at C, of its __init__, at fI, of the cell that holds the class, at cc -/
structure BadTxt (P : Program) (K : PySem.W.Frag) (mg : Str → Option Value) (C fI cc : Addr) : Prop where
  gC : mg "TooMany" = some (.ref C)
  noS : mg "super" = none
  cls : ∃ nm q N bs bm sn sub ab col dd k0 k1 k2 k3 k5, K.lookup C = some (excClassObj nm q C N bs bm true sn sub ab col dd k0 k1 k2 k3 k5 "ValueError.__new__") ∧ HandSPX.refsVE bm = true
  sa : PySem.W.findIn K (.ref C) "__setattr__" = some (some (.builtin "object.__setattr__"))
  noN : PySem.W.findIn K (.ref C) "most" = some none
  iC : PySem.W.findIn K (.ref C) "__init__" = some (some (.ref fI))
  tC : PySem.W.typeIn K (.ref fI) = some (.type "function")
  kC : PySem.W.keepIn K (.ref C) = true
  exC : PySem.W.subIn K (.ref C) (.type "BaseException") = some true
  veC : PySem.W.subIn K (.ref C) (.type "ValueError") = some true
  tyC : PySem.W.typeIn K (.ref C) = some (.type "type")
  inC : PySem.W.excInitIn K C [.type "ValueError", .type "Exception", .type "BaseException", .type "object"] "ValueError.__new__" = true
  mC : PySem.W.mroIn K C (.ref C) = some true
  sup : PySem.W.ks_superIn K C C "__init__" = some (some (.builtin "ValueError.__init__"))
  st : PySem.W.nsIn K cStatics "thirdparty.any" = some none
  cell : ∃ (c : Value) (d : Option Addr) (sl : Array (Option Value)), K.lookup cc = some ⟨c, d, .cell (some (.ref C)), sl⟩
  fn : ∃ (oc : Value) (od : Option Addr) (doc pm ct : Value) (an : Option Addr) (cda : Addr) (osl : Array (Option Value)),
    K.lookup fI = some ⟨oc, od, .func (PySem.W.ksFn "__init__" "TooMany.__init__" (defArgs mI) (defBody mI) (defScope mI) .none .none doc pm an (.ref cda) ct cc), osl⟩ ∧ PySem.W.codeIn K (.ref cda) "TooMany.__init__" = true ∧
    ∃ (ccl : Value) (cdd : Option Addr) (vs : Array Value) (ccs : Array (Option Value)) (file : Str) (tf : Tok), K.lookup cda = some ⟨ccl, cdd, .fields vs, ccs⟩ ∧ vs[2]? = some (.str file tf) ∧ (P.main.file == file) = true
  pS : (List.lookup (PySem.Str.ofString "super") P.main.scope.names).isSome = false
theorem wpAt_any {α : Type} {M : Model} {A : Around} {c : Code} {t : Sem α} {Q : α → Shared → Prop} {E : Value → Shared → Prop} {s : Shared} (h : wpAny M A t Q E s) : PySem.wpAt M A c t Q E s := fun Γ p _ hΓ => h Γ p hΓ
theorem boot_super : bootBuiltins "super" = some (.type "super") := by decide +kernel
/-- what __init__ leaves of a fresh exception at x -/
structure InitBad (h h' : Heap) (x C dx : Addr) (v : Value) : Prop where
  keep : ∀ b o, b ≠ x → h.get? b = some o → h'.get? b = some o
  obj : ∃ t1, h'.get? x = some { cls := .ref C, dict := some dx, data := .fields #[.ref t1, .none, .none, .none, .bool false, .none] }
  dbig : h.objs.size ≤ dx
  dne : dx ≠ x
  ns : h'.Ns1 dx (fun y => if y = "most" then some v else none)
section
variable {prog : Program} {w : World} {A : Around} {E : Value → Shared → Prop} {R : Result → Shared → Prop} {s : Shared} {K : PySem.W.Frag} {mg : Str → Option Value} {C fI cc : Addr}
theorem ns_kept {h h' : Heap} {a : Addr} {m : Str → Option Value} (k : ∀ b o, h.get? b = some o → h'.get? b = some o) (n : h.Ns a m) : h'.Ns a m := by
  obtain ⟨o, es, ep, h1, r⟩ := n
  exact ⟨o, es, ep, k _ _ h1, r⟩
theorem bad_init (T : BadTxt prog K mg C fI cc) {hp : Heap} (Xp : K.In hp) (kp : ∀ b o, hp.get? b = some o → s.heap.get? b = some o) (hsz : hp.objs.size ≤ s.heap.objs.size) (hg : hp.Ns mainGlobals mg) (hb : ∃ mb, hp.Ns builtinsNs mb ∧ ∀ x : Str, x ≠ "__name__" → mb x = bootBuiltins x) (hlim : s.heap.NoLimit)
    {x t0 : Addr} {n : Int} {tok : Tok} (hx : s.heap.get? x = some (HandSPX.excO C t0)) (hx0 : hp.get? x = none) (hroom : A.depth < recursionLimit) (hn : n.natAbs.log2 < 1920) (hlen : (PySem.Str.ofString "more than " ++ PySem.Str.ofString (toString n)).length ≤ sizeLine)
    (hq : ∀ h' tk dx, InitBad hp h' x C dx (.int n tok) → R (.ok (.ret .none)) { s with heap := h', toks := tk }) :
    codeAny (model prog w) A (.call (.ref fI) ⟨[.ref x, .int n tok], []⟩) R s := by
  obtain ⟨oc, od, doc, pm, ct, an, cda, osl, hf, hcd, ccl, cdd, vs, ccs, file, tf, hcda, hfile, hmain⟩ := T.fn
  obtain ⟨nm, q, N, bs, bm, sn, sub, ab, col, dd, k0, k1, k2, k3, k5, hC, hbm⟩ := T.cls
  obtain ⟨c0, cd0, csl, hcc⟩ := T.cell
  have hcl : PySem.W.clsIn K C = some { name := nm, bases := bs, mro := .ref C :: bm, ns := N, qualname := q, hasDict := true, slotNames := sn, subclasses := sub, abstract := ab, collection := col, hasDel := false } := by unfold PySem.W.clsIn; rw [hC] <;> rfl
  have Xs : K.In s.heap := fun a o e => kp _ _ (Xp a o e)
  refine ks_codeAny_call_defAt (binds := [("self", .ref x), ("most", .int n tok)]) hroom (Xs _ _ hf) rfl hlim (PySem.W.codeRec_of Xs hcd) rfl (BindsTo.of_eq (by first | rfl | with_unfolding_all rfl)) (by
    show ∀ y ∈ (defScope mI).names, y.2 ≠ NameKind.cell
    decide +kernel) (by
    intro y hy
    simp only [List.mem_cons, List.mem_nil_iff, or_false] at hy
    rcases hy with rfl | rfl
    · show List.lookup (PySem.Str.ofString "self") (defScope mI).names = some NameKind.local
      decide +kernel
    · show List.lookup (PySem.Str.ofString "most") (defScope mI).names = some NameKind.local
      decide +kernel) (fun h₁ hns k => ?_) (by rfl) (by rfl) (by rfl)
  have hxL : x ≠ s.heap.objs.size := Nat.ne_of_lt (Heap.lt_size hx)
  have F1 : Fr hp s.heap.objs.size h₁ (fun y => List.lookup y [(("self" : Str), Value.ref x), ("most", .int n tok)].reverse) := ⟨hns, fun b o e => k _ _ (kp _ _ e), hsz⟩
  have N1 : News hp s.heap.objs.size h₁ [(x, PySem.W.excObj C t0 none .none)] := fun p hp' => by
    rw [List.mem_singleton.mp hp']
    exact ⟨k _ _ hx, hxL, hx0⟩
  have X1 : K.In h₁ := fun a o e => k _ _ (Xs a o e)
  refine ks_wpAt_execs_cons (ks_wpAt_Expr_any (ks_wpAt_MethodCall (pl := pure false) ?_ (by rfl)) (by rfl) (by rfl))
  refine ks_wpAt_super_base (by rfl) (by rfl) (by decide) (by rfl) (X1 _ _ hf) rfl (by rfl) (by rfl) (X1 _ _ hcda) rfl hfile hmain T.pS ?_
  obtain ⟨mb, hbn, hbb⟩ := hb
  have k1 : ∀ b o, hp.get? b = some o → h₁.get? b = some o := fun b o e => k _ _ (kp _ _ e)
  refine PySem.W.ks_loadName_global (by rfl) (by rfl) (PySem.Calls.loadGlobal_builtin (ns_kept k1 hg) T.noS (ns_kept k1 hbn) ((hbb _ (by decide)).trans boot_super) ⟨rfl, ?_⟩)
  refine wpAny_loadName_free (by rfl) (by rfl) (by rfl) ⟨_, X1 _ _ hcc, rfl⟩ (wpAny_loadName_local (by rfl) (by rfl) hns (by rfl) ?_) (by decide)
  refine ks_wpAny_isType_cls (X1 _ _ hC) rfl ⟨rfl, ?_⟩
  refine ks_wpAny_call_super (X1 _ _ hC) rfl (k _ _ hx) rfl (fun c e => by cases e) (PySem.W.looks_mroIn X1 T.mC) fun h₂ hso k2 => ?_
  have F2 : Fr hp s.heap.objs.size h₂ (fun y => List.lookup y [(("self" : Str), Value.ref x), ("most", .int n tok)].reverse) := ⟨ns_kept k2 F1.ns, fun b o e => k2 _ _ (k1 _ _ e), hsz⟩
  have hL1 : s.heap.objs.size < h₁.objs.size := hns.lt
  have N2 : News hp s.heap.objs.size h₂ [(h₁.objs.size, PySem.W.ks_superObj C x C), (x, PySem.W.excObj C t0 none .none)] := fun p hp' => by
    rcases List.mem_cons.mp hp' with e | hp'
    · rw [e]
      refine ⟨hso, Nat.ne_of_gt hL1, ?_⟩
      cases q : hp.get? h₁.objs.size with
      | none => rfl
      | some o => exact absurd (Heap.lt_size (k1 _ _ q)) (Nat.lt_irrefl _)
    · rw [List.mem_singleton.mp hp']
      exact ⟨k2 _ _ (k _ _ hx), hxL, hx0⟩
  have I2 : PySem.W.InstAt h₂ x (PySem.W.excObj C t0 none .none) C none := PySem.W.InstAt.of_exc0 N2 (List.mem_cons_of_mem _ (List.mem_cons_self ..))
  refine PySem.W.kxs_method (K := K) PySem.W.kxs_ValueError F2 Xp N2 (List.mem_cons_self ..) I2 T.st T.sup T.veC (by decide) fun u h₃ F3 N3 hlt => ?_
  refine PySem.W.kxs_callWith1 N3 (List.mem_cons_self ..) (PyProof.Rows.spliced_more ?_ (by rfl)) (by rfl) (by rfl)
  have m3 : (x, PySem.W.excObj C t0 none .none) ∈ [(u, PySem.W.kxs_mw "ValueError.__init__" x), (h₁.objs.size, PySem.W.ks_superObj C x C), (x, PySem.W.excObj C t0 none .none)] := by simp
  have hxu : x ≠ u := Nat.ne_of_lt (hlt (x, _) (List.mem_cons_of_mem _ (List.mem_cons_self ..)))
  have hx1 : x ≠ h₁.objs.size := Nat.ne_of_lt (Heap.lt_size (k _ _ hx))
  refine PyProof.Rows.JoinedStr_many (PyProof.Rows.joinParts_cons (PySem.Calls.Constant_str ⟨by decide +kernel, PyProof.Rows.joinParts_cons (PyProof.Rows.FormattedValue_plain (PySem.ESX.ldL F3.ns (v := .int n tok) (by rfl) (PySem.wpAny_formatField_int hn ⟨hlen, PyProof.Rows.joinParts_nilE (PyProof.Rows.joinParts_nil ?_ hlen)⟩) (by rfl) (by rfl) (by decide)))⟩))
  refine PyProof.Rows.spliced_none ⟨PySem.W.kxs_at N3 (List.mem_cons_self ..), ?_⟩
  refine PySem.W.kxs_call F3 Xp N3 PySem.F.excBase_ValueError T.inC (List.mem_cons_self ..) (PySem.W.UpdF.tail (fun e => hxu e.symm) (PySem.W.UpdF.tail (fun e => hx1 e.symm) (PySem.W.UpdF.head fun p hp => by cases hp))) (by rw [sizeLine_eq]; exact (by decide : 1 ≤ 16777216)) fun t' h₄ F4 N4 hlt4 => ?_
  obtain ⟨hx4, _, _⟩ := N4 (x, PySem.W.excObj C t' none .none) (by simp)
  have X4 : K.In h₄ := fun a o e => F4.keep _ _ (Xp a o e)
  refine ks_wpAt_execs_cons (wpAt_any (plainObj_wpAny_Assign_Attribute ?_ (by rfl)))
  refine PySem.ESX.ldL F4.ns (v := .int n tok) (by rfl) (PySem.ESX.ldL F4.ns (v := .ref x) (by rfl) ?_ (by rfl) (by rfl) (by decide)) (by rfl) (by rfl) (by decide)
  refine PySem.W.set_plain X4 (ox := PySem.W.excObj C t' none .none) (od := none) ⟨hx4, rfl, rfl, trivial⟩ T.sa ?_
  refine HandSPX.exc_osa X4 hx4 hcl (show HandSPX.refsVE (.ref C :: bm) = true from hbm) rfl T.noN fun h₅ tk₅ dx k5 dn dne hx5 hn5 => ?_
  refine wpAt_any (wpAny_execs_nil ?_)
  have z : hp.objs.size ≤ h₄.objs.size := by
    have := F4.above
    exact Nat.le_trans this (Nat.le_of_lt F4.ns.lt)
  refine hq h₅ tk₅ dx ⟨fun b o hb e => k5 b o hb (F4.keep _ _ e), ⟨t', hx5⟩, Nat.le_trans z dn, dne, hn5⟩
end
end Lk.Mn


/-! ## Mn2 -/
set_option Elab.async false
set_option linter.all false
set_option maxRecDepth 100000
set_option maxHeartbeats 2000000
namespace Lk.Mn
open PySem PySem.Spec PyProof.Rows L2 Lk
variable [Own]
/-- a made TooMany -/
structure BadMade (h h' : Heap) (e C d : Addr) (v : Value) : Prop where
  keep : ∀ b o, h.get? b = some o → h'.get? b = some o
  new : h.objs.size ≤ e
  obj : ∃ oe vs, h'.get? e = some oe ∧ oe.cls = .ref C ∧ oe.dict = some d ∧ oe.data = .fields vs ∧ vs[1]? = some .none
  dbig : h.objs.size ≤ d
  dne : d ≠ e
  ns : h'.Ns1 d (fun y => if y = "most" then some v else none)
theorem text_len {n : Int} (h : n = 3000 ∨ n = 20000) : n.natAbs.log2 < 1920 ∧ (PySem.Str.ofString "more than " ++ PySem.Str.ofString (toString n)).length ≤ sizeLine := by
  rcases h with e | e <;> (subst e; exact ⟨by decide +kernel, by decide +kernel⟩)
section
variable {prog : Program} {w : World} {A : Around} {R : Result → Shared → Prop} {s : Shared} {K : PySem.W.Frag} {mg : Str → Option Value} {C fI cc : Addr}
theorem bad_made (T : BadTxt prog K mg C fI cc) {n : Int} {tok : Tok} (hn : n = 3000 ∨ n = 20000) (X : K.In s.heap) (hg : s.heap.Ns mainGlobals mg) (hb : ∃ mb, s.heap.Ns builtinsNs mb ∧ ∀ x : Str, x ≠ "__name__" → mb x = bootBuiltins x) (hlim : s.heap.NoLimit) (hroom : A.depth + 1 < recursionLimit)
    (hq : ∀ h' tk e d, BadMade s.heap h' e C d (.int n tok) → R (.ok (.ret (.ref e))) { s with heap := h', toks := tk }) :
    codeAny (model prog w) A (.call (.ref C) ⟨[.int n tok], []⟩) R s := by
  obtain ⟨nm, q, N, bs, bm, sn, sub, ab, col, dd, k0, k1, k2, k3, k5, hC, hbm⟩ := T.cls
  obtain ⟨hp, g, dr, tk, os⟩ := s
  have k : ∀ b o, hp.get? b = some o → ((hp.push (PySem.W.kdv_tup [.int n tok])).push (HandSPX.excO C hp.objs.size)).get? b = some o := fun b o e => Heap.get?_push_of_some _ (Heap.get?_push_of_some _ e)
  have hget : ((hp.push (PySem.W.kdv_tup [.int n tok])).push (HandSPX.excO C hp.objs.size)).get? (hp.objs.size + 1) = some (HandSPX.excO C hp.objs.size) := by heap_get
  have hx0 : hp.get? (hp.objs.size + 1) = none := by
    cases e : hp.get? (hp.objs.size + 1) with
    | none => rfl
    | some o => exact absurd (Nat.lt_of_succ_lt (Heap.lt_size e)) (Nat.lt_irrefl _)
  have one : ([.int n tok] : List Value).length ≤ sizeLine := by
    rw [sizeLine_eq]
    exact (by decide : 1 ≤ 16777216)
  obtain ⟨t1, t2⟩ := text_len hn
  refine HandSPX.call_own PySem.F.excBase_ValueError (fun X => HandSPX.refsVE_contains X bm hbm) (X _ _ hC) (PySem.W.looks_findIn X T.iC) (fun self => PySem.W.bind_fn X self T.tC) one ?_
  refine bad_init (s := ⟨(hp.push (PySem.W.kdv_tup [.int n tok])).push (HandSPX.excO C hp.objs.size), g, dr, tk, os⟩) T (hp := hp) X k (by
    show hp.objs.size ≤ ((hp.push _).push _).objs.size
    rw [Heap.size_push, Heap.size_push]
    exact Nat.le_trans (Nat.le_succ _) (Nat.le_succ _)) hg hb (hlim.keeps k) hget hx0 ?_ t1 t2 fun h' tk' dx M => ?_
  · show A.depth + 1 < recursionLimit
    exact hroom
  · have old : ∀ b o, hp.get? b = some o → h'.get? b = some o := fun b o e => M.keep b o (Nat.ne_of_lt (Nat.lt_succ_of_lt (Heap.lt_size e))) e
    obtain ⟨t1, hx⟩ := M.obj
    exact ⟨rfl, hq h' tk' (hp.objs.size + 1) dx ⟨old, Nat.le_succ _, ⟨_, _, hx, rfl, rfl, rfl, rfl⟩, M.dbig, M.dne, M.ns⟩⟩
end
theorem relO_folk {v : V} {v' : Value} (r : L2.RelV v v') (f : Str) : RelO (List.lookup f [(("most" : Str), v)]) (if f = "most" then some v' else none) := by
  by_cases hw : f = "most"
  · subst hw
    rw [if_pos rfl]
    have q : List.lookup ("most" : Str) [(("most" : Str), v)] = some v := by simp [List.lookup]
    rw [q]
    exact r
  · rw [if_neg hw]
    have qw : (f == ("most" : Str)) = false := by simpa using hw
    have q2 : List.lookup f [(("most" : Str), v)] = none := by simp [List.lookup, qw]
    rw [q2]
    trivial
section
variable {X : Cx} {C fI cc : Addr}
/-- TooMany(n), n a small number -/
def tMkBad (C : Addr) (ta : TA) : L2.St → Hp → XK → Prop := fun σ H Q => ta σ H fun vs H1 => ∃ n : Int, vs = [.int n] ∧ (n = 3000 ∨ n = 20000) ∧ ∀ d, H1 d = none → Q (.ref C) (some d) (upd H1 d (.xd [(("most" : Str), .int n)]))
theorem pmk_bad {a : Expr} {ta : TA} {p pos : Pos} {k : Nat} (T : BadTxt X.prog X.K X.mg C fI cc) (hr : Room k X.A) (ha : PA X [a] ta) (hg : Gl X "TooMany" := by rfl)
    (he : starEach (a :: []) X.env = (false, eval a X.env) :: starEach [] X.env := by rfl) (hpl : (backTo pos (starEach [] X.env)).any (·.1) = false := by rfl) :
    PMk X (.Call (.Name "TooMany" p) [a] [] pos) (tMkBad C ta) := by
  intro pins s σ H Q I h
  refine wpAny_Call_Name_kw (ld_glob I hg T.gC ?_)
  refine PySem.W.callWith_K (h₀ := X.base) I.ok.mod.kin T.kC (thn (ha.run pos pins s σ H _ I h) fun us s1 hh => ?_) he hpl
  obtain ⟨vs, H1, I1, r1, n, ev, hn, q1⟩ := hh
  subst ev
  refine ⟨I1.kIn, ?_⟩
  cases r1 with
  | cons rv rn =>
    rename_i v' us'
    cases rn
    obtain ⟨tok, rfl⟩ := rv
    show wpAny _ _ (call (.ref C) [.int n tok]) _ _ _
    have hlim := I1.nolimit
    have k0 : ∀ b o, X.base.get? b = some o → s1.heap.get? b = some o := I1.bk
    have hgl : s1.heap.Ns mainGlobals X.mg := ns_kept k0 I1.ok.mod.glob
    have hbl : ∃ mb, s1.heap.Ns builtinsNs mb ∧ ∀ x : Str, x ≠ "__name__" → mb x = bootBuiltins x := by
      obtain ⟨mb, h1, h2⟩ := I1.ok.mod.blt
      exact ⟨mb, ns_kept k0 h1, h2⟩
    obtain ⟨hp, g, dr, tk, os⟩ := s1
    refine wpAny_call (bad_made T hn I1.kIn hgl hbl hlim (by have := hr.dp; omega) fun h' tk' e d M => ?_)
    show MkP X pins σ Q (.ref e) ⟨h', g, dr, tk', os⟩
    obtain ⟨oe, fv, hoe, hc, hd, hdat, h1⟩ := M.obj
    have hns := M.ns
    obtain ⟨G', g1, g2⟩ := restrict h' fun b => decide (b ≠ e)
    have gk : ∀ b, b ≠ e → G'.get? b = h'.get? b := fun b hb => g1 b (decide_eq_true hb)
    have ge : G'.get? e = none := g2 e (by simp)
    have old : ∀ b o, hp.get? b = some o → G'.get? b = some o := fun b o q => (gk b (Nat.ne_of_lt (Nat.lt_of_lt_of_le (Heap.lt_size q) M.new))).trans (M.keep b o q)
    have ob : ObjOk X.prog X.w (upd H1 d (.xd [(("most" : Str), .int n)])) G' d (.xd [(("most" : Str), .int n)]) :=
      ⟨_, hns.at (fun o q => (gk d M.dne).trans q), fun f => relO_folk (v := .int n) ⟨tok, rfl⟩ f⟩
    have J : L2.Inv X pins σ (upd H1 d (.xd [(("most" : Str), .int n)])) ⟨G', g, dr, tk', os⟩ := I1.laid (t' := tk') old M.dbig ob
    refine ⟨e, oe, fv, ⟨G', g, dr, tk', os⟩, _, .ref C, some d, rfl, J, fun b o q => ?_, ge, hoe, ⟨hc, hd⟩, hdat, h1, ?_, rfl, I1.bare, raises_own T.exC T.tyC, q1 d (I1.hok.fresh M.dbig)⟩
    · by_cases hb : b = e
      · have q' : G'.get? b = some o := q
        rw [hb, ge] at q'; cases q'
      · exact (gk b hb).symm.trans q
    · rw [upd_ne (Ne.symm M.dne)]
      exact I1.hok.fresh M.new
/-- raise TooMany(n) -/
def tRaiseBad (C : Addr) (W : WX) (ta : TA) : TS := fun _ σ H => tMkBad C ta σ H fun cls d H' => W cls d σ H'
theorem ps_raiseBad {a : Expr} {ta : TA} {W : WX} {p pos pos2 : Pos} {k : Nat} (hc : X.calm = true) (T : BadTxt X.prog X.K X.mg C fI cc) (hr : Room k X.A) (tk : Takes X W) (ha : PA X [a] ta) (hg : Gl X "TooMany" := by rfl)
    (he : starEach (a :: []) X.env = (false, eval a X.env) :: starEach [] X.env := by rfl) (hpl : (backTo pos (starEach [] X.env)).any (·.1) = false := by rfl) :
    PS X (.Raise (some (.Call (.Name "TooMany" p) [a] [] pos)) none pos2) (tRaiseBad C W ta) := ps_raise hc tk (pmk_bad T hr ha hg he hpl)
end
end Lk.Mn


/-! ## EndM -/
set_option Elab.async false
set_option linter.all false
set_option maxRecDepth 100000
set_option maxHeartbeats 4000000
/-! TooMany, as the heap behind the program's lines tells it. -/
namespace Lk
open PySem PySem.Spec PyProof.Rows L2 Gx
theorem manyG_mk {P : Program} {K : PySem.W.Frag} {h : Heap} {mg : Str → Option Value} {CF C fI cc : Addr} (X : K.In h) (G : h.Ns mainGlobals mg) {nm q : Str} {N : Addr} {bs bm : List Value} {sn : List Str} {sub : List Value} {ab : Bool} {col : Option Bool} {dd : Option Addr} {k0 k1 k2 k3 k5 : Option Value}
    {c1 : Value} {d1 : Option Addr} {sl1 : Array (Option Value)} {oc doc pm ct : Value} {od an : Option Addr} {cda : Addr} {osl : Array (Option Value)} {ccl : Value} {cdd : Option Addr} {vs : Array Value} {ccs : Array (Option Value)} {file : Str} {tf : Tok}
    (gC : PySem.W.nsIn K mainGlobals "TooMany" = some (some (.ref C))) (noS : PySem.W.nsIn K mainGlobals "super" = some none)
    (cls : K.lookup C = some (excClassObj nm q C N bs bm true sn sub ab col dd k0 k1 k2 k3 k5 "ValueError.__new__")) (rv : HandSPX.refsVE bm = true)
    (sa : PySem.W.findIn K (.ref C) "__setattr__" = some (some (.builtin "object.__setattr__")))
    (noN : PySem.W.findIn K (.ref C) "most" = some none)
    (iC : PySem.W.findIn K (.ref C) "__init__" = some (some (.ref fI)))
    (tC : PySem.W.typeIn K (.ref fI) = some (.type "function"))
    (kC : PySem.W.keepIn K (.ref C) = true)
    (exC : PySem.W.subIn K (.ref C) (.type "BaseException") = some true)
    (veC : PySem.W.subIn K (.ref C) (.type "ValueError") = some true)
    (tyC : PySem.W.typeIn K (.ref C) = some (.type "type"))
    (inC : PySem.W.excInitIn K C [.type "ValueError", .type "Exception", .type "BaseException", .type "object"] "ValueError.__new__" = true)
    (mC : PySem.W.mroIn K C (.ref C) = some true)
    (lI : K.lookup fI = some ⟨oc, od, .func (PySem.W.ksFn "__init__" "TooMany.__init__" (defArgs Mn.mI) (defBody Mn.mI) (defScope Mn.mI) .none .none doc pm an (.ref cda) ct cc), osl⟩) (cI : PySem.W.codeIn K (.ref cda) "TooMany.__init__" = true)
    (cell : K.lookup cc = some ⟨c1, d1, .cell (some (.ref C)), sl1⟩)
    (sup : PySem.W.ks_superIn K C C "__init__" = some (some (.builtin "ValueError.__init__")))
    (st : PySem.W.nsIn K cStatics "thirdparty.any" = some none)
    (lc : K.lookup cda = some ⟨ccl, cdd, .fields vs, ccs⟩) (l2 : vs[2]? = some (.str file tf)) (lf : (P.main.file == file) = true)
    (pS : (List.lookup (PySem.Str.ofString "super") P.main.scope.names).isSome = false)
    (ga : PySem.W.findIn K (.ref C) "__getattribute__" = some (some (.builtin "BaseException.__getattribute__"))) (gg : PySem.W.findIn K (.ref C) "__getattr__" = some none) (hdC : PySem.W.hasDictIn K C = true)
    (ha : PySem.W.findIn K (.ref C) "__class__" = some (some (.builtin "object.__class__")))
    (hn : PySem.W.specialIn K (.builtin "object.__class__") "__get__" = some (some (.builtin "getset_descriptor.__get__")))
    (ht : PySem.W.takesIn K (.builtin "object.__class__") = some true)
    (hm : PySem.W.mroIn K C (.type "object") = some true)
    (f1 : PySem.W.nsIn K mainGlobals "FolkError" = some (some (.ref CF))) (f2 : PySem.W.subIn K (.ref CF) (.type "BaseException") = some true) (f3 : PySem.W.hasDictIn K CF = true) (f4 : PySem.W.typeIn K (.ref CF) = some (.type "type")) (f5 : PySem.W.subIn K (.ref C) (.ref CF) = some true)
    (ki : PySem.W.kitOne K (.ref C) (.ref C) = some true) : ∃ CF C fI cc, Mn.BadTxt P K mg C fI cc ∧ WrdG K mg CF C :=
  ⟨CF, C, fI, cc, ⟨PySem.W.mg_of X G gC, PySem.W.mg_none_of X G noS, ⟨_, _, _, _, _, _, _, _, _, _, _, _, _, _, _, cls, rv⟩, sa, noN, iC, tC, kC, exC, veC, tyC, inC, mC, sup, st, ⟨_, _, _, cell⟩, ⟨_, _, _, _, _, _, _, _, lI, cI, _, _, _, _, _, _, lc, l2, lf⟩, pS⟩,
    ⟨PySem.W.mg_of X G f1, PySem.W.exm_ref f2 f3 f4 f5, ⟨ga, gg, exC, hdC, ha, hn, ht, hm⟩, ⟨ga, gg, exC, hdC⟩, noN, PySem.W.mg_of X G gC, ki⟩⟩
end Lk

/-! ## D23 -/
set_option Elab.async false
set_option linter.all false
set_option maxRecDepth 100000
set_option maxHeartbeats 2000000
namespace Lk
open PySem PySem.Spec PyProof.Rows L2 Gx
open GxR (TabG Tabbed TabB)
variable [Own]
def spLawPick (K : PySem.W.Frag) : Sp := fun vs H Q _ => ∃ (r sc a : Addr) (ns : List Int) (xs : List V), vs = [.ref r, .ref a] ∧ Rw K H r sc ns ∧ H a = some (.lst xs) ∧ a ≠ r ∧ (0 < xs.length ∧ xs.length < 1000000) ∧
  ∀ H' v (j : Nat), ExtB r H H' → Rw K H' r sc ns → (∀ a, a ≠ r → H' a = H a) → xs[j]? = some v → Q v H'
section
variable {P : Program} {w : World} {K : PySem.W.Frag} {mg : Str → Option Value} {base : Heap} {Ps : List Addr}
end
end Lk


/-! ## D22 -/
set_option Elab.async false
set_option linter.all false
set_option maxRecDepth 100000
set_option maxHeartbeats 2000000
namespace Lk
open PySem PySem.Spec PyProof.Rows L2 Gx
open GxR (TabG Tabbed TabB)
variable [Own]
abbrev s__law_seen : Stmt := top 37
theorem sc__law_seen : FnScope ["web", "folk", "one", "other", "sign"] ["web", "folk"] (defScope s__law_seen) := ⟨rfl, rfl, rfl, by decide +kernel, rfl, by decide +kernel, by decide +kernel⟩
abbrev spLawSeen : Sp := spLooksOf
section
variable {P : Program} {w : World} {K : PySem.W.Frag} {mg : Str → Option Value} {base : Heap} {Ps : List Addr}
theorem ok_law_seen {f : Addr} {fd : FuncData} (F : Fun K "_law_seen" "_law_seen" s__law_seen f fd) : FnOk P w K mg base CX0 1 f fd ["web", "folk"] spLawSeen := by
  refine F.ok sc__law_seen (fun vs H Q E h => ?_) (fun cdv A outer s H vs Q E hr h => ?_)
  · obtain ⟨v, W, n, rfl, _⟩ := h
    rfl
  · obtain ⟨v, W, n, rfl, ⟨a, t, l, rfl, ha, ht, ⟨b, ls, rfl, hb, hls⟩⟩, h14, k⟩ := h
    refine ⟨_, (pss_one (ps_ret (pe_lc (own := [("one", 2), ("other", 3), ("sign", 4)]) rfl sc__law_seen.nd (pi_tup (pe_ix ix_tT (pv 0) pe_int (fun _ _ => rfl))) (blkOk_by (N := ["web", "folk", "one", "other", "sign"]) (sc := defScope s__law_seen) (by decide +kernel)) (fun _ _ _ _ _ => (pg_tupT (n := 3) rfl (pgs_cons (pg_name (i := 2) sc__law_seen.nd rfl (by first | exact Or.inl rfl | exact Or.inr rfl)) (pgs_cons (pg_name (i := 3) sc__law_seen.nd rfl (by first | exact Or.inl rfl | exact Or.inr rfl)) (pgs_cons (pg_name (i := 4) sc__law_seen.nd rfl (by first | exact Or.inl rfl | exact Or.inr rfl)) pgs_nil))))) (fun _ _ _ _ _ => (pts_one (pt_cmpR op_eq (pv 3) (pv 1) (nomark _)))) (fun _ _ _ _ _ => (pe_tup (pa_cons (pv 2) (pa_cons (pv 4) pa_nil))))))), ?_⟩
    refine ⟨_, rfl, a, _, _, _, rfl, rfl, ha, rfl, b, rfl, ⟨_, SqT.of hb⟩, fun D hD => ?_⟩
    have llen : ls.length = W.looks.length := by rw [paired_len hls, List.length_map]
    refine lc_tup (xs := ls) (fun i H' => ∃ acc, H' D = some (.lst acc) ∧ Ext H H' ∧ acc.length ≤ i ∧ Paired (TI H') acc ((((W.looks.take i).filter fun l => l.2.1 == n).map fun l => (l.1, l.2.2)).map row2)) ⟨[], upd_same, Ext.new hD _, Nat.le_refl _, .nil⟩ (fun i H' _ ⟨_, _, e, _⟩ => SqT.of (e.tup hb)) (fun i x H' hi ⟨acc, hacc, e, hl, hp⟩ => ?_) fun H' ⟨acc, hacc, e, hl, hp⟩ => ?_
    · obtain ⟨row, hrow, hx⟩ := paired_get' (pTI.ext e hls) hi
      obtain ⟨lk, hlk, rfl⟩ : ∃ lk, W.looks[i]? = some lk ∧ row = row3 lk := by
        rw [List.getElem?_map] at hrow
        cases q : W.looks[i]? with
        | none => rw [q] at hrow; cases hrow
        | some lk => rw [q] at hrow; exact ⟨lk, rfl, (Option.some.inj hrow).symm⟩
      obtain ⟨p, rfl, hp1⟩ := hx
      have hi14 : i < 14 := by
        have := (List.getElem?_eq_some_iff.mp hlk).1
        omega
      refine ⟨p, _, rfl, hp1, rfl, _, _, rfl, _, _, rfl, _, _, rfl, rfl, rfl, ?_⟩
      refine ⟨_, rfl, _, rfl, rfl, _, rfl, ?_⟩
      rw [take_snoc hlk, List.filter_append]
      by_cases hf : lk.2.1 = n
      · have e1 : decide (V.int lk.2.1 = V.int n) = true := decide_eq_true (by rw [hf])
        have e2 : (lk.2.1 == n) = true := by rw [hf]; exact beq_self_eq_true n
        rw [e1]
        refine iteT ⟨_, rfl, _, rfl, (by show 2 ≤ sizeLine; decide), fun q hq => ?_⟩
        have dq : D ≠ q := ne_of_none hacc hq
        refine ⟨acc, by rw [upd_ne dq]; exact hacc, small1000 (by omega), acc ++ [.ref q], upd_same, (e.trans (Ext.new hq _)).put hD _, by rw [List.length_append]; simp; omega, ?_⟩
        have F1 : [lk].filter (fun l => l.2.1 == n) = [lk] := by rw [List.filter_cons, if_pos e2]; rfl
        rw [F1, List.map_append, List.map_append]
        refine paired_snoc ⟨q, rfl, by rw [upd_ne dq.symm]; exact upd_same⟩ ?_
        refine paired_mono (fun x r h => ?_) hp
        obtain ⟨z, rfl, hz⟩ := h
        exact ⟨z, rfl, by rw [upd_ne (ne_of hacc hz (by intro q; cases q)).symm, upd_ne (ne_of_none hz hq)]; exact hz⟩
      · have e1 : decide (V.int lk.2.1 = V.int n) = false := decide_eq_false (fun z => hf (by cases z; rfl))
        have e2 : (lk.2.1 == n) = false := by simpa using hf
        rw [e1]
        have F1 : [lk].filter (fun l => l.2.1 == n) = [] := by rw [List.filter_cons, e2]; rfl
        rw [F1, List.append_nil]
        exact iteF ⟨acc, hacc, e, by omega, hp⟩
    · rw [llen, List.take_length] at hp
      exact k H' D acc e hD hacc hp
end
end Lk


/-! ## D21 -/
set_option Elab.async false
set_option linter.all false
set_option maxRecDepth 100000
set_option maxHeartbeats 2000000
namespace Lk
open PySem PySem.Spec PyProof.Rows L2 Gx
open GxR (TabG Tabbed TabB)
variable [Own]
abbrev s__law_moods : Stmt := top 38
theorem sc__law_moods : FnScope ["tops", "found", "top", "longer", "row", "mood"] ["tops"] (defScope s__law_moods) := ⟨rfl, rfl, rfl, by decide +kernel, rfl, by decide +kernel, by decide +kernel⟩
def spLawMoods : Sp := fun vs H Q _ => ∃ (a : Addr) (k : Bool) (tops : List Int), vs = [.ref a] ∧ SqB k H a (iv tops) ∧ tops.length ≤ 6 ∧ (∀ t ∈ tops, 0 ≤ t ∧ t ≤ 3) ∧ ∀ H' p, Ext H H' → H p = none → LT2 H' (.ref p) (rowsOf tops) → Q (.ref p) H'
section
variable {P : Program} {w : World} {K : PySem.W.Frag} {mg : Str → Option Value} {base : Heap} {Ps : List Addr}
theorem ok_law_moods {f : Addr} {fd : FuncData} (F : Fun K "_law_moods" "_law_moods" s__law_moods f fd) (B : Blt mg) : FnOk P w K mg base CX0 1 f fd ["tops"] spLawMoods := by
  refine F.ok sc__law_moods (fun vs H Q E h => ?_) (fun cdv A outer s H vs Q E hr h => ?_)
  · obtain ⟨v, k, W, rfl, _⟩ := h
    rfl
  · obtain ⟨a, kk, tops, rfl, ha, h6, hT, k⟩ := h
    refine ⟨_, (pss_cons (ps_set (i := 1) sc__law_moods.nd rfl (by first | exact Or.inl rfl | exact Or.inr rfl) (pe_lst (pa_cons (pe_tup pa_nil) pa_nil)))
      (pss_cons (ps_for PassesOwn.never rfl (pi_seqV (pv 0)) (pg_name (i := 2) sc__law_moods.nd rfl (by first | exact Or.inl rfl | exact Or.inr rfl))
        (pss_cons (ps_set (i := 3) sc__law_moods.nd rfl (by first | exact Or.inl rfl | exact Or.inr rfl) (pe_lst pa_nil))
        (pss_cons (ps_for PassesOwn.never rfl (pi_list (pv 1)) (pg_name (i := 4) sc__law_moods.nd rfl (by first | exact Or.inl rfl | exact Or.inr rfl))
          (pss_one (ps_set (i := 3) sc__law_moods.nd rfl (by first | exact Or.inl rfl | exact Or.inr rfl) (pe_op op_cat (pv 3) (pe_lc (own := [("mood", 5)]) rfl sc__law_moods.nd (pi_range1 (by rfl) B.range (pa_cons (pe_op op_add (pv 2) pe_int) pa_nil)) (blkOk_by (N := ["tops", "found", "top", "longer", "row", "mood"]) (sc := defScope s__law_moods) (by decide +kernel)) (fun _ _ _ _ _ => (pg_name (i := 5) sc__law_moods.nd rfl (by first | exact Or.inl rfl | exact Or.inr rfl))) (fun _ _ _ _ _ => pts_nil) (fun _ _ _ _ _ => (pe_op op_catTT (pv 4) (pe_tup (pa_cons (pv 5) pa_nil)))))))))
        (pss_one (ps_set (i := 1) sc__law_moods.nd rfl (by first | exact Or.inl rfl | exact Or.inr rfl) (pv 3))))))
      (pss_one (ps_ret (pv 1))))), ?_⟩
    have rl : ∀ i, ((tops.take i).foldl rowsStep [[]]).length ≤ 4096 := fun i => by
      have h1 := rows_len4 (tops := tops.take i) (fun t ht => (hT t (List.mem_of_mem_take ht)).2) [[]]
      have h2 : 4 ^ (tops.take i).length ≤ 4 ^ 6 := Nat.pow_le_pow_right (by decide) (by rw [List.length_take]; omega)
      simp only [List.length_singleton, Nat.one_mul] at h1
      exact Nat.le_trans h1 h2
    refine ⟨(by show 0 ≤ sizeLine; decide), fun q hq => ⟨(by show 1 ≤ sizeLine; decide), fun p hp => ?_⟩⟩
    have hpq : p ≠ q := fun z => by rw [z, upd_same] at hp; cases hp
    have hp0 : H p = none := by rw [upd_ne hpq] at hp; exact hp
    have E1 : Ext H (upd (upd H q (.tup [])) p (.lst [.ref q])) := (Ext.new hq _).trans (Ext.new hp _)
    refine ⟨a, rfl, kk, iv tops, ha.ext E1, for_seq (K := K) (k := kk) (a := a) (xs := iv tops) (fun i σ H' => ∃ (r : Addr) (vs : List V) (o2 o3 o4 o5 : Option V), σ = [some (.ref a), some (.ref r), o2, o3, o4, o5] ∧ Ext H H' ∧ H r = none ∧ H' r = some (.lst vs) ∧ Paired (TI H') vs ((tops.take i).foldl rowsStep [[]]))
      ⟨p, _, none, none, none, none, rfl, E1, hp0, upd_same, .cons ⟨q, rfl, by rw [upd_ne hpq.symm]; exact upd_same⟩ .nil⟩ (fun i σ H' _ ⟨_, _, _, _, _, _, _, e, _⟩ => ha.ext e) ?_ ?_⟩
    · rintro i x σ H' hi ⟨r, vs, o2, o3, o4, o5, rfl, e, hr0, hvs, hpv⟩
      obtain ⟨t, ht, rfl⟩ := iv_get hi
      have hb := hT t (List.mem_of_getElem? ht)
      have lvs : vs.length ≤ 4096 := by rw [paired_len hpv]; exact rl i
      refine ⟨(by show 0 ≤ sizeLine; decide), fun L hL => ?_⟩
      have hLr : r ≠ L := ne_of_none hvs hL
      have EL : Ext H' (upd H' L (.lst [])) := Ext.new hL _
      refine ⟨_, rfl, r, rfl, ⟨_, SqL.of (EL.lst hvs)⟩, for_list (K := K) (a := r) (xs := vs) (fun j σ H2 => ∃ (L : Addr) (acc : List V) (o4 o5 : Option V), σ = [some (.ref a), some (.ref r), some (.int t), some (.ref L), o4, o5] ∧ Ext H' H2 ∧ H' L = none ∧ H2 L = some (.lst acc) ∧ acc.length = j * (t + 1).toNat ∧ Paired (TI H2) acc ((((tops.take i).foldl rowsStep [[]]).take j).flatMap fun r => (moods t).map fun m => r ++ [m]))
        ⟨L, [], _, _, rfl, EL, hL, upd_same, by simp, .nil⟩ (fun j σ H2 _ ⟨_, _, _, _, _, e2, _⟩ => SqL.of (e2.lst hvs)) ?_ ?_⟩
      · rintro j x σ H2 hj ⟨L, acc, o4, o5, rfl, e2, hL0, hacc, hl, hp2⟩
        obtain ⟨row, hrow, z, rfl, hz⟩ := paired_get' (pTI.ext e2 hpv) hj
        have hjv : j < vs.length := (List.getElem?_eq_some_iff.mp hj).1
        have rowlen : row.length ≤ 6 := by
          have h1 := rows_row (tops := tops.take i) (rows := [[]]) (n := 0) (fun r hr => by rw [List.mem_singleton.mp hr]; rfl) row (List.mem_of_getElem? hrow)
          rw [h1, List.length_take]
          omega
        refine ⟨_, rfl, _, rfl, _, _, rfl, rfl, t + 1, rfl, by omega, by omega, fun D hD => ?_⟩
        have hDL : L ≠ D := ne_of_none hacc hD
        refine lc_range (lo := 0) (n := (t + 1).toNat) (fun m H4 => ∃ acc2, H4 D = some (.lst acc2) ∧ Ext H2 H4 ∧ acc2.length = m ∧ Paired (TI H4) acc2 (((moods t).take m).map fun m => row ++ [m])) ⟨[], upd_same, Ext.new hD _, rfl, by simpa using Paired.nil⟩ (fun m H4 hm ⟨acc2, hacc2, e4, hl2, hp4⟩ => ?_) fun H4 ⟨acc2, hacc2, e4, hl2, hp4⟩ => ?_
        · have ei : (0 : Int) + (m : Int) = (m : Int) := Int.zero_add _
          rw [ei]
          have hz4 := e4.tup hz
          have fin : ∀ (H7 : Hp) (y : V), Ext H4 H7 → H7 D = some (.lst acc2) → TI H7 y (row ++ [(m : Int)]) → ∃ acc, H7 D = some (.lst acc) ∧ acc.length < sizeLine ∧ ∃ acc3, (upd H7 D (.lst (acc ++ [y]))) D = some (.lst acc3) ∧ Ext H2 (upd H7 D (.lst (acc ++ [y]))) ∧ acc3.length = m + 1 ∧
              Paired (TI (upd H7 D (.lst (acc ++ [y])))) acc3 (((moods t).take (m + 1)).map fun m => row ++ [m]) := by
            intro H7 y e7 h7 hy
            refine ⟨acc2, h7, small1000 (by omega), acc2 ++ [y], upd_same, (e4.trans e7).put hD _, by rw [List.length_append, hl2]; simp, ?_⟩
            have em : (moods t)[m]? = some (m : Int) := by
              unfold moods
              rw [List.getElem?_map, List.getElem?_range hm]
              rfl
            rw [List.take_add_one, em, List.map_append]
            exact pTI.put (H := H7) h7 (fun _ _ h => h) (paired_snoc hy (pTI.ext e7 hp4))
          refine ⟨rfl, yes ?_⟩
          refine ⟨_, rfl, _, rfl, (by show 1 ≤ sizeLine; decide), fun u hu => ?_⟩
          have hzu : z ≠ u := ne_of_none hz4 hu
          have hDu : D ≠ u := ne_of_none hacc2 hu
          refine ⟨z, u, iv row, _, rfl, rfl, by rw [upd_ne hzu]; exact hz4, upd_same, by rw [iv_len]; show row.length + 1 ≤ sizeLine; exact Nat.le_of_lt (small1000 (by omega)), fun e0 => ?_, (fun _ e0 => by cases e0), fun e0 _ v hv => ?_⟩
          · refine fin _ _ (Ext.new hu _) (by rw [upd_ne hDu]; exact hacc2) ⟨u, rfl, ?_⟩
            have r0 : row = [] := by
              cases row with
              | nil => rfl
              | cons a b => cases e0
            rw [upd_same, r0]
            rfl
          · have hDv : D ≠ v := fun z => by rw [z] at hDu hacc2; rw [upd_ne hDu, hacc2] at hv; cases hv
            refine fin _ _ ((Ext.new hu _).trans (Ext.new hv _)) (by rw [upd_ne hDv, upd_ne hDu]; exact hacc2) ⟨v, rfl, ?_⟩
            rw [upd_same]
            show some (HO.tup (iv row ++ [V.int (m : Int)])) = _
            unfold iv
            rw [List.map_append]
            rfl
        · have hm2 : (moods t).take (t + 1).toNat = moods t := List.take_of_length_le (by rw [moods_len]; exact Nat.le_refl _)
          rw [hm2] at hp4
          have la : acc.length + acc2.length ≤ 20000 := by
            rw [hl, hl2]
            have h3 : (t + 1).toNat ≤ 4 := by omega
            have h4 : j * (t + 1).toNat ≤ j * 4 := Nat.mul_le_mul_left _ h3
            omega
          refine ⟨L, D, acc, acc2, rfl, rfl, e4.lst hacc, hacc2, Nat.le_trans la (by decide), fun u hu => ?_⟩
          have hu2 : H2 u = none := e4.free hu
          refine ⟨u, acc ++ acc2, _, _, rfl, (e2.trans e4).trans (Ext.new hu _), e2.free hu2, upd_same, by rw [List.length_append, hl, hl2, Nat.add_mul, Nat.one_mul], ?_⟩
          rw [flatMap_take hrow]
          exact paired_app (pTI.ext (e4.trans (Ext.new hu _)) hp2) (pTI.ext (Ext.new hu _) hp4)
      · rintro σ H2 ⟨L, acc, o4, o5, rfl, e2, hL0, hacc, hl, hp2⟩
        refine ⟨_, rfl, L, acc, _, _, _, _, rfl, e.trans e2, e.free hL0, hacc, ?_⟩
        have hj2 : ((tops.take i).foldl rowsStep [[]]).take vs.length = (tops.take i).foldl rowsStep [[]] := List.take_of_length_le (by rw [paired_len hpv]; exact Nat.le_refl _)
        rw [hj2] at hp2
        rw [foldl_take ht]
        exact hp2
    · rintro σ H' ⟨r, vs, o2, o3, o4, o5, rfl, e, hr0, hvs, hpv⟩
      rw [iv_len, List.take_length] at hpv
      exact ⟨_, rfl, k H' r e hr0 ⟨r, vs, rfl, hvs, hpv⟩⟩
end
end Lk


/-! ## D08 -/
set_option Elab.async false
set_option linter.all false
set_option maxRecDepth 100000
set_option maxHeartbeats 2000000
namespace Lk
open PySem PySem.Spec PyProof.Rows L2 Gx
open GxR (TabG Tabbed TabB)
variable [Own]
/-- the places ahead of which a neighbour stands, n of them in all -/
def placesOf (n s z : Nat) : List Nat := (List.range n).filter fun p => decide (p / s % z < z - 1)
def goesAlong (tb : List Int) (s z : Nat) (sg : Int) : Bool := (placesOf tb.length s z).all fun p => decide (0 ≤ (tb.getD (p + s) 0 - tb.getD p 0) * sg)
def spGoesAlong (Ps : List Addr) : Sp := fun vs H Q _ => ∃ (v : V) (tb : List Int) (s z : Nat) (sg : Int), vs = [v, .int s, .int z, .int sg] ∧ TI H v tb ∧ (0 < s ∧ s < 1000000) ∧ (0 < z ∧ z < 1000000) ∧ (sg = 1 ∨ sg = -1) ∧ tb.length ≤ 1000000 ∧ (∀ p ∈ placesOf tb.length s z, p + s < tb.length) ∧ Tabs Ps H ∧ ∀ H', Ext H H' → Q (.bl (goesAlong tb s z sg)) H'
section
variable {P : Program} {w : World} {K : PySem.W.Frag} {mg : Str → Option Value} {base : Heap} {Ps : List Addr}
theorem getD_get {l : List Int} {i : Nat} (h : i < l.length) : l[i]? = some (l.getD i 0) := by rw [List.getD_eq_getElem?_getD, List.getElem?_eq_getElem h]; rfl
theorem filter_take {α : Type} {f : α → Bool} {l : List α} {i : Nat} {x : α} (h : l[i]? = some x) : (l.take (i + 1)).filter f = (l.take i).filter f ++ (if f x = true then [x] else []) := by
  rw [List.take_add_one, h, List.filter_append]
  show _ ++ List.filter f [x] = _
  rw [List.filter_cons]
  by_cases hf : f x = true <;> simp [hf]
end
end Lk


/-! ## D09 -/
set_option Elab.async false
set_option linter.all false
set_option maxRecDepth 100000
set_option maxHeartbeats 2000000
namespace Lk
open PySem PySem.Spec PyProof.Rows L2 Gx
open GxR (TabG Tabbed TabB)
variable [Own]
/-- the looks from the last: s, how far apart neighbours lie -/
def goLoop (W : Web) (tb : List Int) : List (Int × Int) → Nat → Bool
  | [], _ => true
  | l :: r, s => goesAlong tb s (topAt W l.1 + 1).toNat l.2 && goLoop W tb r (s * (topAt W l.1 + 1).toNat)
def isTable (W : Web) (f : Int) (tb : List Int) : Bool := decide ((tb.length : Int) = manyRows W f) && tb.all (fun m => isWhole m 0 (topAt W f)) && goLoop W tb (looksOf W f).reverse 1
abbrev s_ways_of : Stmt := top 21
theorem sc_ways_of : FnScope ["web", "folk", "tops", "_", "found", "step", "one", "sign"] ["web", "folk"] (defScope s_ways_of) := ⟨rfl, rfl, rfl, by decide +kernel, rfl, by decide +kernel, by decide +kernel⟩
def spIsTable (Ps : List Addr) : Sp := fun vs H Q _ => ∃ (v t : V) (W : Web) (f : Int) (tb : List Int), vs = [v, .int f, t] ∧ WebAt H v W ∧ W.Ok ∧ (0 ≤ f ∧ f < W.tops.length) ∧ TI H t tb ∧ tb.length ≤ 1000000 ∧ Tabs Ps H ∧ ∀ H', Ext H H' → Q (.bl (isTable W f tb)) H'
/-- the product of the sizes of looks -/
def prodOf (W : Web) (ls : List (Int × Int)) : Nat := ls.foldl (fun m l => m * (topAt W l.1 + 1).toNat) 1
theorem prod_mul (W : Web) : ∀ (ls : List (Int × Int)) (a : Nat), ls.foldl (fun m l => m * (topAt W l.1 + 1).toNat) a = a * prodOf W ls
  | [], a => by simp [prodOf]
  | l :: ls, a => by
    unfold prodOf
    rw [List.foldl_cons, List.foldl_cons, prod_mul W ls, prod_mul W ls (1 * _), Nat.one_mul, Nat.mul_assoc]
theorem prod_cons (W : Web) (l : Int × Int) (ls : List (Int × Int)) : prodOf W (l :: ls) = (topAt W l.1 + 1).toNat * prodOf W ls := by
  show List.foldl _ _ _ = _
  rw [List.foldl_cons, Nat.one_mul, prod_mul]
theorem prod_snoc (W : Web) (l : Int × Int) (ls : List (Int × Int)) : prodOf W (ls ++ [l]) = prodOf W ls * (topAt W l.1 + 1).toNat := by
  unfold prodOf
  rw [List.foldl_append]
  rfl
theorem prod_rev (W : Web) : ∀ ls : List (Int × Int), prodOf W ls.reverse = prodOf W ls
  | [] => rfl
  | l :: ls => by rw [List.reverse_cons, prod_snoc, prod_rev W ls, prod_cons, Nat.mul_comm]
theorem many_prod {W : Web} (ok : W.Ok) : ∀ (ls : List (Int × Int)) (a : Nat), (∀ l ∈ ls, 0 ≤ l.1 ∧ l.1 < W.tops.length) → ls.foldl (manyStep W) (a : Int) = ((a * prodOf W ls : Nat) : Int)
  | [], a, _ => by simp [prodOf]
  | l :: ls, a, h => by
    have hh := h l (List.mem_cons_self ..)
    have ht := topAt_ok ok hh.1 hh.2
    rw [List.foldl_cons]
    have e : manyStep W (a : Int) l = ((a * (topAt W l.1 + 1).toNat : Nat) : Int) := by
      unfold manyStep
      rw [Int.natCast_mul]
      congr 1
      omega
    rw [e, many_prod ok ls _ (fun x hx => h x (List.mem_cons_of_mem _ hx)), prod_cons, Nat.mul_assoc]
theorem many_eq {W : Web} (ok : W.Ok) (f : Int) : manyRows W f = ((prodOf W (looksOf W f) : Nat) : Int) := by
  have := many_prod ok (looksOf W f) 1 fun l hl => (looksOf_ok ok l hl).1
  rw [Nat.one_mul] at this
  exact this
theorem prod_pos {W : Web} (ok : W.Ok) : ∀ ls : List (Int × Int), (∀ l ∈ ls, 0 ≤ l.1 ∧ l.1 < W.tops.length) → 0 < prodOf W ls
  | [], _ => by simp [prodOf]
  | l :: ls, h => by
    have hh := h l (List.mem_cons_self ..)
    have ht := topAt_ok ok hh.1 hh.2
    rw [prod_cons]
    exact Nat.mul_pos (by omega) (prod_pos ok ls fun x hx => h x (List.mem_cons_of_mem _ hx))
/-- where a neighbour stands: within the table -/
theorem places_in {n s z r : Nat} (hs : 0 < s) (hz : 0 < z) (hn : n = s * z * r) : ∀ p ∈ placesOf n s z, p + s < n := by
  intro p hp
  unfold placesOf at hp
  obtain ⟨h1, h2⟩ := List.mem_filter.mp hp
  have h1 := List.mem_range.mp h1
  have h2 : p / s % z < z - 1 := of_decide_eq_true h2
  -- p = s * (z * b + d) + c
  have e1 : p = s * (p / s) + p % s := (Nat.div_add_mod p s).symm
  have e2 : p / s = z * (p / s / z) + p / s % z := (Nat.div_add_mod _ z).symm
  have c1 : p % s < s := Nat.mod_lt _ hs
  have b1 : p / s / z < r := by
    rw [Nat.div_div_eq_div_mul]
    exact Nat.div_lt_of_lt_mul (by rw [← hn]; exact h1)
  generalize p / s / z = b at e2 b1
  generalize p / s % z = d at e2 h2
  generalize p % s = c at e1 c1
  rw [e2] at e1
  rw [hn, e1]
  have h3 : z * b + d + 1 < z * (b + 1) := by rw [Nat.mul_add, Nat.mul_one]; omega
  have h4 : z * (b + 1) ≤ z * r := Nat.mul_le_mul_left _ b1
  have h5 : s * (z * b + d + 1 + 1) ≤ s * (z * r) := Nat.mul_le_mul_left _ (by omega)
  rw [← Nat.mul_assoc s z r] at h5
  rw [Nat.mul_add, Nat.mul_add, Nat.mul_one] at h5
  omega
section
variable {P : Program} {w : World} {K : PySem.W.Frag} {mg : Str → Option Value} {base : Heap} {Ps : List Addr}
theorem rev_paired {α β : Type} {R : α → β → Prop} : ∀ {l : List α} {m : List β}, Paired R l m → Paired R l.reverse m.reverse
  | _, _, .nil => .nil
  | _, _, .cons r t => by rw [List.reverse_cons, List.reverse_cons]; exact paired_snoc r (rev_paired t)
theorem goLoop_false {W : Web} {tb : List Int} : ∀ {ls : List (Int × Int)} {i : Nat} {l : Int × Int} {s : Nat}, ls[i]? = some l → goesAlong tb (s * prodOf W (ls.take i)) (topAt W l.1 + 1).toNat l.2 = false → goLoop W tb ls s = false
  | [], _, _, _, h, _ => by simp at h
  | k :: ls, 0, l, s, h, hg => by
    obtain rfl : k = l := by simpa using h
    unfold goLoop
    have : s * prodOf W (List.take 0 (k :: ls)) = s := by simp [prodOf]
    rw [this] at hg
    rw [hg, Bool.false_and]
  | k :: ls, i + 1, l, s, h, hg => by
    unfold goLoop
    rw [goLoop_false (ls := ls) (i := i) (l := l) (by simpa using h), Bool.and_false]
    rw [List.take_succ_cons, prod_cons, ← Nat.mul_assoc] at hg
    exact hg
theorem goLoop_true {W : Web} {tb : List Int} : ∀ {ls : List (Int × Int)} {s : Nat}, (∀ i l, ls[i]? = some l → goesAlong tb (s * prodOf W (ls.take i)) (topAt W l.1 + 1).toNat l.2 = true) → goLoop W tb ls s = true
  | [], _, _ => rfl
  | k :: ls, s, h => by
    unfold goLoop
    have h0 := h 0 k rfl
    have : s * prodOf W (List.take 0 (k :: ls)) = s := by simp [prodOf]
    rw [this] at h0
    rw [h0, Bool.true_and]
    refine goLoop_true fun i l hl => ?_
    have h1 := h (i + 1) l (by simpa using hl)
    rw [List.take_succ_cons, prod_cons, ← Nat.mul_assoc] at h1
    exact h1
theorem looks_len {W : Web} (ok : W.Ok) (f : Int) : (looksOf W f).length ≤ 4 := by
  have h := ok.four f
  rw [List.filter_map, List.length_map] at h
  unfold looksOf
  rw [List.length_map]
  exact h
/-- for each look, the last one ahead: how far apart, how many, the sign -/
def wayRow (W : Web) (ls : List (Int × Int)) (i : Nat) : List Int := [((prodOf W (ls.take i) : Nat) : Int), topAt W (ls.getD i (0, 0)).1 + 1, (ls.getD i (0, 0)).2]
def waysOf (W : Web) (f : Int) : List (List Int) := (List.range (looksOf W f).length).map (wayRow W (looksOf W f).reverse)
def spWaysOf : Sp := fun vs H Q _ => ∃ (v : V) (W : Web) (f : Int), vs = [v, .int f] ∧ WebAt H v W ∧ W.Ok ∧ ∀ H' p us, Ext H H' → H p = none → H' p = some (.lst us) → Paired (TI H') us (waysOf W f) → Q (.ref p) H'
theorem ok_ways_of {f : Addr} {fd : FuncData} (F : Fun K "ways_of" "ways_of" s_ways_of f fd)
    (c_looks_of : Cal P w K mg base CX0 1 "looks_of" ["web", "folk"] spLooksOf) : FnOk P w K mg base CX0 2 f fd ["web", "folk"] spWaysOf := by
  refine F.ok sc_ways_of (fun vs H Q E h => ?_) (fun cdv A outer s H vs Q E hr h => ?_)
  · obtain ⟨v, W, n, rfl, _⟩ := h
    rfl
  · obtain ⟨v, W, n, rfl, hW, ok, k⟩ := h
    obtain ⟨a, t, l, rfl, ha, ⟨b, rfl, hb⟩, hl⟩ := id hW
    refine ⟨_, (pss_cons (ps_asg (pv 0) (pg_tupT (n := 2) rfl (pgs_cons (pg_name (i := 2) sc_ways_of.nd rfl (by first | exact Or.inl rfl | exact Or.inr rfl)) (pgs_cons (pg_name (i := 3) sc_ways_of.nd rfl (by first | exact Or.inl rfl | exact Or.inr rfl)) pgs_nil))))
      (pss_cons (ps_set (i := 4) sc_ways_of.nd rfl (by first | exact Or.inl rfl | exact Or.inr rfl) (pe_lst pa_nil))
      (pss_cons (ps_set (i := 5) sc_ways_of.nd rfl (by first | exact Or.inl rfl | exact Or.inr rfl) pe_int)
      (pss_cons (ps_for PassesOwn.never rfl (pi_list (pe_revL (pe_c0 c_looks_of (hr.mono (by decide)) (by rfl) (pa_cons (pv 0) (pa_cons (pv 1) pa_nil))))) (pg_tupT (n := 2) rfl (pgs_cons (pg_name (i := 6) sc_ways_of.nd rfl (by first | exact Or.inl rfl | exact Or.inr rfl)) (pgs_cons (pg_name (i := 7) sc_ways_of.nd rfl (by first | exact Or.inl rfl | exact Or.inr rfl)) pgs_nil)))
        (pss_cons (ps_expr (pe_bmL PySem.F.plainAttrs_list PySem.F.slot_list_append PySem.F.type_list_append mt_append (pv 4) (pa_cons (pe_tup (pa_cons (pv 5) (pa_cons (pe_op op_add (pe_ix ix_tT (pv 2) (pv 6) (fun _ _ => rfl)) pe_int) (pa_cons (pv 7) pa_nil)))) pa_nil)))
        (pss_one (ps_set (i := 5) sc_ways_of.nd rfl (by first | exact Or.inl rfl | exact Or.inr rfl) (pe_op op_mul (pv 5) (pe_op op_add (pe_ix ix_tT (pv 2) (pv 6) (fun _ _ => rfl)) pe_int))))))
      (pss_one (ps_ret (pv 4))))))), ?_⟩
    refine ⟨_, rfl, a, _, rfl, ha, rfl, _, _, rfl, _, _, rfl, rfl, ?_⟩
    refine ⟨(by show 0 ≤ sizeLine; decide), fun L hL => ?_⟩
    have EL := Ext.new hL (.lst [])
    refine ⟨_, rfl, _, rfl, _, W, n, rfl, hW.ext EL, ok.most, fun H6 p vs E6 hp0 hp hvs => ?_⟩
    refine ⟨p, _, rfl, SqL.of hp, fun q hq => ?_⟩
    have E8 := (EL.trans E6).trans (Ext.new hq (.lst vs.reverse))
    have hrv : Paired (TI (upd H6 q (.lst vs.reverse))) vs.reverse ((looksOf W n).reverse.map row2) := by
      rw [List.map_reverse]
      exact rev_paired (pTI.ext (Ext.new hq _) hvs)
    have hL6 : H6 L = some (.lst []) := E6.lst upd_same
    have hLq : L ≠ q := ne_of_none hL6 hq
    have hLs : (upd H6 q (.lst vs.reverse)) L = some (.lst []) := by rw [upd_ne hLq]; exact hL6
    generalize hHb : upd H6 q (.lst vs.reverse) = Hb at *
    have hqv : Hb q = some (.lst vs.reverse) := by rw [← hHb]; exact upd_same
    refine ⟨q, rfl, ⟨_, SqL.of hqv⟩, for_list (K := K) (a := q) (xs := vs.reverse) (fun i σ H' => ∃ (o3 o6 o7 : Option V) (acc : List V), σ = [some (.ref a), some (.int n), some (.ref b), o3, some (.ref L), some (.int ((prodOf W ((looksOf W n).reverse.take i) : Nat) : Int)), o6, o7] ∧ Ext H H' ∧ H' q = some (.lst vs.reverse) ∧ Paired (TI H') vs.reverse ((looksOf W n).reverse.map row2) ∧ H' L = some (.lst acc) ∧ acc.length = i ∧ Paired (TI H') acc ((List.range i).map (wayRow W (looksOf W n).reverse)))
      ⟨_, _, _, [], rfl, E8, hqv, hrv, hLs, rfl, .nil⟩ (fun i σ H' _ ⟨_, _, _, _, _, _, e, _⟩ => SqL.of e) ?_ ?_⟩
    · rintro i x σ H' hi ⟨o3, o6, o7, acc, rfl, E9, hq9, hv9, hL9, hlen, hacc⟩
      obtain ⟨lk, z, hlk, rfl, hz⟩ := look_at hv9 hi
      have hmem : lk ∈ looksOf W n := List.mem_reverse.mp (List.mem_of_getElem? hlk)
      have h1 := looksOf_ok ok lk hmem
      have h2 := topAt_ok ok h1.1.1 h1.1.2
      have hi4 : i < vs.length := by
        have := (List.getElem?_eq_some_iff.mp hi).1
        rwa [List.length_reverse] at this
      have hvl : vs.length ≤ 14 := by
        rw [paired_len hvs, List.length_map]
        exact Nat.le_trans (looks_len ok n) (by decide)
      refine ⟨z, _, rfl, hz, rfl, _, _, rfl, _, _, rfl, rfl, ?_⟩
      have hbt := E9.tup hb
      have htop := at_of (show lk.1 = ((lk.1.toNat : Nat) : Int) by omega) (iv_at (topAt_get h1.1.1 h1.1.2))
      refine ⟨_, rfl, ⟨L, acc, rfl, hL9⟩, _, rfl, _, rfl, _, rfl, b, _, _, _, rfl, rfl, hbt, htop, _, _, rfl, rfl, _, rfl, (by show 3 ≤ sizeLine; decide), fun u hu => ?_⟩
      have hLu : L ≠ u := ne_of_none hL9 hu
      have E10 := (E9.trans (Ext.new hu (.tup [.int ((prodOf W ((looksOf W n).reverse.take i) : Nat) : Int), .int (topAt W lk.1 + 1), .int lk.2]))).put hL (.lst (acc ++ [.ref u]))
      refine ⟨L, acc, _, rfl, rfl, by rw [upd_ne hLu]; exact hL9, small1000 (by omega), ?_⟩
      refine ⟨_, rfl, _, rfl, _, rfl, b, _, _, _, rfl, rfl, E10.tup hb, htop, _, _, rfl, rfl, _, _, rfl, rfl, .inr ⟨by omega, by omega⟩, ?_⟩
      have ez : (topAt W lk.1 + 1 : Int) = (((topAt W lk.1 + 1).toNat : Nat) : Int) := by omega
      have hps : prodOf W ((looksOf W n).reverse.take (i + 1)) = prodOf W ((looksOf W n).reverse.take i) * (topAt W lk.1 + 1).toNat := by
        rw [List.take_add_one, hlk]
        exact prod_snoc W lk _
      refine ⟨_, _, _, _, by rw [hps, Int.natCast_mul, ← ez]; rfl, E10, ?_, ?_, upd_same, by rw [List.length_append, hlen]; rfl, ?_⟩
      · rw [upd_ne hLq.symm, upd_ne (ne_of_none hq9 hu)]
        exact hq9
      · exact pTI.put (H := H') (D := L) (acc := acc) hL9 (fun c xs hc => by rw [upd_ne (ne_of_none hc hu)]; exact hc) hv9
      · rw [List.range_succ, List.map_append]
        refine paired_snoc ⟨u, rfl, ?_⟩ (pTI.put (H := H') (D := L) (acc := acc) hL9 (fun c xs hc => by rw [upd_ne (ne_of_none hc hu)]; exact hc) hacc)
        rw [upd_ne hLu.symm, upd_same]
        unfold wayRow
        rw [List.getD_eq_getElem?_getD, hlk]
        rfl
    · rintro σ H' ⟨o3, o6, o7, acc, rfl, E9, hq9, hv9, hL9, hlen, hacc⟩
      refine ⟨_, rfl, k H' L acc E9 hL hL9 ?_⟩
      have : vs.reverse.length = (looksOf W n).length := by rw [List.length_reverse, paired_len hvs, List.length_map]
      rw [this] at hacc
      exact hacc
end
end Lk


/-! ## RwB -/
set_option Elab.async false
set_option linter.all false
set_option maxRecDepth 100000
set_option maxHeartbeats 2000000
/-! Heaps that have grown beside the row of draws. -/
namespace Lk
open PySem PySem.Spec PyProof.Rows L2 Gx
variable [Own]
theorem ExtB.put {r : Addr} {H0 H : Hp} {p : Addr} (e : ExtB r H0 H) (h : H0 p = none) (o : HO) : ExtB r H0 (L2.upd H p o) := ⟨fun a u n q t => by rw [upd_ne (ne_of_none q h)]; exact e.keep a u n q t, fun P ⟨ps, q, t⟩ => by
  obtain ⟨qs, q', t'⟩ := e.tab P ⟨ps, q, t⟩
  exact ⟨qs, by rw [upd_ne (ne_of_none q h)]; exact q', t'⟩, fun a u q => by
  obtain ⟨o', h'⟩ := e.tb a u q
  exact ⟨o', by rw [upd_ne (ne_of_none q h)]; exact h'⟩, fun P ps o q => by rw [upd_ne (ne_of_none q h)]; exact e.own P ps o q⟩
section
variable {K : PySem.W.Frag} {r sc : Addr} {ns : List Int} {H H' : Hp}
theorem Rw.tup (h : Rw K H r sc ns) (e : ExtB r H H') {a : Addr} {xs : List V} (q : H a = some (.tup xs)) : H' a = some (.tup xs) := by
  obtain ⟨_, h⟩ := h.lst
  exact e.tup h q
theorem Rw.TI (h : Rw K H r sc ns) (e : ExtB r H H') {v : V} {ns : List Int} (q : TI H v ns) : TI H' v ns := by
  obtain ⟨_, h⟩ := h.lst
  exact q.extB e h
theorem Rw.pTI (h : Rw K H r sc ns) (e : ExtB r H H') {vs : List V} {rows : List (List Int)} (q : Paired (Lk.TI H) vs rows) : Paired (Lk.TI H') vs rows := by
  obtain ⟨_, h⟩ := h.lst
  exact pTI.extB e h q
theorem Rw.web (h : Rw K H r sc ns) (e : ExtB r H H') {v : V} {W : Web} (q : WebAt H v W) : WebAt H' v W := by
  obtain ⟨_, h⟩ := h.lst
  exact q.extB e h
theorem Rw.ne_none (h : Rw K H r sc ns) {D : Addr} (q : H D = none) : D ≠ r := by
  obtain ⟨_, h⟩ := h.lst
  exact (ne_of_none h q).symm
theorem Rw.new (h : Rw K H r sc ns) {D : Addr} (q : H D = none) (o : HO) : Rw K (upd H D o) r sc ns := h.ext (Ext.new q o)
theorem Rw.put {H0 : Hp} (h : Rw K H r sc ns) (h0 : Rw K H0 r sc ns) {D : Addr} (q : H0 D = none) (o : HO) : Rw K (upd H D o) r sc ns := by
  obtain ⟨d, h⟩ := h
  obtain ⟨d0, h0⟩ := h0
  exact ⟨d, by rw [upd_ne (ne_of_none h0.row q)]; exact h.row, h.scr.put h0.scr q o, h.len, h.ok⟩
/-- a list that the draws leave -/
theorem same_at {D : Addr} (same : ∀ a, a ≠ r → H' a = H a) (n : D ≠ r) {o : Option HO} (h : H D = o) : H' D = o := by rw [same D n]; exact h
end
end Lk

/-! ## D10 -/
set_option Elab.async false
set_option linter.all false
set_option maxRecDepth 100000
set_option maxHeartbeats 2000000
namespace Lk
open PySem PySem.Spec PyProof.Rows L2 Gx
open GxR (TabG Tabbed TabB)
variable [Own]
/-- the state told in a state -/
def stateTold (W : Web) (ru : List (List Int)) (st : List Int) : List Int := (List.range st.length).map fun f : Nat => moodTold W ru st (f : Int)
def spStateTold : Sp := fun vs H Q _ => ∃ (v r z : V) (W : Web) (ru : List (List Int)) (st : List Int), vs = [v, r, z] ∧ WebAt H v W ∧ W.Ok ∧ TT2 H r ru ∧ RuOk W ru ∧ TI H z st ∧ StOk W st ∧ ∀ H' u, Ext H H' → H u = none → H' u = some (.tup (iv (stateTold W ru st))) → Q (.ref u) H'
section
variable {P : Program} {w : World} {K : PySem.W.Frag} {mg : Str → Option Value} {base : Heap} {Ps : List Addr}
/-- all settled states -/
def settledStates (W : Web) (ru : List (List Int)) : List (List Int) := (rowsOf W.tops).filter fun st => decide (stateTold W ru st = st)
theorem rows_mem {tops : List Int} {st : List Int} : st ∈ rowsOf tops → st.length = tops.length ∧ ∀ i, i < tops.length → 0 ≤ st.getD i 0 ∧ st.getD i 0 ≤ tops.getD i 0 := by
  have key : ∀ (ts : List Int) (rows : List (List Int)) (pre : List Int), (∀ r ∈ rows, r.length = pre.length ∧ ∀ i, i < pre.length → 0 ≤ r.getD i 0 ∧ r.getD i 0 ≤ pre.getD i 0) → ∀ r ∈ ts.foldl rowsStep rows, r.length = (pre ++ ts).length ∧ ∀ i, i < (pre ++ ts).length → 0 ≤ r.getD i 0 ∧ r.getD i 0 ≤ (pre ++ ts).getD i 0 := by
    intro ts
    induction ts with
    | nil => intro rows pre h r hr; rw [List.append_nil]; exact h r hr
    | cons t ts ih =>
      intro rows pre h r hr
      rw [List.foldl_cons] at hr
      have := ih (rowsStep rows t) (pre ++ [t]) (fun q hq => ?_) r hr
      · rw [List.append_assoc] at this
        exact this
      · unfold rowsStep at hq
        obtain ⟨z, hz, hq⟩ := List.mem_flatMap.mp hq
        obtain ⟨m, hm, rfl⟩ := List.mem_map.mp hq
        obtain ⟨h1, h2⟩ := h z hz
        unfold moods at hm
        obtain ⟨j, hj, rfl⟩ := List.mem_map.mp hm
        have hj := List.mem_range.mp hj
        refine ⟨by rw [List.length_append, List.length_append, h1]; rfl, fun i hi => ?_⟩
        rw [List.length_append] at hi
        by_cases hip : i < pre.length
        · have e1 : (z ++ [(j : Int)]).getD i 0 = z.getD i 0 := by rw [List.getD_eq_getElem?_getD, List.getD_eq_getElem?_getD, List.getElem?_append_left (by omega)]
          have e2 : (pre ++ [t]).getD i 0 = pre.getD i 0 := by rw [List.getD_eq_getElem?_getD, List.getD_eq_getElem?_getD, List.getElem?_append_left hip]
          rw [e1, e2]
          exact h2 i hip
        · have ei : i = pre.length := by simp at hi; omega
          have e1 : (z ++ [(j : Int)]).getD i 0 = (j : Int) := by rw [List.getD_eq_getElem?_getD, List.getElem?_append_right (by omega), h1, ei, Nat.sub_self]; rfl
          have e2 : (pre ++ [t]).getD i 0 = t := by rw [List.getD_eq_getElem?_getD, List.getElem?_append_right (by omega), ei, Nat.sub_self]; rfl
          rw [e1, e2]
          omega
  intro h
  have := key tops [[]] [] (fun r hr => by rw [List.mem_singleton.mp hr]; exact ⟨rfl, fun i hi => absurd hi (Nat.not_lt_zero _)⟩) st h
  exact this
theorem rows_st {W : Web} {st : List Int} (h : st ∈ rowsOf W.tops) : StOk W st := by
  obtain ⟨h1, h2⟩ := rows_mem h
  exact ⟨h1, fun i h0 hi => h2 i.toNat (by omega)⟩
def spSettledStates : Sp := fun vs H Q _ => ∃ (v r : V) (W : Web) (ru : List (List Int)), vs = [v, r] ∧ WebAt H v W ∧ W.Ok ∧ TT2 H r ru ∧ RuOk W ru ∧ ∀ H' u, Ext H H' → TT2 H' (.ref u) (settledStates W ru) → Q (.ref u) H'
end
end Lk


/-! ## D26 -/
set_option Elab.async false
set_option linter.all false
set_option maxRecDepth 100000
set_option maxHeartbeats 2000000
namespace Lk
open PySem PySem.Spec PyProof.Rows L2 Gx
open GxR (TabG Tabbed TabB)
variable [Own]
/-- the law's rows, signs -/
def rowsAt (W : Web) (f : Int) : List (List Int) := rowsOf ((looksOf W f).map fun l => topAt W l.1)
def signsAt (W : Web) (f : Int) : List Int := (looksOf W f).map fun l => l.2
/-- marks at which a table rises: a row and a mood -/
abbrev Mark := List Int × Int
def maxOf (l : List Int) : Int := l.foldl (fun a b => if a < b then b else a) 0
def tableOf (signs : List Int) (rows : List (List Int)) (mks : List Mark) : List Int := rows.map fun one => maxOf ((mks.filter fun mk => lawGoes signs mk.1 one).map (·.2))
/-- a mark as a value -/
def MkAt (H : Hp) (v : V) (mk : Mark) : Prop := ∃ t z, v = .ref t ∧ H t = some (.tup [z, .int mk.2]) ∧ TI H z mk.1
def spLawTable (K : PySem.W.Frag) : Sp := fun vs H Q _ => ∃ (r sc : Addr) (ns : List Int) (v : V) (W : Web) (f : Int), vs = [.ref r, v, .int f] ∧ Rw K H r sc ns ∧ WebAt H v W ∧ W.Ok ∧ (0 ≤ f ∧ f < W.tops.length) ∧
  ∀ H' u mks, ExtB r H H' → Rw K H' r sc ns → H u = none → (∀ mk ∈ mks, mk.1 ∈ rowsAt W f ∧ 0 ≤ mk.2 ∧ mk.2 ≤ topAt W f) → H' u = some (.tup (iv (tableOf (signsAt W f) (rowsAt W f) mks))) → Q (.ref u) H'
theorem foldmax : ∀ (l : List Int) (a : Int), (l.foldl (fun a b => if a < b then b else a) a) ∈ a :: l ∧ ∀ y ∈ a :: l, y ≤ l.foldl (fun a b => if a < b then b else a) a
  | [], a => ⟨List.mem_cons_self .., fun y hy => by
    rcases List.mem_cons.mp hy with h | h
    · rw [h]; exact Int.le_refl _
    · cases h⟩
  | b :: l, a => by
    obtain ⟨h1, h2⟩ := foldmax l (if a < b then b else a)
    rw [List.foldl_cons]
    refine ⟨?_, fun y hy => ?_⟩
    · rcases List.mem_cons.mp h1 with h | h
      · rw [h]
        split <;> simp
      · exact List.mem_cons_of_mem _ (List.mem_cons_of_mem _ h)
    · have h3 := h2 _ (List.mem_cons_self ..)
      rcases List.mem_cons.mp hy with h | hy
      · rw [h]
        refine Int.le_trans ?_ h3
        split <;> omega
      · rcases List.mem_cons.mp hy with h | hy
        · rw [h]
          refine Int.le_trans ?_ h3
          split <;> omega
        · exact h2 y (List.mem_cons_of_mem _ hy)
theorem maxOf_eq {l : List Int} {m : Int} (h1 : m ∈ (0 : Int) :: l) (h2 : ∀ y ∈ (0 : Int) :: l, y ≤ m) : m = maxOf l := by
  obtain ⟨g1, g2⟩ := foldmax l 0
  exact Int.le_antisymm (g2 m h1) (h2 _ g1)
theorem row2_at {H : Hp} {vs : List V} {ls : List (Int × Int)} {i : Nat} {x : V} (p : Paired (TI H) vs (ls.map row2)) (h : vs[i]? = some x) : ∃ l q, ls[i]? = some l ∧ x = .ref q ∧ H q = some (.tup [.int l.1, .int l.2]) := by
  obtain ⟨row, hrow, q, e, hq⟩ := paired_get' p h
  rw [List.getElem?_map] at hrow
  cases e2 : ls[i]? with
  | none => rw [e2] at hrow; cases hrow
  | some l =>
    rw [e2] at hrow
    obtain rfl := Option.some.inj hrow
    exact ⟨l, q, rfl, e, hq⟩
theorem rows_pos {tops : List Int} (h : ∀ t ∈ tops, 0 ≤ t) : ∀ rows : List (List Int), 0 < rows.length → 0 < (tops.foldl rowsStep rows).length := by
  induction tops with
  | nil => intro rows q; exact q
  | cons t ts ih =>
    intro rows q
    rw [List.foldl_cons]
    refine ih (fun t ht => h t (List.mem_cons_of_mem _ ht)) _ ?_
    rw [rowsStep_len]
    have := h t (List.mem_cons_self ..)
    exact Nat.mul_pos q (by omega)
theorem topsAt_ok {W : Web} (ok : W.Ok) (f : Int) : ∀ t ∈ (looksOf W f).map (fun l => topAt W l.1), 1 ≤ t ∧ t ≤ 3 := by
  intro t ht
  obtain ⟨l, hl, rfl⟩ := List.mem_map.mp ht
  have := (looksOf_ok ok l hl).1
  exact topAt_ok ok this.1 this.2
theorem rowsAt_len {W : Web} (ok : W.Ok) (f : Int) : 0 < (rowsAt W f).length ∧ (rowsAt W f).length ≤ 256 := by
  have ht := topsAt_ok ok f
  refine ⟨rows_pos (fun t h => by have := ht t h; omega) _ (by decide), ?_⟩
  have h1 := rows_len4 (fun t h => (ht t h).2) [[]]
  have h2 : 4 ^ ((looksOf W f).map fun l => topAt W l.1).length ≤ 4 ^ 4 := Nat.pow_le_pow_right (by decide) (by rw [List.length_map]; exact looks_len ok f)
  simp only [List.length_singleton, Nat.one_mul] at h1
  exact Nat.le_trans h1 h2
theorem rowsAt_row {W : Web} {f : Int} {r : List Int} (h : r ∈ rowsAt W f) : r.length = (looksOf W f).length := by
  have h1 := rows_row (tops := (looksOf W f).map fun l => topAt W l.1) (rows := [[]]) (n := 0) (fun r hr => by rw [List.mem_singleton.mp hr]; rfl) r (show r ∈ List.foldl rowsStep [[]] ((looksOf W f).map fun l => topAt W l.1) from h)
  rw [h1, List.length_map, Nat.zero_add]
theorem rowsAt_bd {W : Web} (ok : W.Ok) {f : Int} {r : List Int} (h : r ∈ rowsAt W f) : ∀ x ∈ r, 0 ≤ x ∧ x ≤ 3 := by
  intro x hx
  obtain ⟨h1, h2⟩ := rows_mem (tops := (looksOf W f).map fun l => topAt W l.1) h
  obtain ⟨i, hi, rfl⟩ := List.getElem_of_mem hx
  have h3 := h2 i (by omega)
  have e1 : r.getD i 0 = r[i] := by rw [List.getD_eq_getElem?_getD, List.getElem?_eq_getElem hi]; rfl
  have e2 : ((looksOf W f).map fun l => topAt W l.1).getD i 0 = ((looksOf W f).map fun l => topAt W l.1)[i]'(by omega) := by rw [List.getD_eq_getElem?_getD, List.getElem?_eq_getElem (by omega)]; rfl
  have h4 := topsAt_ok ok f _ (List.getElem_mem (l := (looksOf W f).map fun l => topAt W l.1) (n := i) (by omega))
  omega
theorem MkAt.extB {r : Addr} {H H' : Hp} {rs : List V} (e : ExtB r H H') (hr : H r = some (.lst rs)) {v : V} {mk : Mark} (h : MkAt H v mk) : MkAt H' v mk := by
  obtain ⟨t, z, q, h1, h2⟩ := h
  exact ⟨t, z, q, e.tup hr h1, h2.extB e hr⟩
theorem MkAt.ext {H H' : Hp} (e : Ext H H') {v : V} {mk : Mark} (h : MkAt H v mk) : MkAt H' v mk := by
  obtain ⟨t, z, q, h1, h2⟩ := h
  exact ⟨t, z, q, e.tup h1, h2.ext e⟩
theorem MkAt.put {H : Hp} {D : Addr} {acc : List V} {o : HO} (hD : H D = some (.lst acc)) {v : V} {mk : Mark} (h : MkAt H v mk) : MkAt (upd H D o) v mk := by
  obtain ⟨t, z, q, h1, a, q2, h2⟩ := h
  exact ⟨t, z, q, by rw [upd_ne (ne_of hD h1 (by intro q; cases q)).symm]; exact h1, a, q2, by rw [upd_ne (ne_of hD h2 (by intro q; cases q)).symm]; exact h2⟩
theorem signs_ok {W : Web} (ok : W.Ok) {f : Int} : ∀ s ∈ signsAt W f, s = 1 ∨ s = -1 := by
  intro s hs
  obtain ⟨l, hl, rfl⟩ := List.mem_map.mp hs
  exact (looksOf_ok ok l hl).2
section
variable {P : Program} {w : World} {K : PySem.W.Frag} {mg : Str → Option Value} {base : Heap} {Ps : List Addr}
end
end Lk


/-! ## D12 -/
set_option Elab.async false
set_option linter.all false
set_option maxRecDepth 100000
set_option maxHeartbeats 2000000
namespace Lk
open PySem PySem.Spec PyProof.Rows L2 Gx
open GxR (TabG Tabbed TabB)
variable [Own]
/-- the first of the folk whose thing is no table of theirs -/
def firstBad (W : Web) (ru : List (List Int)) : Option Nat := (List.range W.tops.length).find? fun f : Nat => !isTable W (f : Int) (ru.getD f [])
/-- what may be rules: as many tuples of ints as there are folk -/
structure Ru0 (W : Web) (ru : List (List Int)) : Prop where
  len : ru.length = W.tops.length
  few : ∀ t ∈ ru, t.length ≤ 1000000
/-- refused, or passed -/
def spCheckRules (Ps : List Addr) (C : Addr) : Sp := fun vs H Q E => ∃ (v r : V) (W : Web) (ru : List (List Int)), vs = [v, r] ∧ WebAt H v W ∧ W.Ok ∧ TT2 H r ru ∧ Ru0 W ru ∧ Tabs Ps H ∧
  (firstBad W ru = none → ∀ H', Ext H H' → Q .non H') ∧ (∀ f, firstBad W ru = some f → ∀ H' d, Ext H H' → H d = none → H' d = some (.xd [("folk", .int (f : Nat))]) → E (.ref C) (some d) H')
theorem firstBad_none {W : Web} {ru : List (List Int)} (h : firstBad W ru = none) : ∀ f : Int, 0 ≤ f → f < W.tops.length → isTable W f (ru.getD f.toNat []) = true := by
  intro f h0 h1
  have := List.find?_eq_none.mp h f.toNat (List.mem_range.mpr (by omega))
  have e : ((f.toNat : Nat) : Int) = f := by omega
  rw [e] at this
  simpa using this
theorem rules_ok {W : Web} {ru : List (List Int)} (r0 : Ru0 W ru) (h : firstBad W ru = none) : RuOk W ru := by
  refine ⟨r0.len, fun f h0 h1 => ?_⟩
  have := firstBad_none h f h0 h1
  unfold isTable at this
  rw [Bool.and_eq_true, Bool.and_eq_true] at this
  exact of_decide_eq_true this.1.1
def spCheckStanding (Ps : List Addr) : Sp := fun vs H Q _ => ∃ (v r z : V) (W : Web) (ru : List (List Int)) (st : List Int), vs = [v, r, z] ∧ WebAt H v W ∧ W.Ok ∧ TT2 H r ru ∧ Ru0 W ru ∧ firstBad W ru = none ∧ TI H z st ∧ StOk W st ∧ Tabs Ps H ∧ ∀ H', Ext H H' → Q .non H'
def spTold (Ps : List Addr) : Sp := fun vs H Q _ => ∃ (v r z : V) (W : Web) (ru : List (List Int)) (st : List Int) (f : Int), vs = [v, r, z, .int f] ∧ WebAt H v W ∧ W.Ok ∧ TT2 H r ru ∧ Ru0 W ru ∧ firstBad W ru = none ∧ TI H z st ∧ StOk W st ∧ (0 ≤ f ∧ f < W.tops.length) ∧ Tabs Ps H ∧ ∀ H', Ext H H' → Q (.int (moodTold W ru st f)) H'
def spIsSettled (Ps : List Addr) : Sp := fun vs H Q _ => ∃ (v r z : V) (W : Web) (ru : List (List Int)) (st : List Int), vs = [v, r, z] ∧ WebAt H v W ∧ W.Ok ∧ TT2 H r ru ∧ Ru0 W ru ∧ firstBad W ru = none ∧ TI H z st ∧ StOk W st ∧ Tabs Ps H ∧ ∀ H', Ext H H' → Q (.bl (decide (stateTold W ru st = st))) H'
def spSettled (Ps : List Addr) (C : Addr) : Sp := fun vs H Q E => ∃ (v r : V) (W : Web) (ru : List (List Int)), vs = [v, r] ∧ WebAt H v W ∧ W.Ok ∧ TT2 H r ru ∧ Ru0 W ru ∧ Tabs Ps H ∧
  (firstBad W ru = none → ∀ H' u, Ext H H' → TT2 H' (.ref u) (settledStates W ru) → Q (.ref u) H') ∧ (∀ f, firstBad W ru = some f → ∀ H' d, Ext H H' → H d = none → H' d = some (.xd [("folk", .int (f : Nat))]) → E (.ref C) (some d) H')
/-- the states at the ticks -/
def ticks (W : Web) (ru : List (List Int)) (st : List Int) : Nat → List Int
  | 0 => st
  | n + 1 => stateTold W ru (ticks W ru st n)
def spRun (Ps : List Addr) : Sp := fun vs H Q _ => ∃ (v r z : V) (W : Web) (ru : List (List Int)) (st : List Int) (n : Nat), vs = [v, r, z, .int n] ∧ n ≤ 200 ∧ WebAt H v W ∧ W.Ok ∧ TT2 H r ru ∧ Ru0 W ru ∧ firstBad W ru = none ∧ TI H z st ∧ StOk W st ∧ Tabs Ps H ∧ ∀ H' u, Ext H H' → TT2 H' (.ref u) ((List.range (n + 1)).map (ticks W ru st)) → Q (.ref u) H'
theorem told_len (W : Web) (ru : List (List Int)) (st : List Int) : (stateTold W ru st).length = st.length := by unfold stateTold; rw [List.length_map, List.length_range]
theorem told_at {W : Web} {ru : List (List Int)} {st : List Int} {f : Int} (h0 : 0 ≤ f) (h1 : f < st.length) : stAt (stateTold W ru st) f = moodTold W ru st f := by
  unfold stAt stateTold
  rw [List.getD_eq_getElem?_getD, List.getElem?_map, List.getElem?_range (by omega)]
  show moodTold W ru st ((f.toNat : Nat) : Int) = _
  rw [show ((f.toNat : Nat) : Int) = f by omega]
theorem table_bd {W : Web} {f : Int} {tb : List Int} (h : isTable W f tb = true) : ∀ m ∈ tb, 0 ≤ m ∧ m ≤ topAt W f := by
  intro m hm
  unfold isTable at h
  rw [Bool.and_eq_true, Bool.and_eq_true] at h
  have := List.all_eq_true.mp h.1.2 m hm
  unfold isWhole at this
  rw [Bool.and_eq_true] at this
  exact ⟨of_decide_eq_true this.1, of_decide_eq_true this.2⟩
theorem told_ok {W : Web} (ok : W.Ok) {ru : List (List Int)} (r0 : Ru0 W ru) (hb : firstBad W ru = none) {st : List Int} (so : StOk W st) : StOk W (stateTold W ru st) := by
  refine ⟨by rw [told_len, so.len], fun f h0 h1 => ?_⟩
  rw [told_at h0 (by rw [so.len]; exact h1)]
  have ht := firstBad_none hb f h0 h1
  refine table_bd ht _ ?_
  unfold moodTold
  have rok := rules_ok r0 hb
  have hp := place_bd ok so (looksOf W f) 1 0 (fun l hl => (looksOf_ok ok l hl).1) (by decide) (by decide)
  have hl := rok.rows f h0 h1
  have hlt : (placeOf W st f).toNat < (ru.getD f.toNat []).length := by
    have h2 : placeOf W st f < manyRows W f := hp.2
    have h3 : 0 ≤ placeOf W st f := hp.1
    omega
  rw [List.getD_eq_getElem?_getD (l := ru.getD f.toNat []), List.getElem?_eq_getElem hlt]
  exact List.getElem_mem hlt
theorem ticks_ok {W : Web} (ok : W.Ok) {ru : List (List Int)} (r0 : Ru0 W ru) (hb : firstBad W ru = none) {st : List Int} (so : StOk W st) : ∀ n, StOk W (ticks W ru st n)
  | 0 => so
  | n + 1 => told_ok ok r0 hb (ticks_ok ok r0 hb so n)
section
variable {P : Program} {w : World} {K : PySem.W.Frag} {mg : Str → Option Value} {base : Heap} {Ps : List Addr} {C : Addr}
end
end Lk


/-! ## M1 -/
set_option Elab.async false
set_option linter.all false
set_option maxRecDepth 100000
set_option maxHeartbeats 2000000
/-! Tables: neighbours and all pairs of rows. -/
namespace Lk
open PySem PySem.Spec PyProof.Rows L2 Gx
variable [Own]
/-- an axis: how many moods, the sign -/
abbrev Ax := Nat × Int
def pr : List Ax → Nat
  | [] => 1
  | a :: r => a.1 * pr r
def rws : List Ax → List (List Int)
  | [] => [[]]
  | a :: r => (List.range a.1).flatMap fun x : Nat => (rws r).map fun b => (x : Int) :: b
theorem rws_cons (a : Ax) (r : List Ax) : rws (a :: r) = (List.range a.1).flatMap fun x : Nat => (rws r).map fun b => (x : Int) :: b := rfl
def AxOk (as : List Ax) : Prop := ∀ a ∈ as, 0 < a.1 ∧ (a.2 = 1 ∨ a.2 = -1)
theorem pr_pos : ∀ {as : List Ax}, AxOk as → 0 < pr as
  | [], _ => Nat.one_pos
  | a :: r, h => Nat.mul_pos (h a (List.mem_cons_self ..)).1 (pr_pos fun x hx => h x (List.mem_cons_of_mem _ hx))
theorem rws_len : ∀ as : List Ax, (rws as).length = pr as
  | [] => rfl
  | a :: r => by
    rw [rws_cons, pr, List.length_flatMap]
    have : ((List.range a.1).map fun x => ((rws r).map fun b => ((x : Nat) : Int) :: b).length) = (List.range a.1).map fun _ => pr r := List.map_congr_left fun x _ => by rw [List.length_map, rws_len r]
    rw [this, List.map_const', List.length_range, List.sum_replicate_nat]
theorem flat_at {α : Type} (g : Nat → List α) (m : Nat) (hg : ∀ x, (g x).length = m) : ∀ (k n p : Nat), 0 < m → p < n * m → ((List.range' k n).flatMap g)[p]? = (g (k + p / m))[p % m]?
  | k, 0, p, _, h => by simp at h
  | k, n + 1, p, h0, h => by
    rw [List.range'_succ, List.flatMap_cons]
    by_cases hp : p < m
    · rw [List.getElem?_append_left (by rw [hg]; exact hp), Nat.div_eq_of_lt hp, Nat.mod_eq_of_lt hp, Nat.add_zero]
    · have hp : m ≤ p := by omega
      rw [List.getElem?_append_right (by rw [hg]; exact hp), hg, flat_at g m hg (k + 1) n (p - m) h0 (by rw [Nat.add_mul, Nat.one_mul] at h; omega)]
      rw [Nat.mod_eq_sub_mod hp, Nat.div_eq_sub_div h0 hp]
      congr 2
      omega
theorem rws_get {a : Ax} {r : List Ax} (hr : 0 < pr r) {p : Nat} (h : p < a.1 * pr r) : (rws (a :: r))[p]? = ((rws r)[p % pr r]?).map fun b => ((p / pr r : Nat) : Int) :: b := by
  rw [rws_cons, List.range_eq_range', flat_at _ (pr r) (fun x => by rw [List.length_map, rws_len]) 0 a.1 p hr h, List.getElem?_map, Nat.zero_add]
theorem rws_at {a : Ax} {r : List Ax} {x b : Nat} {row : List Int} (hx : x < a.1) (hb : (rws r)[b]? = some row) : (rws (a :: r))[x * pr r + b]? = some ((x : Int) :: row) := by
  have hb' : b < pr r := by rw [← rws_len]; exact (List.getElem?_eq_some_iff.mp hb).1
  have hr : 0 < pr r := by omega
  have hlt : x * pr r + b < a.1 * pr r := by
    have : (x + 1) * pr r ≤ a.1 * pr r := Nat.mul_le_mul_right _ hx
    rw [Nat.add_mul, Nat.one_mul] at this
    omega
  rw [rws_get hr hlt]
  have e1 : (x * pr r + b) % pr r = b := by rw [Nat.add_comm, Nat.add_mul_mod_self_right, Nat.mod_eq_of_lt hb']
  have e2 : (x * pr r + b) / pr r = x := by rw [Nat.add_comm, Nat.add_mul_div_right _ _ hr, Nat.div_eq_of_lt hb', Nat.zero_add]
  rw [e1, e2, hb]
  rfl
theorem rws_cut {a : Ax} {r : List Ax} {p : Nat} {row : List Int} (h : (rws (a :: r))[p]? = some row) : ∃ (x b : Nat) (row' : List Int), x < a.1 ∧ p = x * pr r + b ∧ row = (x : Int) :: row' ∧ (rws r)[b]? = some row' := by
  have hlt : p < a.1 * pr r := by
    have := (List.getElem?_eq_some_iff.mp h).1
    rw [rws_len] at this
    exact this
  have hr : 0 < pr r := by
    rcases Nat.eq_zero_or_pos (pr r) with z | z
    · rw [z, Nat.mul_zero] at hlt; omega
    · exact z
  rw [rws_get hr hlt] at h
  cases e : (rws r)[p % pr r]? with
  | none => rw [e] at h; cases h
  | some row' =>
    rw [e] at h
    refine ⟨p / pr r, p % pr r, row', Nat.div_lt_of_lt_mul (by rw [Nat.mul_comm]; exact hlt), ?_, (Option.some.inj h).symm, e⟩
    rw [Nat.mul_comm]
    exact (Nat.div_add_mod p (pr r)).symm
/-- a row stands at one place alone -/
theorem rws_inj : ∀ {as : List Ax} {p q : Nat} {row : List Int}, (rws as)[p]? = some row → (rws as)[q]? = some row → p = q
  | [], p, q, row, h1, h2 => by
    have h1 := (List.getElem?_eq_some_iff.mp h1).1
    have h2 := (List.getElem?_eq_some_iff.mp h2).1
    simp only [rws, List.length_singleton] at h1 h2
    omega
  | a :: r, p, q, row, h1, h2 => by
    obtain ⟨x, b, r1, _, rfl, rfl, g1⟩ := rws_cut h1
    obtain ⟨y, c, r2, _, rfl, e, g2⟩ := rws_cut h2
    injection e with e1 e2
    have e1 : x = y := by omega
    subst e1 e2
    rw [rws_inj g1 g2]
theorem goes_refl : ∀ (ss : List Int) (xs : List Int), lawGoes ss xs xs = true
  | [], _ => by simp [lawGoes]
  | s :: ss, [] => by simp [lawGoes]
  | s :: ss, x :: xs => by simp [lawGoes, goes_refl ss xs]
theorem goes_trans : ∀ (ss xs ys zs : List Int), (∀ s ∈ ss, s = 1 ∨ s = -1) → ys.length = ss.length → lawGoes ss xs ys = true → lawGoes ss ys zs = true → lawGoes ss xs zs = true
  | [], xs, ys, zs, _, _, _, _ => by simp [lawGoes]
  | s :: ss, [], ys, zs, _, _, _, _ => by simp [lawGoes]
  | s :: ss, x :: xs, [], zs, _, h, _, _ => by simp at h
  | s :: ss, x :: xs, y :: ys, [], _, _, _, _ => by simp [lawGoes]
  | s :: ss, x :: xs, y :: ys, z :: zs, hs, hl, h1, h2 => by
    simp only [lawGoes, Bool.and_eq_true, Bool.not_eq_true', decide_eq_false_iff_not] at h1 h2 ⊢
    refine ⟨?_, goes_trans ss xs ys zs (fun s h => hs s (List.mem_cons_of_mem _ h)) (by simpa using hl) h1.2 h2.2⟩
    have g1 := h1.1
    have g2 := h2.1
    rcases hs s (List.mem_cons_self ..) with e | e <;> (subst e; omega)
/-- monotone between neighbours; between all -/
def Nb : List Ax → (Nat → Int) → Prop
  | [], _ => True
  | a :: r, T => (∀ x b, x + 1 < a.1 → b < pr r → 0 ≤ (T ((x + 1) * pr r + b) - T (x * pr r + b)) * a.2) ∧ ∀ x, x < a.1 → Nb r fun b => T (x * pr r + b)
def Al (as : List Ax) (T : Nat → Int) : Prop := ∀ p q xp xq, (rws as)[p]? = some xp → (rws as)[q]? = some xq → lawGoes (as.map (·.2)) xp xq = true → T p ≤ T q
theorem al_nb : ∀ (as : List Ax), AxOk as → ∀ T : Nat → Int, Al as T ↔ Nb as T
  | [], _, T => by
    refine ⟨fun _ => trivial, fun _ p q xp xq h1 h2 _ => ?_⟩
    have h1 := (List.getElem?_eq_some_iff.mp h1).1
    have h2 := (List.getElem?_eq_some_iff.mp h2).1
    simp only [rws, List.length_singleton] at h1 h2
    rw [show p = q by omega]
    exact Int.le_refl _
  | a :: r, h, T => by
    have ha := h a (List.mem_cons_self ..)
    have hr : AxOk r := fun x hx => h x (List.mem_cons_of_mem _ hx)
    have hp := pr_pos hr
    refine ⟨fun A => ⟨fun x b hx hb => ?_, fun x hx => ?_⟩, fun ⟨N1, N2⟩ p q xp xq h1 h2 g => ?_⟩
    · have hb2 : b < (rws r).length := by rw [rws_len]; exact hb
      have e := List.getElem?_eq_getElem hb2
      have e1 := rws_at (a := a) (r := r) (x := x) (by omega) e
      have e2 := rws_at (a := a) (r := r) (x := x + 1) (by omega) e
      rcases ha.2 with s | s
      · have := A _ _ _ _ e1 e2 (by
          rw [List.map_cons, s]
          simp only [lawGoes, goes_refl, Bool.and_true, Bool.not_eq_true', decide_eq_false_iff_not]
          omega)
        rw [s]
        omega
      · have := A _ _ _ _ e2 e1 (by
          rw [List.map_cons, s]
          simp only [lawGoes, goes_refl, Bool.and_true, Bool.not_eq_true', decide_eq_false_iff_not]
          omega)
        rw [s]
        omega
    · refine (al_nb r hr _).mp fun p q xp xq h1 h2 g => ?_
      refine A _ _ _ _ (rws_at hx h1) (rws_at hx h2) ?_
      rw [List.map_cons]
      simp only [lawGoes, g, Bool.and_true, Bool.not_eq_true', decide_eq_false_iff_not, Int.sub_self, Int.mul_zero]
      omega
    · obtain ⟨x, b, r1, hx, rfl, rfl, g1⟩ := rws_cut h1
      obtain ⟨y, c, r2, hy, rfl, rfl, g2⟩ := rws_cut h2
      rw [List.map_cons] at g
      simp only [lawGoes, Bool.and_eq_true, Bool.not_eq_true', decide_eq_false_iff_not] at g
      have s1 : T (x * pr r + b) ≤ T (x * pr r + c) := (al_nb r hr _).mpr (N2 x hx) b c r1 r2 g1 g2 g.2
      have hc : c < pr r := by rw [← rws_len]; exact (List.getElem?_eq_some_iff.mp g2).1
      refine Int.le_trans s1 ?_
      rcases ha.2 with s | s
      · have hxy : x ≤ y := by
          have := g.1
          rw [s] at this
          omega
        have : ∀ d, x + d < a.1 → T (x * pr r + c) ≤ T ((x + d) * pr r + c) := by
          intro d
          induction d with
          | zero => intro _; exact Int.le_refl _
          | succ d ih =>
            intro hd
            have := N1 (x + d) c (by omega) hc
            rw [s] at this
            have := ih (by omega)
            rw [show x + (d + 1) = x + d + 1 by omega]
            omega
        have := this (y - x) (by omega)
        rw [show x + (y - x) = y by omega] at this
        exact this
      · have hxy : y ≤ x := by
          have := g.1
          rw [s] at this
          omega
        have : ∀ d, y + d < a.1 → T ((y + d) * pr r + c) ≤ T (y * pr r + c) := by
          intro d
          induction d with
          | zero => intro _; exact Int.le_refl _
          | succ d ih =>
            intro hd
            have := N1 (y + d) c (by omega) hc
            rw [s] at this
            have := ih (by omega)
            rw [show y + (d + 1) = y + d + 1 by omega]
            omega
        have := this (x - y) (by omega)
        rw [show y + (x - y) = x by omega] at this
        exact this
def Cn (T : Nat → Int) (n s z : Nat) (sg : Int) : Prop := ∀ p, p < n → p / s % z < z - 1 → 0 ≤ (T (p + s) - T p) * sg
def Ga (T : Nat → Int) (n : Nat) : List Ax → Prop
  | [] => True
  | a :: r => Cn T n (pr r) a.1 a.2 ∧ Ga T n r
theorem ga_nb : ∀ (as : List Ax), AxOk as → ∀ (T : Nat → Int) (k : Nat), Ga T (k * pr as) as ↔ ∀ x, x < k → Nb as fun b => T (x * pr as + b)
  | [], _, T, k => ⟨fun _ _ _ => trivial, fun _ => trivial⟩
  | a :: r, h, T, k => by
    have ha := h a (List.mem_cons_self ..)
    have hr : AxOk r := fun x hx => h x (List.mem_cons_of_mem _ hx)
    have hp := pr_pos hr
    have en : k * pr (a :: r) = k * a.1 * pr r := by rw [pr, Nat.mul_assoc]
    have ee : ∀ x y b : Nat, x * pr (a :: r) + (y * pr r + b) = (x * a.1 + y) * pr r + b := fun x y b => by
      rw [pr, Nat.add_mul, ← Nat.mul_assoc, Nat.add_assoc]
    rw [Ga, en, ga_nb r hr T (k * a.1)]
    constructor
    · rintro ⟨C, N⟩ x hx
      refine ⟨fun y b hy hb => ?_, fun y hy => ?_⟩
      · show 0 ≤ (T (x * pr (a :: r) + ((y + 1) * pr r + b)) - T (x * pr (a :: r) + (y * pr r + b))) * a.2
        rw [ee, ee]
        have hlt : x * a.1 + y < k * a.1 := by
          have : (x + 1) * a.1 ≤ k * a.1 := Nat.mul_le_mul_right _ hx
          rw [Nat.add_mul, Nat.one_mul] at this
          omega
        have d1 : ((x * a.1 + y) * pr r + b) / pr r = x * a.1 + y := by rw [Nat.add_comm, Nat.add_mul_div_right _ _ hp, Nat.div_eq_of_lt hb, Nat.zero_add]
        have d2 : (x * a.1 + y) % a.1 = y := by rw [Nat.add_comm, Nat.add_mul_mod_self_right, Nat.mod_eq_of_lt (by omega)]
        have := C ((x * a.1 + y) * pr r + b) (by
          have : (x * a.1 + y + 1) * pr r ≤ k * a.1 * pr r := Nat.mul_le_mul_right _ hlt
          rw [Nat.add_mul, Nat.one_mul] at this
          omega) (by rw [d1, d2]; omega)
        rw [show (x * a.1 + (y + 1)) * pr r + b = (x * a.1 + y) * pr r + b + pr r by rw [← Nat.add_assoc, Nat.add_mul (x * a.1 + y), Nat.one_mul]; omega]
        exact this
      · have := N (x * a.1 + y) (by
          have : (x + 1) * a.1 ≤ k * a.1 := Nat.mul_le_mul_right _ hx
          rw [Nat.add_mul, Nat.one_mul] at this
          omega)
        have e : (fun b => T (x * pr (a :: r) + (y * pr r + b))) = fun b => T ((x * a.1 + y) * pr r + b) := funext fun b => by rw [ee]
        show Nb r fun b => T (x * pr (a :: r) + (y * pr r + b))
        rw [e]
        exact this
    · intro N
      refine ⟨fun p hpn hd => ?_, fun x' hx' => ?_⟩
      · have e1 : p = p / pr r * pr r + p % pr r := by rw [Nat.mul_comm]; exact (Nat.div_add_mod p (pr r)).symm
        have e2 : p / pr r = p / pr r / a.1 * a.1 + p / pr r % a.1 := by rw [Nat.mul_comm]; exact (Nat.div_add_mod _ a.1).symm
        have c1 : p % pr r < pr r := Nat.mod_lt _ hp
        have c2 : p / pr r < k * a.1 := Nat.div_lt_of_lt_mul (by rw [Nat.mul_comm]; exact hpn)
        have c3 : p / pr r / a.1 < k := Nat.div_lt_of_lt_mul (by rw [Nat.mul_comm]; exact c2)
        obtain ⟨N1, _⟩ := N _ c3
        have := N1 (p / pr r % a.1) (p % pr r) (by omega) c1
        have this : 0 ≤ (T (p / pr r / a.1 * pr (a :: r) + ((p / pr r % a.1 + 1) * pr r + p % pr r)) - T (p / pr r / a.1 * pr (a :: r) + (p / pr r % a.1 * pr r + p % pr r))) * a.2 := this
        rw [ee, ee] at this
        rw [show p / pr r / a.1 * a.1 + (p / pr r % a.1 + 1) = p / pr r + 1 by omega, ← e2, ← e1] at this
        rw [show (p / pr r + 1) * pr r + p % pr r = p + pr r by rw [Nat.add_mul, Nat.one_mul]; omega] at this
        exact this
      · have e2 : x' = x' / a.1 * a.1 + x' % a.1 := by rw [Nat.mul_comm]; exact (Nat.div_add_mod _ a.1).symm
        have c3 : x' / a.1 < k := Nat.div_lt_of_lt_mul (by rw [Nat.mul_comm]; exact hx')
        obtain ⟨_, N2⟩ := N _ c3
        have := N2 (x' % a.1) (Nat.mod_lt _ ha.1)
        have this : Nb r fun b => T (x' / a.1 * pr (a :: r) + (x' % a.1 * pr r + b)) := this
        have e : (fun b => T (x' / a.1 * pr (a :: r) + (x' % a.1 * pr r + b))) = fun b => T (x' * pr r + b) := funext fun b => by rw [ee, ← e2]
        rw [e] at this
        exact this
theorem ga_al {as : List Ax} (h : AxOk as) (T : Nat → Int) : Ga T (pr as) as ↔ Al as T := by
  have := ga_nb as h T 1
  rw [Nat.one_mul] at this
  rw [this, al_nb as h T]
  constructor
  · intro N
    have := N 0 Nat.one_pos
    simpa using this
  · intro N x hx
    have : x = 0 := by omega
    subst this
    simpa using N
theorem goes_cn {tb : List Int} {s z : Nat} {sg : Int} : goesAlong tb s z sg = true ↔ Cn (fun p => tb.getD p 0) tb.length s z sg := by
  unfold goesAlong placesOf Cn
  rw [List.all_eq_true]
  constructor
  · intro h p hp hd
    exact of_decide_eq_true (h p (List.mem_filter.mpr ⟨List.mem_range.mpr hp, decide_eq_true hd⟩))
  · intro h p hp
    obtain ⟨h1, h2⟩ := List.mem_filter.mp hp
    exact decide_eq_true (h p (List.mem_range.mp h1) (of_decide_eq_true h2))
/-- the axes of looks -/
def axes (W : Web) (ls : List (Int × Int)) : List Ax := ls.map fun l => ((topAt W l.1 + 1).toNat, l.2)
theorem pr_prod (W : Web) : ∀ ls : List (Int × Int), pr (axes W ls) = prodOf W ls
  | [] => rfl
  | l :: ls => by
    rw [prod_cons, ← pr_prod W ls]
    rfl
theorem loop_ga {W : Web} {tb : List Int} : ∀ (rs done : List (Int × Int)), (goLoop W tb rs (prodOf W done) = true ∧ Ga (fun p => tb.getD p 0) tb.length (axes W done)) ↔ Ga (fun p => tb.getD p 0) tb.length (axes W (rs.reverse ++ done))
  | [], done => by simp [goLoop]
  | l :: rs, done => by
    rw [List.reverse_cons, List.append_assoc]
    show _ ↔ Ga _ _ (axes W (rs.reverse ++ (l :: done)))
    rw [← loop_ga rs (l :: done), prod_cons, goLoop, Bool.and_eq_true, goes_cn]
    show _ ↔ _ ∧ Ga _ _ (((topAt W l.1 + 1).toNat, l.2) :: axes W done)
    rw [Ga, pr_prod, Nat.mul_comm (topAt W l.1 + 1).toNat]
    constructor
    · rintro ⟨⟨h1, h2⟩, h3⟩
      exact ⟨h2, h1, h3⟩
    · rintro ⟨h2, h1, h3⟩
      exact ⟨⟨h1, h2⟩, h3⟩
theorem axes_ok {W : Web} (ok : W.Ok) (f : Int) : AxOk (axes W (looksOf W f)) := by
  intro a ha
  obtain ⟨l, hl, rfl⟩ := List.mem_map.mp ha
  have h := looksOf_ok ok l hl
  have := topAt_ok ok h.1.1 h.1.2
  exact ⟨by show 0 < (topAt W l.1 + 1).toNat; omega, h.2⟩
/-- what is a table -/
theorem isTable_iff {W : Web} (ok : W.Ok) {f : Int} {tb : List Int} : isTable W f tb = true ↔ tb.length = pr (axes W (looksOf W f)) ∧ (∀ m ∈ tb, 0 ≤ m ∧ m ≤ topAt W f) ∧ Al (axes W (looksOf W f)) fun p => tb.getD p 0 := by
  unfold isTable
  rw [Bool.and_eq_true, Bool.and_eq_true, many_eq ok, decide_eq_true_iff, List.all_eq_true, ← pr_prod]
  have hb : (∀ x ∈ tb, isWhole x 0 (topAt W f) = true) ↔ ∀ m ∈ tb, 0 ≤ m ∧ m ≤ topAt W f := by
    unfold isWhole
    simp only [Bool.and_eq_true, decide_eq_true_iff]
  rw [hb]
  have hl := loop_ga (W := W) (tb := tb) (looksOf W f).reverse []
  rw [List.reverse_reverse, List.append_nil] at hl
  have hl2 : goLoop W tb (looksOf W f).reverse 1 = true ↔ Ga (fun p => tb.getD p 0) tb.length (axes W (looksOf W f)) := by
    rw [← hl]
    exact ⟨fun h => ⟨h, trivial⟩, fun h => h.1⟩
  rw [hl2]
  constructor
  · rintro ⟨⟨h1, h2⟩, h3⟩
    have h1 : tb.length = pr (axes W (looksOf W f)) := by omega
    rw [h1, ga_al (axes_ok ok f)] at h3
    exact ⟨h1, h2, h3⟩
  · rintro ⟨h1, h2, h3⟩
    rw [h1, ga_al (axes_ok ok f)]
    exact ⟨⟨rfl, h2⟩, h3⟩
theorem step_rws (W : Web) : ∀ (ls : List (Int × Int)) (rows : List (List Int)), (ls.map fun l => topAt W l.1).foldl rowsStep rows = rows.flatMap fun q => (rws (axes W ls)).map fun b => q ++ b
  | [], rows => by simp [axes, rws]
  | l :: ls, rows => by
    rw [List.map_cons, List.foldl_cons, step_rws W ls]
    unfold rowsStep
    rw [List.flatMap_assoc]
    congr 1
    funext q
    show _ = List.map _ (rws (((topAt W l.1 + 1).toNat, l.2) :: axes W ls))
    rw [rws_cons]
    unfold moods
    rw [List.map_flatMap, List.flatMap_map, List.flatMap_map]
    congr 1
    funext x
    rw [List.map_map]
    congr 1
    funext b
    simp
theorem rowsAt_rws (W : Web) (f : Int) : rowsAt W f = rws (axes W (looksOf W f)) := by
  unfold rowsAt rowsOf
  rw [step_rws]
  simp
theorem place_step (W : Web) (st : List Int) : ∀ (ls : List (Int × Int)) (p : Int), (∀ l ∈ ls, 0 ≤ topAt W l.1) → ls.foldl (placeStep W st) p = p * (pr (axes W ls) : Nat) + ls.foldl (placeStep W st) 0
  | [], p, _ => by simp [axes, pr]
  | l :: ls, p, h => by
    have h1 := h l (List.mem_cons_self ..)
    have h2 : ∀ l ∈ ls, 0 ≤ topAt W l.1 := fun x hx => h x (List.mem_cons_of_mem _ hx)
    rw [List.foldl_cons, List.foldl_cons, place_step W st ls _ h2, place_step W st ls (placeStep W st 0 l) h2]
    show _ = p * ((((topAt W l.1 + 1).toNat * pr (axes W ls) : Nat)) : Int) + _
    rw [Int.natCast_mul, show (((topAt W l.1 + 1).toNat : Nat) : Int) = topAt W l.1 + 1 by omega]
    unfold placeStep
    rw [Int.zero_mul, Int.zero_add, Int.add_mul, Int.mul_assoc, Int.add_assoc]
/-- the place of a row -/
theorem place_row {W : Web} {st : List Int} : ∀ {ls : List (Int × Int)}, (∀ l ∈ ls, 0 ≤ stAt st l.1 ∧ stAt st l.1 ≤ topAt W l.1) → 0 ≤ ls.foldl (placeStep W st) 0 ∧ (rws (axes W ls))[(ls.foldl (placeStep W st) 0).toNat]? = some (ls.map fun l => stAt st l.1)
  | [], _ => ⟨Int.le_refl _, rfl⟩
  | l :: ls, h => by
    have h1 := h l (List.mem_cons_self ..)
    obtain ⟨i0, i1⟩ := place_row (W := W) (st := st) (ls := ls) fun x hx => h x (List.mem_cons_of_mem _ hx)
    have ht : ∀ l ∈ ls, 0 ≤ topAt W l.1 := fun x hx => by have := h x (List.mem_cons_of_mem _ hx); omega
    rw [List.foldl_cons, place_step W st ls _ ht]
    have e : placeStep W st 0 l = stAt st l.1 := by unfold placeStep; rw [Int.zero_mul, Int.zero_add]
    rw [e]
    have hm : 0 ≤ stAt st l.1 * ((pr (axes W ls) : Nat) : Int) := Int.mul_nonneg h1.1 (Int.natCast_nonneg _)
    refine ⟨by omega, ?_⟩
    have e2 : (stAt st l.1 * ((pr (axes W ls) : Nat) : Int) + ls.foldl (placeStep W st) 0).toNat = (stAt st l.1).toNat * pr (axes W ls) + (ls.foldl (placeStep W st) 0).toNat := by
      rw [Int.toNat_add hm i0, Int.toNat_mul h1.1 (Int.natCast_nonneg _), Int.toNat_natCast]
    rw [e2]
    show (rws (((topAt W l.1 + 1).toNat, l.2) :: axes W ls))[_]? = _
    rw [rws_at (a := ((topAt W l.1 + 1).toNat, l.2)) (x := (stAt st l.1).toNat) (by show _ < (topAt W l.1 + 1).toNat; omega) i1, List.map_cons]
    rw [show (((stAt st l.1).toNat : Nat) : Int) = stAt st l.1 by omega]
theorem max_sub {l m : List Int} (h : ∀ x ∈ l, x ∈ m) : maxOf l ≤ maxOf m := by
  obtain ⟨g1, g2⟩ := foldmax l 0
  obtain ⟨k1, k2⟩ := foldmax m 0
  refine k2 _ ?_
  rcases List.mem_cons.mp g1 with e | e
  · show maxOf l ∈ _
    unfold maxOf
    rw [e]
    exact List.mem_cons_self ..
  · exact List.mem_cons_of_mem _ (h _ e)
/-- a drawn table is one -/
theorem table_ok {W : Web} (ok : W.Ok) {f : Int} (hf : 0 ≤ f ∧ f < W.tops.length) {mks : List Mark} (hm : ∀ mk ∈ mks, mk.1 ∈ rowsAt W f ∧ 0 ≤ mk.2 ∧ mk.2 ≤ topAt W f) : isTable W f (tableOf (signsAt W f) (rowsAt W f) mks) = true := by
  have ht := topAt_ok ok hf.1 hf.2
  rw [isTable_iff ok]
  refine ⟨by unfold tableOf; rw [List.length_map, rowsAt_rws, rws_len], fun m h => ?_, fun p q xp xq h1 h2 g => ?_⟩
  · unfold tableOf at h
    obtain ⟨row, _, rfl⟩ := List.mem_map.mp h
    obtain ⟨g1, g2⟩ := foldmax ((mks.filter fun mk => lawGoes (signsAt W f) mk.1 row).map (·.2)) 0
    refine ⟨g2 0 (List.mem_cons_self ..), ?_⟩
    rcases List.mem_cons.mp g1 with e | e
    · show maxOf _ ≤ _
      unfold maxOf
      rw [e]
      omega
    · obtain ⟨mk, hmk, e⟩ := List.mem_map.mp e
      show maxOf _ ≤ _
      unfold maxOf
      rw [← e]
      exact (hm mk (List.mem_filter.mp hmk).1).2.2
  · rw [← rowsAt_rws] at h1 h2
    have at_ : ∀ {p : Nat} {xp : List Int}, (rowsAt W f)[p]? = some xp → (tableOf (signsAt W f) (rowsAt W f) mks).getD p 0 = maxOf ((mks.filter fun mk => lawGoes (signsAt W f) mk.1 xp).map (·.2)) := fun {p xp} h => by
      unfold tableOf
      rw [List.getD_eq_getElem?_getD, List.getElem?_map, h]
      rfl
    show (tableOf (signsAt W f) (rowsAt W f) mks).getD p 0 ≤ (tableOf (signsAt W f) (rowsAt W f) mks).getD q 0
    rw [at_ h1, at_ h2]
    refine max_sub fun x hx => ?_
    obtain ⟨mk, hmk, rfl⟩ := List.mem_map.mp hx
    obtain ⟨m1, m2⟩ := List.mem_filter.mp hmk
    refine List.mem_map.mpr ⟨mk, List.mem_filter.mpr ⟨m1, ?_⟩, rfl⟩
    have es : (axes W (looksOf W f)).map (·.2) = signsAt W f := by
      unfold axes signsAt
      rw [List.map_map]
      rfl
    rw [es] at g
    refine goes_trans _ _ xp _ (signs_ok ok) ?_ m2 g
    rw [rowsAt_row (List.mem_of_getElem? h1)]
    unfold signsAt
    rw [List.length_map]
end Lk

/-! ## RM -/
set_option Elab.async false
set_option linter.all false
/-! Rings of looks, as data: the paths level by level; what they are. -/
namespace Lk
theorem nodup_le {α : Type} [DecidableEq α] : ∀ (l D : List α), l.Nodup → (∀ x ∈ l, x ∈ D) → l.length ≤ D.length
  | [], D, _, _ => Nat.zero_le _
  | x :: l, D, nd, h => by
    obtain ⟨n1, n2⟩ := List.nodup_cons.mp nd
    have hx : x ∈ D := h x (List.mem_cons_self ..)
    have ih := nodup_le l (D.erase x) n2 fun y hy => by
      have ne : y ≠ x := fun e => n1 (e ▸ hy)
      exact (List.mem_erase_of_ne ne).mpr (h y (List.mem_cons_of_mem _ hy))
    rw [List.length_erase_of_mem hx] at ih
    have : 0 < D.length := List.length_pos_of_mem hx
    rw [List.length_cons]
    omega
/-- the whole numbers from a, below b -/
def nums (a b : Int) : List Int := (List.range (b - a).toNat).map fun i : Nat => a + (i : Int)
theorem nums_len (a b : Int) : (nums a b).length = (b - a).toNat := by unfold nums; rw [List.length_map, List.length_range]
theorem mem_nums {a b x : Int} : x ∈ nums a b ↔ a ≤ x ∧ x < b := by
  unfold nums
  rw [List.mem_map]
  constructor
  · rintro ⟨i, hi, rfl⟩
    have := List.mem_range.mp hi
    omega
  · rintro ⟨h1, h2⟩
    exact ⟨(x - a).toNat, List.mem_range.mpr (by omega), by omega⟩
theorem nums_get {a b : Int} {i : Nat} (h : i < (b - a).toNat) : (nums a b)[i]? = some (a + (i : Int)) := by
  unfold nums
  rw [List.getElem?_map, List.getElem?_range h] <;> rfl
theorem nums_cons {a b : Int} (h : a < b) : nums a b = a :: nums (a + 1) b := by
  unfold nums
  have e : (b - a).toNat = (b - (a + 1)).toNat + 1 := by omega
  rw [e, List.range_succ_eq_map, List.map_cons, List.map_map]
  congr 1
  · simp
  · refine List.map_congr_left fun i _ => ?_
    show a + ((i + 1 : Nat) : Int) = a + 1 + (i : Int)
    omega
theorem nums_nil {a b : Int} (h : b ≤ a) : nums a b = [] := by
  unfold nums
  have e : (b - a).toNat = 0 := by omega
  rw [e] <;> rfl
/-- the greater ones alone -/
theorem nums_over {q : Int → Bool} {h b : Int} : ∀ (n : Nat) {a : Int}, (h + 1 - a).toNat = n → a ≤ h + 1 → (nums a b).filter (fun x => q x && decide (h < x)) = (nums (h + 1) b).filter q
  | 0, a, e, l => by
    have ea : a = h + 1 := by omega
    subst ea
    refine List.filter_congr fun x hx => ?_
    have := (mem_nums.mp hx).1
    rw [decide_eq_true (show h < x by omega), Bool.and_true]
  | n + 1, a, e, l => by
    by_cases hab : a < b
    · rw [nums_cons hab, List.filter_cons]
      have : decide (h < a) = false := decide_eq_false (by omega)
      rw [this, Bool.and_false]
      simp only [Bool.false_eq_true, if_false]
      exact nums_over n (by omega) (by omega)
    · rw [nums_nil (by omega), nums_nil (by omega)] <;> rfl
/-! ### looks by their numbers -/
def lookN (ls : List (Int × Int × Int)) (n : Int) : Int × Int × Int := ls.getD n.toNat (0, 0, 0)
/-- at whom, who, the sign -/
def lkd (ls : List (Int × Int × Int)) (n : Int) : Int := (lookN ls n).1
def lkr (ls : List (Int × Int × Int)) (n : Int) : Int := (lookN ls n).2.1
def lks (ls : List (Int × Int × Int)) (n : Int) : Int := (lookN ls n).2.2
theorem lookN_get {ls : List (Int × Int × Int)} {n : Int} (h0 : 0 ≤ n) (h : n < ls.length) : ls[n.toNat]? = some (lookN ls n) := by
  unfold lookN
  rw [List.getD_eq_getElem?_getD, List.getElem?_eq_getElem (by omega)] <;> rfl
theorem lookN_mem {ls : List (Int × Int × Int)} {n : Int} (h0 : 0 ≤ n) (h : n < ls.length) : lookN ls n ∈ ls := List.mem_of_getElem? (lookN_get h0 h)
def closesP (ls : List (Int × Int × Int)) (p : List Int) : Bool := lkr ls (p.getLastD 0) == lkd ls (p.headD 0)
def goesOnP (ls : List (Int × Int × Int)) (p : List Int) (n : Int) : Bool := lkd ls n == lkr ls (p.getLastD 0) && !((p.map (lkr ls)).contains (lkr ls n))
def longer (ls : List (Int × Int × Int)) (p : List Int) : List (List Int) := if closesP ls p = true then [] else ((nums (p.headD 0 + 1) ls.length).filter (goesOnP ls p)).map fun n => p ++ [n]
def level (ls : List (Int × Int × Int)) : Nat → List (List Int)
  | 0 => (nums 0 ls.length).map fun n => [n]
  | k + 1 => (level ls k).flatMap (longer ls)
def foundN (ls : List (Int × Int × Int)) : Nat → List (List Int)
  | 0 => []
  | k + 1 => foundN ls k ++ (level ls k).filter (closesP ls)
/-- all rings, not yet sorted -/
def ringsRaw (ls : List (Int × Int × Int)) : List (List Int) := foundN ls 7
/-- a path: numbers of looks, the first the least, each one's looker the one at whom the next one looks, through unlike folk -/
structure PathOk (ls : List (Int × Int × Int)) (p : List Int) : Prop where
  ne : p ≠ []
  num : ∀ n ∈ p, 0 ≤ n ∧ n < ls.length
  nd : (p.map (lkr ls)).Nodup
  least : ∀ n ∈ p, p.headD 0 ≤ n
  chain : ∀ (i : Nat) (a b : Int), p[i]? = some a → p[i + 1]? = some b → lkr ls a = lkd ls b
theorem headD_app {p : List Int} {x : List Int} (h : p ≠ []) : (p ++ x).headD 0 = p.headD 0 := by
  cases p with
  | nil => exact absurd rfl h
  | cons a b => rfl
theorem getLastD_app {p : List Int} {n : Int} : (p ++ [n]).getLastD 0 = n := by simp [List.getLastD_eq_getLast?]
theorem getLastD_get {p : List Int} (h : p ≠ []) : p[p.length - 1]? = some (p.getLastD 0) := by
  rw [List.getLastD_eq_getLast?, List.getLast?_eq_getElem?]
  have : 0 < p.length := List.length_pos_iff.mpr h
  rw [List.getElem?_eq_getElem (by omega)] <;> rfl
theorem getLastD_mem {p : List Int} (h : p ≠ []) : p.getLastD 0 ∈ p := List.mem_of_getElem? (getLastD_get h)
theorem headD_mem {p : List Int} (h : p ≠ []) : p.headD 0 ∈ p := by
  cases p with
  | nil => exact absurd rfl h
  | cons a b => exact List.mem_cons_self ..
theorem path_one {ls : List (Int × Int × Int)} {n : Int} (h : 0 ≤ n ∧ n < ls.length) : PathOk ls [n] :=
  ⟨by simp, fun m hm => by rw [List.mem_singleton.mp hm]; exact h, by simp, fun m hm => by rw [List.mem_singleton.mp hm]; exact Int.le_refl _, fun i a b h1 h2 => by simp at h2⟩
theorem path_more {ls : List (Int × Int × Int)} {p : List Int} {n : Int} (ok : PathOk ls p) (hn : p.headD 0 + 1 ≤ n ∧ n < ls.length) (g : goesOnP ls p n = true) : PathOk ls (p ++ [n]) := by
  obtain ⟨g1, g2⟩ := Bool.and_eq_true_iff.mp g
  have g1 : lkd ls n = lkr ls (p.getLastD 0) := beq_iff_eq.mp g1
  have g2 : lkr ls n ∉ p.map (lkr ls) := by
    intro z
    rw [Bool.not_eq_true', ← Bool.not_eq_true] at g2
    exact g2 (List.contains_iff_mem.mpr z)
  have h0 := ok.num _ (headD_mem ok.ne)
  refine ⟨by simp, fun m hm => ?_, ?_, fun m hm => ?_, fun i a b h1 h2 => ?_⟩
  · rcases List.mem_append.mp hm with q | q
    · exact ok.num m q
    · rw [List.mem_singleton.mp q]
      exact ⟨by omega, hn.2⟩
  · rw [List.map_append, List.map_singleton]
    refine List.nodup_append.mpr ⟨ok.nd, by simp, fun a ha b hb => ?_⟩
    rw [List.mem_singleton.mp hb]
    intro e
    exact g2 (e ▸ ha)
  · rw [headD_app ok.ne]
    rcases List.mem_append.mp hm with q | q
    · exact ok.least m q
    · rw [List.mem_singleton.mp q]
      omega
  · by_cases hi : i + 1 < p.length
    · rw [List.getElem?_append_left (by omega)] at h1
      rw [List.getElem?_append_left hi] at h2
      exact ok.chain i a b h1 h2
    · have hl : i + 1 = p.length := by
        have := (List.getElem?_eq_some_iff.mp h2).1
        rw [List.length_append, List.length_singleton] at this
        omega
      rw [List.getElem?_append_right (by omega), hl, Nat.sub_self] at h2
      rw [List.getElem?_append_left (by omega)] at h1
      have e1 := getLastD_get ok.ne
      rw [show p.length - 1 = i by omega, h1] at e1
      have eb : n = b := by simpa using h2
      rw [Option.some.inj e1, ← eb]
      exact g1.symm
theorem longer_mem {ls : List (Int × Int × Int)} {p q : List Int} (h : q ∈ longer ls p) : closesP ls p = false ∧ ∃ n, q = p ++ [n] ∧ (p.headD 0 + 1 ≤ n ∧ n < ls.length) ∧ goesOnP ls p n = true := by
  unfold longer at h
  by_cases c : closesP ls p = true
  · rw [if_pos c] at h
    simp at h
  · rw [if_neg c] at h
    obtain ⟨n, hn, rfl⟩ := List.mem_map.mp h
    obtain ⟨h1, h2⟩ := List.mem_filter.mp hn
    exact ⟨by simpa using c, n, rfl, mem_nums.mp h1, h2⟩
theorem level_ok {ls : List (Int × Int × Int)} : ∀ (k : Nat) {p : List Int}, p ∈ level ls k → PathOk ls p ∧ p.length = k + 1
  | 0, p, h => by
    obtain ⟨n, hn, rfl⟩ := List.mem_map.mp h
    exact ⟨path_one (mem_nums.mp hn), rfl⟩
  | k + 1, p, h => by
    obtain ⟨q, hq, hp⟩ := List.mem_flatMap.mp h
    obtain ⟨ok, hl⟩ := level_ok k hq
    obtain ⟨_, n, rfl, hn, g⟩ := longer_mem hp
    exact ⟨path_more ok hn g, by rw [List.length_append, hl]; rfl⟩
theorem level_none {ls : List (Int × Int × Int)} {m : Nat} (hm : ∀ l ∈ ls, 0 ≤ l.2.1 ∧ l.2.1 < (m : Int)) {k : Nat} (hk : m ≤ k) : level ls k = [] := by
  cases e : level ls k with
  | nil => rfl
  | cons p r =>
    obtain ⟨ok, hl⟩ := level_ok (ls := ls) k (p := p) (by rw [e]; exact List.mem_cons_self ..)
    have := nodup_le (p.map (lkr ls)) (nums 0 m) ok.nd fun x hx => by
      obtain ⟨n, hn, rfl⟩ := List.mem_map.mp hx
      obtain ⟨h0, h1⟩ := ok.num n hn
      exact mem_nums.mpr (hm _ (lookN_mem h0 h1))
    rw [List.length_map, nums_len, hl] at this
    omega
theorem filter_len_le {α : Type} (p : α → Bool) (l : List α) : (l.filter p).length ≤ l.length := List.length_filter_le _ _
theorem longer_len (ls : List (Int × Int × Int)) (p : List Int) (h : 0 ≤ p.headD 0 ∨ True) (h14 : ls.length ≤ 14) (h0 : 0 ≤ p.headD 0) : (longer ls p).length ≤ 14 := by
  unfold longer
  split
  · exact Nat.zero_le _
  · rw [List.length_map]
    refine Nat.le_trans (List.length_filter_le _ _) ?_
    rw [nums_len]
    omega
theorem flatMap_len {α β : Type} {f : α → List β} {c : Nat} : ∀ {l : List α}, (∀ x ∈ l, (f x).length ≤ c) → (l.flatMap f).length ≤ c * l.length
  | [], _ => by simp
  | x :: l, h => by
    rw [List.flatMap_cons, List.length_append, List.length_cons]
    have h1 := h x (List.mem_cons_self ..)
    have h2 := flatMap_len (l := l) fun y hy => h y (List.mem_cons_of_mem _ hy)
    rw [Nat.mul_succ]
    omega
theorem level_len {ls : List (Int × Int × Int)} (h14 : ls.length ≤ 14) : ∀ k : Nat, (level ls k).length ≤ 14 ^ (k + 1)
  | 0 => by
    show ((nums 0 ls.length).map fun n => [n]).length ≤ 14 ^ (0 + 1)
    rw [List.length_map, nums_len]
    omega
  | k + 1 => by
    have h := flatMap_len (f := longer ls) (c := 14) (l := level ls k) fun p hp => longer_len ls p (.inr trivial) h14 ((level_ok k hp).1.num _ (headD_mem (level_ok k hp).1.ne)).1
    have h2 := level_len h14 k
    show ((level ls k).flatMap (longer ls)).length ≤ 14 ^ (k + 1 + 1)
    rw [Nat.pow_succ]
    omega
theorem level_small {ls : List (Int × Int × Int)} (h14 : ls.length ≤ 14) (hm : ∀ l ∈ ls, 0 ≤ l.2.1 ∧ l.2.1 < (6 : Int)) (k : Nat) : (level ls k).length ≤ 7529536 := by
  by_cases hk : 6 ≤ k
  · rw [level_none (m := 6) hm hk]
    exact Nat.zero_le _
  · have h := level_len h14 k
    have h2 : 14 ^ (k + 1) ≤ 14 ^ 6 := Nat.pow_le_pow_right (by decide) (by omega)
    exact Nat.le_trans h h2
theorem found_small {ls : List (Int × Int × Int)} (h14 : ls.length ≤ 14) (hm : ∀ l ∈ ls, 0 ≤ l.2.1 ∧ l.2.1 < (6 : Int)) : ∀ k : Nat, (foundN ls k).length ≤ 8108730
  | 0 => Nat.zero_le _
  | 1 => by
    have := level_len h14 0
    have h2 := List.length_filter_le (closesP ls) (level ls 0)
    show ([] ++ (level ls 0).filter (closesP ls)).length ≤ _
    rw [List.nil_append]
    omega
  | k + 2 => by
    have key : ∀ k, (foundN ls k).length ≤ if k = 0 then 0 else if k = 1 then 14 else if k = 2 then 210 else if k = 3 then 2954 else if k = 4 then 41370 else if k = 5 then 579194 else 8108730 := by
      intro k
      induction k with
      | zero => exact Nat.zero_le _
      | succ k ih =>
        have h1 := level_len h14 k
        have h2 := List.length_filter_le (closesP ls) (level ls k)
        have e : (foundN ls (k + 1)).length = (foundN ls k).length + ((level ls k).filter (closesP ls)).length := by
          show (foundN ls k ++ _).length = _
          rw [List.length_append]
        rw [e]
        rcases (by omega : k = 0 ∨ k = 1 ∨ k = 2 ∨ k = 3 ∨ k = 4 ∨ k = 5 ∨ 6 ≤ k) with z | z | z | z | z | z | z
        · subst z; have z0 : (foundN ls 0).length = 0 := rfl; simp at h1 ⊢; omega
        · subst z; simp at ih h1 ⊢; omega
        · subst z; simp at ih h1 ⊢; omega
        · subst z; simp at ih h1 ⊢; omega
        · subst z; simp at ih h1 ⊢; omega
        · subst z; simp at ih h1 ⊢; omega
        · rw [level_none (m := 6) hm z] at h2 ⊢
          simp at ih ⊢
          split at ih <;> (try split at ih) <;> (try split at ih) <;> (try split at ih) <;> (try split at ih) <;> (try split at ih) <;> (try split) <;> (try split) <;> (try split) <;> (try split) <;> (try split) <;> omega
    have := key (k + 2)
    refine Nat.le_trans this ?_
    repeat' split
    all_goals omega
theorem found_end {ls : List (Int × Int × Int)} {k : Nat} (h : level ls k = []) : ∀ j, foundN ls (k + j) = foundN ls k
  | 0 => rfl
  | j + 1 => by
    have hz : ∀ j, level ls (k + j) = [] := fun j => by
      induction j with
      | zero => exact h
      | succ j ih =>
        show (level ls (k + j)).flatMap (longer ls) = []
        rw [ih] <;> rfl
    show foundN ls (k + j) ++ (level ls (k + j)).filter (closesP ls) = _
    rw [hz j, found_end h j]
    simp
theorem found_all {ls : List (Int × Int × Int)} {k : Nat} (h : level ls k = []) (hk : k ≤ 7) : foundN ls k = ringsRaw ls := by
  have := found_end h (7 - k)
  rw [show k + (7 - k) = 7 by omega] at this
  exact this.symm
theorem found_mem {ls : List (Int × Int × Int)} : ∀ {k : Nat} {p : List Int}, p ∈ foundN ls k → ∃ j, j < k ∧ p ∈ level ls j ∧ closesP ls p = true
  | 0, p, h => by simp [foundN] at h
  | k + 1, p, h => by
    rcases List.mem_append.mp (show p ∈ foundN ls k ++ (level ls k).filter (closesP ls) from h) with q | q
    · obtain ⟨j, a, b⟩ := found_mem q
      exact ⟨j, by omega, b⟩
    · obtain ⟨a, b⟩ := List.mem_filter.mp q
      exact ⟨k, by omega, a, b⟩
theorem raw_ok {ls : List (Int × Int × Int)} {p : List Int} (h : p ∈ ringsRaw ls) : PathOk ls p ∧ closesP ls p = true ∧ p.length ≤ 7 := by
  obtain ⟨j, hj, a, b⟩ := found_mem (k := 7) h
  obtain ⟨ok, hl⟩ := level_ok j a
  exact ⟨ok, b, by omega⟩
/-- a ring twice over is none -/
theorem raw_twice {ls : List (Int × Int × Int)} {p : List Int} (h : p ≠ []) : p ++ p ∉ ringsRaw ls := fun z => by
  have nd := (raw_ok z).1.nd
  rw [List.map_append] at nd
  have := (List.nodup_append.mp nd).2.2 (lkr ls (p.headD 0)) (List.mem_map.mpr ⟨_, headD_mem h, rfl⟩) _ (List.mem_map.mpr ⟨_, headD_mem h, rfl⟩)
  exact this rfl
/-! ### signs -/
def prodS (ls : List (Int × Int × Int)) (p : List Int) : Int := p.foldl (fun a n => a * lks ls n) 1
def evenP (ls : List (Int × Int × Int)) (p : List Int) : Bool := (p.filter fun n => lks ls n == -1).length % 2 == 0
theorem prod_fold {ls : List (Int × Int × Int)} : ∀ (p : List Int) (a : Int), (a = 1 ∨ a = -1) → (∀ n ∈ p, lks ls n = 1 ∨ lks ls n = -1) →
    p.foldl (fun a n => a * lks ls n) a = a * (if (p.filter fun n => lks ls n == -1).length % 2 = 0 then 1 else -1)
  | [], a, _, _ => by simp
  | n :: p, a, ha, h => by
    have hn := h n (List.mem_cons_self ..)
    rw [List.foldl_cons, prod_fold p (a * lks ls n) (by rcases ha with e | e <;> rcases hn with f | f <;> rw [e, f] <;> simp) fun m hm => h m (List.mem_cons_of_mem _ hm), List.filter_cons]
    rcases hn with f | f
    · rw [f]
      simp
    · rw [f]
      simp only [beq_self_eq_true, if_true, List.length_cons]
      by_cases e : (p.filter fun n => lks ls n == -1).length % 2 = 0
      · rw [if_pos e, if_neg (by omega)]
        omega
      · rw [if_neg e, if_pos (by omega)]
        omega
theorem prod_even {ls : List (Int × Int × Int)} {p : List Int} (h : ∀ n ∈ p, lks ls n = 1 ∨ lks ls n = -1) : prodS ls p = if evenP ls p = true then 1 else -1 := by
  unfold prodS
  rw [prod_fold p 1 (.inl rfl) h, Int.one_mul]
  unfold evenP
  by_cases e : (p.filter fun n => lks ls n == -1).length % 2 = 0
  · rw [if_pos e, e] <;> rfl
  · rw [if_neg e, if_neg (by simpa using e)]
end Lk

/-! ## Lcg -/
set_option Elab.async false
set_option linter.all false
set_option maxRecDepth 100000
set_option maxHeartbeats 2000000
/-! Comprehensions told by a function of what their source holds. -/
namespace Lk
open PySem PySem.Spec PyProof.Rows L2 Gx
variable [Own]
/-- what is told of a value stays told in heaps that have grown, and behind a write at a list -/
structure Stays {α : Type} (S : Hp → V → α → Prop) : Prop where
  ext : ∀ {H H' : Hp} {v : V} {a : α}, Ext H H' → S H v a → S H' v a
  put : ∀ {H : Hp} {D : Addr} {acc : List V} {o : HO} {v : V} {a : α}, H D = some (.lst acc) → S H v a → S (upd H D o) v a
theorem stTI : Stays TI := ⟨fun e h => h.ext e, fun {H D acc o v a} hD h => by
  obtain ⟨z, rfl, hz⟩ := h
  exact ⟨z, rfl, by rw [upd_ne (ne_of hD hz (by intro q; cases q)).symm]; exact hz⟩⟩
/-- an int -/
def VI : Hp → V → Int → Prop := fun _ v n => v = .int n
theorem stVI : Stays VI := ⟨fun _ h => h, fun _ h => h⟩
theorem pVI {H : Hp} : ∀ {vs : List V} {ns : List Int}, Paired (VI H) vs ns → vs = iv ns
  | _, _, .nil => rfl
  | _, _, .cons h t => by rw [show _ = _ from h, pVI t] <;> rfl
theorem iv_pVI {H : Hp} : ∀ ns : List Int, Paired (VI H) (iv ns) ns
  | [] => .nil
  | n :: ns => .cons rfl (iv_pVI ns)
/-- any value, told by nothing but itself -/
def VV : Hp → V → V → Prop := fun _ v w => v = w
theorem stVV : Stays VV := ⟨fun _ h => h, fun _ h => h⟩
theorem pVV {H : Hp} : ∀ {vs ws : List V}, Paired (VV H) vs ws → vs = ws
  | _, _, .nil => rfl
  | _, _, .cons h t => by rw [show _ = _ from h, pVV t]
theorem vv_p {H : Hp} : ∀ vs : List V, Paired (VV H) vs vs
  | [] => .nil
  | _ :: vs => .cons rfl (vv_p vs)
theorem filterMap_take {α β : Type} {f : α → Option β} {l : List α} {i : Nat} {x : α} (h : l[i]? = some x) : (l.take (i + 1)).filterMap f = (l.take i).filterMap f ++ (match f x with | some y => [y] | none => []) := by
  rw [take_snoc h, List.filterMap_append]
  congr 1
  cases e : f x <;> simp [e]
theorem lc_fm {J : It} {n : Nat} {G : Hp → Prop} {Y : Nat → Hp → V → Hp → Prop} (w : Walk J n G Y) {α β : Type} {R : Hp → V → α → Prop} {S : Hp → V → β → Prop} (st : Stays S) {bs : List α} {g : TG} {tt : TT} {te : TE} {vs : List Nat} {σ : L2.St} {H1 : Hp} {D : Addr} {Qd : Hp → Prop}
    (f : α → Option β) (hD : H1 D = none) (few : n ≤ sizeLine) (hn : bs.length = n) (hG : ∀ H', Ext H1 H' → G H') (hY : ∀ i H x H', Ext H1 H → i < n → Y i H x H' → H' = H ∧ ∃ b, bs[i]? = some b ∧ R H x b)
    (hs : ∀ x b H' (Ky : V → Hp → Prop) (Kn : Hp → Prop), Ext H1 H' → b ∈ bs → R H' x b → (∀ y r H4, f b = some r → Ext H' H4 → S H4 y r → Ky y H4) → (∀ H3, f b = none → Ext H' H3 → Kn H3) →
      g x (wipe σ vs) H' fun σ2 H2 => wipe σ2 vs = wipe σ vs ∧ tt σ2 H2 fun c H3 => if c = true then te σ2 H3 Ky else Kn H3)
    (hd : ∀ H' acc, Ext H1 H' → H' D = some (.lst acc) → Paired (S H') acc (bs.filterMap f) → Qd H') :
    ∃ W : Nat → Nat → Hp → Prop, (∃ m, W 0 m (upd H1 D (.lst []))) ∧ ∀ i m H, W i m H →
      (J.stop i H ∧ Qd H) ∨ (J.go i H ∧ ∃ Nx : Hp → Prop, (∀ H', Nx H' → ∃ m', m' < m ∧ W (i + 1) m' H') ∧ ∀ x H', J.yld i H x H' → g x (wipe σ vs) H' fun σ2 H2 => wipe σ2 vs = wipe σ vs ∧ tt σ2 H2 fun b H3 =>
        if b = true then te σ2 H3 fun y H4 => ∃ acc, H4 D = some (.lst acc) ∧ acc.length < sizeLine ∧ Nx (upd H4 D (.lst (acc ++ [y]))) else Nx H3) := by
  refine lc_walk w (fun i H' => ∃ acc, H' D = some (.lst acc) ∧ Ext H1 H' ∧ acc.length ≤ i ∧ Paired (S H') acc ((bs.take i).filterMap f)) ⟨[], upd_same, Ext.new hD _, Nat.le_refl _, .nil⟩ (fun i H' _ ⟨_, _, e, _⟩ => hG H' e) (fun i x H' H2 hi ⟨acc, hacc, e, hl, hp⟩ y => ?_) fun H' ⟨acc, hacc, e, hl, hp⟩ => ?_
  · obtain ⟨rfl, b, hb, hr⟩ := hY i H' x H2 e hi y
    refine hs x b _ _ _ e (List.mem_of_getElem? hb) hr (fun y r H4 hf e4 hy => ?_) fun H3 hf e3 => ?_
    · have h4 := e4.lst hacc
      refine ⟨acc, h4, by omega, acc ++ [y], upd_same, (e.trans e4).put hD _, by rw [List.length_append]; simp; omega, ?_⟩
      rw [filterMap_take hb, hf]
      exact paired_snoc (st.put h4 hy) (paired_mono (fun v a h => st.put h4 (st.ext e4 h)) hp)
    · refine ⟨acc, e3.lst hacc, e.trans e3, by omega, ?_⟩
      rw [filterMap_take hb, hf]
      show Paired _ _ (_ ++ [])
      rw [List.append_nil]
      exact paired_mono (fun v a h => st.ext e3 h) hp
  · refine hd H' acc e hacc ?_
    rw [← hn, List.take_length] at hp
    exact hp
section
variable {K : PySem.W.Frag} {a : Addr} {xs : List V} {α β : Type} {R : Hp → V → α → Prop} {S : Hp → V → β → Prop} {bs : List α} {g : TG} {tt : TT} {te : TE} {vs : List Nat} {σ : L2.St} {H1 : Hp} {D : Addr} {Qd : Hp → Prop}
/-- over a list -/
theorem lc_fmL (sr : Stays R) (st : Stays S) (f : α → Option β) (hD : H1 D = none) (hx : H1 a = some (.lst xs)) (hp : Paired (R H1) xs bs) (few : xs.length ≤ sizeLine)
    (hs : ∀ x b H' (Ky : V → Hp → Prop) (Kn : Hp → Prop), Ext H1 H' → b ∈ bs → R H' x b → (∀ y r H4, f b = some r → Ext H' H4 → S H4 y r → Ky y H4) → (∀ H3, f b = none → Ext H' H3 → Kn H3) →
      g x (wipe σ vs) H' fun σ2 H2 => wipe σ2 vs = wipe σ vs ∧ tt σ2 H2 fun c H3 => if c = true then te σ2 H3 Ky else Kn H3)
    (hd : ∀ H' acc, Ext H1 H' → H' D = some (.lst acc) → Paired (S H') acc (bs.filterMap f) → Qd H') :
    ∃ W : Nat → Nat → Hp → Prop, (∃ m, W 0 m (upd H1 D (.lst []))) ∧ ∀ i m H, W i m H →
      ((Itl K a).stop i H ∧ Qd H) ∨ ((Itl K a).go i H ∧ ∃ Nx : Hp → Prop, (∀ H', Nx H' → ∃ m', m' < m ∧ W (i + 1) m' H') ∧ ∀ x H', (Itl K a).yld i H x H' → g x (wipe σ vs) H' fun σ2 H2 => wipe σ2 vs = wipe σ vs ∧ tt σ2 H2 fun b H3 =>
        if b = true then te σ2 H3 fun y H4 => ∃ acc, H4 D = some (.lst acc) ∧ acc.length < sizeLine ∧ Nx (upd H4 D (.lst (acc ++ [y]))) else Nx H3) :=
  lc_fm (walk_list (K := K) (a := a) (xs := xs)) st f hD few (paired_len hp).symm (fun H' e => SqL.of (e.lst hx)) (fun i H x H' e hi y => by
    obtain ⟨rfl, hx2⟩ := y
    obtain ⟨b, hb, hr⟩ := paired_get' hp hx2
    exact ⟨rfl, b, hb, sr.ext e hr⟩) hs hd
/-- over a tuple -/
theorem lc_fmT (sr : Stays R) (st : Stays S) (f : α → Option β) (hD : H1 D = none) (hx : H1 a = some (.tup xs)) (hp : Paired (R H1) xs bs) (few : xs.length ≤ sizeLine)
    (hs : ∀ x b H' (Ky : V → Hp → Prop) (Kn : Hp → Prop), Ext H1 H' → b ∈ bs → R H' x b → (∀ y r H4, f b = some r → Ext H' H4 → S H4 y r → Ky y H4) → (∀ H3, f b = none → Ext H' H3 → Kn H3) →
      g x (wipe σ vs) H' fun σ2 H2 => wipe σ2 vs = wipe σ vs ∧ tt σ2 H2 fun c H3 => if c = true then te σ2 H3 Ky else Kn H3)
    (hd : ∀ H' acc, Ext H1 H' → H' D = some (.lst acc) → Paired (S H') acc (bs.filterMap f) → Qd H') :
    ∃ W : Nat → Nat → Hp → Prop, (∃ m, W 0 m (upd H1 D (.lst []))) ∧ ∀ i m H, W i m H →
      ((Itt K a).stop i H ∧ Qd H) ∨ ((Itt K a).go i H ∧ ∃ Nx : Hp → Prop, (∀ H', Nx H' → ∃ m', m' < m ∧ W (i + 1) m' H') ∧ ∀ x H', (Itt K a).yld i H x H' → g x (wipe σ vs) H' fun σ2 H2 => wipe σ2 vs = wipe σ vs ∧ tt σ2 H2 fun b H3 =>
        if b = true then te σ2 H3 fun y H4 => ∃ acc, H4 D = some (.lst acc) ∧ acc.length < sizeLine ∧ Nx (upd H4 D (.lst (acc ++ [y]))) else Nx H3) :=
  lc_fm (walk_tup (K := K) (a := a) (xs := xs)) st f hD few (paired_len hp).symm (fun H' e => SqT.of (e.tup hx)) (fun i H x H' e hi y => by
    obtain ⟨rfl, hx2⟩ := y
    obtain ⟨b, hb, hr⟩ := paired_get' hp hx2
    exact ⟨rfl, b, hb, sr.ext e hr⟩) hs hd
end
section
variable {β : Type} {S : Hp → V → β → Prop} {g : TG} {tt : TT} {te : TE} {vs : List Nat} {σ : L2.St} {H1 : Hp} {D : Addr} {Qd : Hp → Prop}
/-- over a range -/
theorem lc_fmR {lo : Int} {n : Nat} (st : Stays S) (f : Int → Option β) (hD : H1 D = none) (few : n ≤ sizeLine)
    (hs : ∀ b H' (Ky : V → Hp → Prop) (Kn : Hp → Prop), Ext H1 H' → lo ≤ b → b < lo + n → (∀ y r H4, f b = some r → Ext H' H4 → S H4 y r → Ky y H4) → (∀ H3, f b = none → Ext H' H3 → Kn H3) →
      g (.int b) (wipe σ vs) H' fun σ2 H2 => wipe σ2 vs = wipe σ vs ∧ tt σ2 H2 fun c H3 => if c = true then te σ2 H3 Ky else Kn H3)
    (hd : ∀ H' acc, Ext H1 H' → H' D = some (.lst acc) → Paired (S H') acc ((nums lo (lo + n)).filterMap f) → Qd H') :
    ∃ W : Nat → Nat → Hp → Prop, (∃ m, W 0 m (upd H1 D (.lst []))) ∧ ∀ i m H, W i m H →
      ((Itr lo n).stop i H ∧ Qd H) ∨ ((Itr lo n).go i H ∧ ∃ Nx : Hp → Prop, (∀ H', Nx H' → ∃ m', m' < m ∧ W (i + 1) m' H') ∧ ∀ x H', (Itr lo n).yld i H x H' → g x (wipe σ vs) H' fun σ2 H2 => wipe σ2 vs = wipe σ vs ∧ tt σ2 H2 fun b H3 =>
        if b = true then te σ2 H3 fun y H4 => ∃ acc, H4 D = some (.lst acc) ∧ acc.length < sizeLine ∧ Nx (upd H4 D (.lst (acc ++ [y]))) else Nx H3) :=
  lc_fm (walk_range (lo := lo) (n := n)) (R := VI) (bs := nums lo (lo + n)) st f hD few (by rw [nums_len]; omega) (fun _ _ => trivial) (fun i H x H' e hi y => by
    obtain ⟨rfl, hx2⟩ := y
    refine ⟨rfl, lo + (i : Int), nums_get (by omega), hx2⟩) (fun x b H' Ky Kn e hb hr k1 k2 => by
    rw [show x = V.int b from hr]
    obtain ⟨b1, b2⟩ := mem_nums.mp hb
    exact hs b H' Ky Kn e b1 b2 k1 k2) hd
end
end Lk

/-! ## D50 -/
set_option Elab.async false
set_option linter.all false
set_option maxRecDepth 100000
set_option maxHeartbeats 2000000
namespace Lk
open PySem PySem.Spec PyProof.Rows L2 Gx
variable [Own]
theorem at_last {p : List Int} (h : p ≠ []) : atI (iv p) (-1) = some (.int (p.getLastD 0)) := by
  have hl : 0 < p.length := List.length_pos_iff.mpr h
  have e : ixN (iv p).length (-1) = some (p.length - 1) := by
    unfold ixN
    rw [iv_len]
    rw [if_neg (by omega), if_pos (by omega)]
    congr 1
    omega
  unfold atI
  rw [e]
  exact iv_at (getLastD_get h)
theorem at_head {p : List Int} (h : p ≠ []) : atI (iv p) 0 = some (.int (p.headD 0)) := by
  cases p with
  | nil => exact absurd rfl h
  | cons a b => exact at_of (j := 0) rfl rfl
/-- the looks of a web, as a value -/
def LooksAt (H : Hp) (l : V) (ls : List Look3) : Prop := TT2 H l (ls.map row3)
theorem lookAt {H : Hp} {vs : List V} {ls : List Look3} {n : Int} (hp : Paired (TI H) vs (ls.map row3)) (h : 0 ≤ n ∧ n < ls.length) : ∃ q, atI vs n = some (.ref q) ∧ H q = some (.tup (iv (row3 (lookN ls n)))) := by
  obtain ⟨v, hv, q, rfl, hq⟩ := paired_get hp (show (ls.map row3)[n.toNat]? = some (row3 (lookN ls n)) by rw [List.getElem?_map, lookN_get h.1 h.2] <;> rfl)
  exact ⟨q, at_of (j := n.toNat) (by omega) hv, hq⟩
theorem dec_int (a b : Int) : decide (V.int a = V.int b) = (a == b) := by
  by_cases h : a = b
  · rw [h]
    simp
  · rw [decide_eq_false (fun z => h (by cases z; rfl))]
    simpa using h
theorem flat_iv : ∀ ns : List Int, (iv ns).all flatV = true
  | [] => rfl
  | n :: ns => by
    show (flatV (V.int n) && (iv ns).all flatV) = true
    rw [flat_iv ns] <;> rfl
theorem inV_iv (n : Int) : ∀ ns : List Int, inV (V.int n) (iv ns) = ns.contains n
  | [] => rfl
  | m :: ns => by
    show (eqV (V.int m) (V.int n) || inV (V.int n) (iv ns)) = _
    rw [inV_iv n ns, List.contains_cons]
    congr 1
    show (m == n) = (n == m)
    rw [Bool.eq_iff_iff, beq_iff_eq, beq_iff_eq]
    exact eq_comm
theorem fmIf {α : Type} (p : α → Bool) : ∀ l : List α, (l.filterMap fun m => if p m = true then some m else none) = l.filter p
  | [] => rfl
  | x :: l => by
    rw [List.filterMap_cons, List.filter_cons, fmIf p l]
    cases p x <;> rfl
def spCloses : Sp := fun vs H Q _ => ∃ (l p : V) (ls : List Look3) (path : List Int), vs = [l, p] ∧ TT2 H l (ls.map row3) ∧ TI H p path ∧ path ≠ [] ∧ (∀ n ∈ path, 0 ≤ n ∧ n < ls.length) ∧ Q (.bl (closesP ls path)) H
def spGoesOn : Sp := fun vs H Q _ => ∃ (l p : V) (n : Int) (ls : List Look3) (path : List Int), vs = [l, p, .int n] ∧ TT2 H l (ls.map row3) ∧ TI H p path ∧ path ≠ [] ∧ path.length ≤ 100 ∧ (∀ n ∈ path, 0 ≤ n ∧ n < ls.length) ∧ (0 ≤ n ∧ n < ls.length) ∧ ∀ H', Ext H H' → Q (.bl (goesOnP ls path n)) H'
def spHasEven : Sp := fun vs H Q _ => ∃ (v r : V) (W : Web) (ring : List Int), vs = [v, r] ∧ WebAt H v W ∧ TI H r ring ∧ ring.length ≤ 100 ∧ (∀ n ∈ ring, 0 ≤ n ∧ n < W.looks.length) ∧ ∀ H', Ext H H' → Q (.bl (evenP W.looks ring)) H'
section
variable {P : Program} {w : World} {K : PySem.W.Frag} {mg : Str → Option Value} {base : Heap} {Ps : List Addr}
end
end Lk


/-! ## SortT -/
set_option Elab.async false
set_option linter.all false
set_option maxRecDepth 100000
set_option maxHeartbeats 2000000
/-! sorted of a list of tuples of ints, none of them empty, any number of them. -/
namespace Lk
open PySem PySem.Spec PyProof.Rows L2 Gx
variable [Own]
/-- tuples of ints, in order -/
def sortT (rows : List (List Int)) : List (List Int) := rows.mergeSort (PySem.W.dataLe false dI)
theorem sortT_perm (rows : List (List Int)) : (sortT rows).Perm rows := List.mergeSort_perm ..
theorem sortT_mem {rows : List (List Int)} {r : List Int} : r ∈ sortT rows ↔ r ∈ rows := (sortT_perm rows).mem_iff
theorem sortT_len (rows : List (List Int)) : (sortT rows).length = rows.length := (sortT_perm rows).length_eq
def rSortT : List V → Hp → VK → Prop := fun vs H Q => ∃ (a : Addr) (xs : List V) (rows : List (List Int)), vs = [.ref a] ∧ H a = some (.lst xs) ∧ Paired (TI H) xs rows ∧ (∀ r ∈ rows, r ≠ []) ∧
  ∀ p ys, H p = none → Paired (TI H) ys (sortT rows) → Q (.ref p) (upd H p (.lst ys))
theorem both_of {H : Hp} : ∀ {xs : List V} {its : List Value} {rows : List (List Int)}, Vals xs its → Paired (TI H) xs rows → ∃ bs : List (V × List Int), bs.map (·.1) = xs ∧ bs.map (·.2) = rows ∧ PySem.W.EachIs (fun v (b : V × List Int) => RelV b.1 v ∧ TI H b.1 b.2) its bs
  | _, _, _, .nil, .nil => ⟨[], rfl, rfl, .nil⟩
  | x :: _, _, r :: _, .cons h1 t1, .cons h2 t2 => by
    obtain ⟨bs, e1, e2, e3⟩ := both_of t1 t2
    exact ⟨(x, r) :: bs, by rw [List.map_cons, e1], by rw [List.map_cons, e2], .cons ⟨h1, h2⟩ e3⟩
theorem of_both {H : Hp} : ∀ {its : List Value} {bs : List (V × List Int)}, PySem.W.EachIs (fun v (b : V × List Int) => RelV b.1 v ∧ TI H b.1 b.2) its bs → Vals (bs.map (·.1)) its ∧ Paired (TI H) (bs.map (·.1)) (bs.map (·.2))
  | _, _, .nil => ⟨.nil, .nil⟩
  | _, _, .cons h t => by
    obtain ⟨a, b⟩ := of_both t
    exact ⟨.cons h.1 a, .cons h.2 b⟩
theorem cr_sortTI {X : Cx} (hu : X.A.units + 64 < cLine) : CallR X (.builtin "sorted") rSortT := by
  intro pins s σ H vs us Q I r h
  obtain ⟨a, xs, rows, rfl, ha, hp, hne, q⟩ := h
  obtain ⟨its, rv, hl, hz⟩ := I.list (SqL.of ha)
  rw [Vals.ref1 r]
  obtain ⟨bs, e1, e2, e3⟩ := both_of rv hp
  have hmem : ∀ b ∈ bs, b.2 ∈ rows := fun b hb => by rw [← e2]; exact List.mem_map.mpr ⟨b, hb, rfl⟩
  refine PySem.W.sorted_data (enc := fun b : V × List Int => dI b.2) hl.isList e3 (e3.mono fun v b hb => ?_) (PySem.W.AllAlike.of fun b b' => ?_) (.inl fun d hd => ?_) (by rw [← List.length_map (f := (·.1)), e1]; exact hz) (fun b hb => ?_) fun out hlen ho => ?_
  · exact Dp.reads I _ _ _ hb.2.dp hb.1
  · show PySem.W.alike (.tuple _) (.tuple _) = true
    simp only [PySem.W.alike]
    exact PySem.W.alike_ints _ _
  · obtain ⟨b, hb, rfl⟩ := List.mem_map.mp hd
    have := hne _ (hmem b hb)
    cases e : b.2 with
    | nil => exact absurd e this
    | cons x t => exact ⟨.int x, t.map .int, rfl⟩
  · show X.A.units + 2 + (PyData.tuple _).depth < cLine
    simp only [PyData.depth, depth_ints]
    omega
  · obtain ⟨ep, he'⟩ := PyProof.Rows.sortedAll_at s.heap its out.toArray
    obtain ⟨k1, k2⟩ := of_both ho
    have e4 : (bs.mergeSort (PySem.W.dataLe false fun b : V × List Int => dI b.2)).map (·.2) = sortT rows := by
      unfold sortT
      rw [← e2]
      exact PySem.W.sort_maps _ fun _ _ _ _ => rfl
    rw [e4] at k2
    have hl2 : ((bs.mergeSort (PySem.W.dataLe false fun b : V × List Int => dI b.2)).map (·.1)).length ≤ sizeLine := by
      rw [List.length_map, List.length_mergeSort, ← List.length_map (f := (·.1)), e1]
      exact hz
    exact ⟨.ref _, upd H (s.heap.objs.size + 1) (.lst _), I.laid (t' := s.toks) (fun _ _ => PyProof.Rows.sortedAll_old) (Nat.le_succ _) ⟨hl2, out, ep, k1, he'⟩, rfl, q _ _ (I.hok.fresh (Nat.le_succ _)) k2⟩
end Lk

/-! ## D51 -/
set_option Elab.async false
set_option linter.all false
set_option maxRecDepth 100000
set_option maxHeartbeats 4000000
namespace Lk
open PySem PySem.Spec PyProof.Rows L2 Gx
variable [Own]
/-- all rings of a web, in sequence -/
def ringsOf (W : Web) : List (List Int) := sortT (ringsRaw W.looks)
/-- few enough looks, folk to have rings counted -/
structure Web.Few (W : Web) : Prop where
  most : W.looks.length ≤ 14
  six : ∀ l ∈ W.looks, 0 ≤ l.2.1 ∧ l.2.1 < (6 : Int)
theorem Web.Ok.fewL {W : Web} (ok : W.Ok) : W.Few := ⟨ok.most, fun l hl => by
  have h := (ok.look l hl).2.1
  have := ok.few
  omega⟩
def spAllRings : Sp := fun vs H Q _ => ∃ (v : V) (W : Web), vs = [v] ∧ WebAt H v W ∧ W.Few ∧ ∀ H' q, Ext H H' → H q = none → TT2 H' (.ref q) (ringsOf W) → Q (.ref q) H'
theorem tru_list {K : PySem.W.Frag} {H : Hp} {a : Addr} {xs : List V} (h : H a = some (.lst xs)) : TruV K (.ref a) H (!xs.isEmpty) := .inl ⟨xs, SqL.of h, rfl⟩
theorem longer_fm (ls : List Look3) (row : List Int) : ((nums (row.headD 0 + 1) ls.length).filterMap fun n => if (!closesP ls row && goesOnP ls row n) = true then some (row ++ [n]) else none) = longer ls row := by
  unfold longer
  cases closesP ls row with
  | true =>
    rw [if_pos rfl]
    generalize nums (row.headD 0 + 1) ls.length = l
    induction l with
    | nil => rfl
    | cons x l ih =>
      rw [List.filterMap_cons, ih]
      rfl
  | false =>
    rw [if_neg (by decide)]
    generalize nums (row.headD 0 + 1) ls.length = l
    induction l with
    | nil => rfl
    | cons x l ih =>
      rw [List.filterMap_cons, ih, List.filter_cons]
      cases goesOnP ls row x <;> rfl
theorem flatMap_take_le {α β : Type} (f : α → List β) (l : List α) (n : Nat) : ((l.take n).flatMap f).length ≤ (l.flatMap f).length := by
  have e : l.flatMap f = (l.take n).flatMap f ++ (l.drop n).flatMap f := by rw [← List.flatMap_append, List.take_append_drop]
  rw [e, List.length_append]
  omega
/-- row + (n,) -/
theorem cat_one {H : Hp} {z u : Addr} {row : List Int} {n : Int} {Q : VK} (hz : H z = some (.tup (iv row))) (hu : H u = none) (hl : row.length ≤ 100) (k : ∀ H7 y, Ext H H7 → TI H7 y (row ++ [n]) → Q y H7) :
    rCatT (.ref z) (.ref u) (upd H u (.tup [.int n])) Q := by
  have hzu : z ≠ u := ne_of_none hz hu
  refine ⟨z, u, iv row, _, rfl, rfl, by rw [upd_ne hzu]; exact hz, upd_same, by rw [iv_len]; show row.length + 1 ≤ sizeLine; exact Nat.le_of_lt (small1000 (by omega)), fun e0 => ?_, (fun _ e0 => by cases e0), fun e0 _ v hv => ?_⟩
  · refine k _ _ (Ext.new hu _) ⟨u, rfl, ?_⟩
    have r0 : row = [] := by
      cases row with
      | nil => rfl
      | cons a b => cases e0
    rw [upd_same, r0]
    rfl
  · refine k _ _ ((Ext.new hu _).trans (Ext.new hv _)) ⟨v, rfl, ?_⟩
    rw [upd_same]
    show some (HO.tup (iv row ++ [V.int n])) = _
    unfold iv
    rw [List.map_append]
    rfl
section
variable {P : Program} {w : World} {K : PySem.W.Frag} {mg : Str → Option Value} {base : Heap} {Ps : List Addr}
end
end Lk


/-! ## RG -/
set_option Elab.async false
set_option linter.all false
set_option maxRecDepth 100000
set_option maxHeartbeats 2000000
/-! Rules by the looks of a ring: two settled states by an even one, none by an odd one. -/
namespace Lk
open PySem PySem.Spec PyProof.Rows L2 Gx
variable [Own]
/-- all states of the web are rows -/
theorem rows_all : ∀ (tops st p : List Int) (rows : List (List Int)), st.length = tops.length → (∀ i, i < tops.length → 0 ≤ st.getD i 0 ∧ st.getD i 0 ≤ tops.getD i 0) → p ∈ rows → p ++ st ∈ tops.foldl rowsStep rows
  | [], [], p, rows, _, _, h => by simpa using h
  | t :: ts, m :: st, p, rows, hl, hb, h => by
    rw [List.foldl_cons]
    have h0 := hb 0 (by simp)
    simp only [List.getD_cons_zero] at h0
    have := rows_all ts st (p ++ [m]) (rowsStep rows t) (by simpa using hl) (fun i hi => by
      have := hb (i + 1) (by simpa using hi)
      simpa using this) (by
      unfold rowsStep moods
      refine List.mem_flatMap.mpr ⟨p, h, List.mem_map.mpr ⟨m, List.mem_map.mpr ⟨m.toNat, List.mem_range.mpr (by omega), by omega⟩, rfl⟩⟩)
    simpa using this
  | [], _ :: _, _, _, h, _, _ => by simp at h
  | _ :: _, [], _, _, h, _, _ => by simp at h
theorem state_row {W : Web} {st : List Int} (so : StOk W st) : st ∈ rowsOf W.tops := by
  have := rows_all W.tops st [] [[]] so.len (fun i hi => by
    have := so.bd (i : Int) (by omega) (by omega)
    exact this) (by simp)
  unfold rowsOf
  simpa using this
/-- the folk at whom one looks -/
def seenBy (W : Web) (f : Int) : List Int := (looksOf W f).map (·.1)
/-- the mood by a look alone, k the mood seen -/
def byLook (W : Web) (n k : Int) : Int := if (decide (0 < k) == decide (lks W.looks n = 1)) = true then topAt W (lkr W.looks n) else 0
def tableBy (W : Web) (n : Int) : List Int := (rowsAt W (lkr W.looks n)).map fun row => byLook W n (row.getD ((seenBy W (lkr W.looks n)).idxOf (lkd W.looks n)) 0)
/-- which look of the ring is somebody's -/
def ringIx (W : Web) (p : List Int) (f : Int) : Nat := (p.map (lkr W.looks)).idxOf f
def tableRing (W : Web) (p : List Int) (k : Nat) (f : Int) : List Int := if ringIx W p f < k then tableBy W (p.getD (ringIx W p f) 0) else List.replicate (manyRows W f).toNat 0
/-- the rules by the first k looks of a ring -/
def rulesTo (W : Web) (p : List Int) (k : Nat) : List (List Int) := (List.range W.tops.length).map fun f : Nat => tableRing W p k (f : Int)
def rulesBy (W : Web) (p : List Int) : List (List Int) := rulesTo W p p.length
theorem asc_one : ∀ {ls : List Look3}, ls.Pairwise (fun k l => k.1 < l.1 ∨ k.1 = l.1 ∧ k.2.1 < l.2.1) → ∀ {a b : Look3}, a ∈ ls → b ∈ ls → a.1 = b.1 → a.2.1 = b.2.1 → a = b
  | [], _, _, _, h, _, _, _ => by cases h
  | l :: ls, hp, a, b, ha, hb, h1, h2 => by
    obtain ⟨g1, g2⟩ := List.pairwise_cons.mp hp
    rcases List.mem_cons.mp ha with ea | ha
    · rcases List.mem_cons.mp hb with eb | hb
      · rw [ea, eb]
      · have := g1 b hb
        rw [← ea] at this
        omega
    · rcases List.mem_cons.mp hb with eb | hb
      · have := g1 a ha
        rw [← eb] at this
        omega
      · exact asc_one g2 ha hb h1 h2
section
variable {W : Web} {n : Int}
theorem seen_has (h0 : 0 ≤ n) (h1 : n < W.looks.length) : lkd W.looks n ∈ seenBy W (lkr W.looks n) := by
  unfold seenBy looksOf
  rw [List.map_map]
  refine List.mem_map.mpr ⟨lookN W.looks n, List.mem_filter.mpr ⟨lookN_mem h0 h1, beq_self_eq_true _⟩, rfl⟩
/-- the place of the look among its looker's -/
theorem seen_at (ok : W.Ok) (h0 : 0 ≤ n) (h1 : n < W.looks.length) : (looksOf W (lkr W.looks n))[(seenBy W (lkr W.looks n)).idxOf (lkd W.looks n)]? = some (lkd W.looks n, lks W.looks n) := by
  have hlt := List.idxOf_lt_length_of_mem (seen_has h0 h1)
  have hlt2 : (seenBy W (lkr W.looks n)).idxOf (lkd W.looks n) < (looksOf W (lkr W.looks n)).length := by
    have : (seenBy W (lkr W.looks n)).length = (looksOf W (lkr W.looks n)).length := by unfold seenBy; rw [List.length_map]
    omega
  have e0 : (seenBy W (lkr W.looks n))[(seenBy W (lkr W.looks n)).idxOf (lkd W.looks n)]? = some (lkd W.looks n) := by
    rw [List.getElem?_eq_getElem hlt, List.getElem_idxOf hlt]
  generalize (seenBy W (lkr W.looks n)).idxOf (lkd W.looks n) = k at e0 hlt2 ⊢
  unfold seenBy at e0
  rw [List.getElem?_map, List.getElem?_eq_getElem hlt2] at e0
  rw [List.getElem?_eq_getElem hlt2]
  have e1 := Option.some.inj e0
  have hm := List.getElem_mem hlt2
  generalize (looksOf W (lkr W.looks n))[k]'hlt2 = x at e1 hm
  unfold looksOf at hm
  obtain ⟨l, hl, rfl⟩ := List.mem_map.mp hm
  obtain ⟨hl, hf⟩ := List.mem_filter.mp hl
  have hf : l.2.1 = lkr W.looks n := beq_iff_eq.mp hf
  have := asc_one ok.asc hl (lookN_mem h0 h1) e1 hf
  rw [this]
  rfl
theorem goes_ix : ∀ {ss xs ys : List Int} {i : Nat} {s x y : Int}, lawGoes ss xs ys = true → ss[i]? = some s → xs[i]? = some x → ys[i]? = some y → 0 ≤ s * (y - x)
  | [], _, _, _, _, _, _, _, h, _, _ => by simp at h
  | _ :: _, [], _, _, _, _, _, _, _, h, _ => by simp at h
  | _ :: _, _ :: _, [], _, _, _, _, _, _, _, h => by simp at h
  | s :: ss, x :: xs, y :: ys, 0, a, b, c, g, h1, h2, h3 => by
    unfold lawGoes at g
    obtain ⟨g1, _⟩ := Bool.and_eq_true_iff.mp g
    simp only [List.getElem?_cons_zero, Option.some.injEq] at h1 h2 h3
    subst h1 h2 h3
    have : ¬ s * (y - x) < 0 := by simpa using g1
    omega
  | s :: ss, x :: xs, y :: ys, i + 1, a, b, c, g, h1, h2, h3 => by
    unfold lawGoes at g
    obtain ⟨_, g2⟩ := Bool.and_eq_true_iff.mp g
    exact goes_ix g2 (by simpa using h1) (by simpa using h2) (by simpa using h3)
theorem sign_of (ok : W.Ok) (h0 : 0 ≤ n) (h1 : n < W.looks.length) : lks W.looks n = 1 ∨ lks W.looks n = -1 := (ok.look _ (lookN_mem h0 h1)).2.2
theorem looker_ok (ok : W.Ok) (h0 : 0 ≤ n) (h1 : n < W.looks.length) : 0 ≤ lkr W.looks n ∧ lkr W.looks n < W.tops.length := (ok.look _ (lookN_mem h0 h1)).2.1
theorem lookd_ok (ok : W.Ok) (h0 : 0 ≤ n) (h1 : n < W.looks.length) : 0 ≤ lkd W.looks n ∧ lkd W.looks n < W.tops.length := (ok.look _ (lookN_mem h0 h1)).1
theorem tableBy_get {n : Int} {k : Nat} {row : List Int} (h : (rowsAt W (lkr W.looks n))[k]? = some row) : (tableBy W n).getD k 0 = byLook W n (row.getD ((seenBy W (lkr W.looks n)).idxOf (lkd W.looks n)) 0) := by
  unfold tableBy
  rw [List.getD_eq_getElem?_getD, List.getElem?_map, h]
  rfl
theorem tableBy_len (ok : W.Ok) (n : Int) : ((tableBy W n).length : Int) = manyRows W (lkr W.looks n) := by
  unfold tableBy
  rw [List.length_map, rowsAt_rws, rws_len, many_eq ok, pr_prod]
theorem zeros_len (ok : W.Ok) (f : Int) : ((List.replicate (manyRows W f).toNat (0 : Int)).length : Int) = manyRows W f := by
  rw [List.length_replicate, many_eq ok]
  omega
theorem rowsAt_ix {f : Int} {k i : Nat} {row : List Int} {l : Int × Int} (h : (rowsAt W f)[k]? = some row) (hl : (looksOf W f)[i]? = some l) : row[i]? = some (row.getD i 0) := by
  have h1 := rowsAt_row (List.mem_of_getElem? h)
  have h2 := (List.getElem?_eq_some_iff.mp hl).1
  rw [List.getD_eq_getElem?_getD, List.getElem?_eq_getElem (by omega)]
  rfl
theorem tableBy_ok (ok : W.Ok) (h0 : 0 ≤ n) (h1 : n < W.looks.length) : isTable W (lkr W.looks n) (tableBy W n) = true := by
  have hr := looker_ok ok h0 h1
  have ht := topAt_ok ok hr.1 hr.2
  rw [isTable_iff ok]
  refine ⟨?_, fun m hm => ?_, fun p q xp xq g1 g2 g => ?_⟩
  · unfold tableBy
    rw [List.length_map, rowsAt_rws, rws_len]
  · unfold tableBy at hm
    obtain ⟨row, _, rfl⟩ := List.mem_map.mp hm
    unfold byLook
    split <;> omega
  · rw [← rowsAt_rws] at g1 g2
    have hs := seen_at ok h0 h1
    show (tableBy W n).getD p 0 ≤ (tableBy W n).getD q 0
    rw [tableBy_get g1, tableBy_get g2]
    have x1 := rowsAt_ix g1 hs
    have x2 := rowsAt_ix g2 hs
    have g3 : ((axes W (looksOf W (lkr W.looks n))).map (·.2))[(seenBy W (lkr W.looks n)).idxOf (lkd W.looks n)]? = some (lks W.looks n) := by
      unfold axes
      rw [List.map_map, List.getElem?_map, hs]
      rfl
    have hg := goes_ix g g3 x1 x2
    have sgo := sign_of ok h0 h1
    clear g g1 g2 g3 x1 x2 hs
    generalize xp.getD _ 0 = a at hg ⊢
    generalize xq.getD _ 0 = b at hg ⊢
    unfold byLook
    generalize topAt W (lkr W.looks n) = t at ht ⊢
    generalize lks W.looks n = sg at *
    rcases (show sg = 1 ∨ sg = -1 from sgo) with e | e
    · subst e
      by_cases ha : 0 < a <;> by_cases hb : 0 < b <;> simp [ha, hb] <;> omega
    · subst e
      by_cases ha : 0 < a <;> by_cases hb : 0 < b <;> simp [ha, hb] <;> omega
theorem zeros_ok (ok : W.Ok) {f : Int} (hf : 0 ≤ f ∧ f < W.tops.length) : isTable W f (List.replicate (manyRows W f).toNat 0) = true := by
  have ht := topAt_ok ok hf.1 hf.2
  rw [isTable_iff ok]
  refine ⟨?_, fun m hm => ?_, fun p q xp xq g1 g2 g => ?_⟩
  · rw [List.length_replicate, many_eq ok, pr_prod]
    omega
  · rw [List.eq_of_mem_replicate hm]
    omega
  · have z : ∀ k : Nat, (List.replicate (manyRows W f).toNat (0 : Int)).getD k 0 = 0 := fun k => by
      rw [List.getD_eq_getElem?_getD, List.getElem?_replicate]
      split <;> rfl
    show (List.replicate _ _).getD p 0 ≤ (List.replicate _ _).getD q 0
    rw [z, z]
    exact Int.le_refl _
end
end Lk

/-! ## RG2 -/
set_option Elab.async false
set_option linter.all false
set_option maxRecDepth 100000
set_option maxHeartbeats 2000000
namespace Lk
open PySem PySem.Spec PyProof.Rows L2 Gx
variable [Own]
section
variable {W : Web} {p : List Int} {st : List Int}
theorem ruTo_get {k : Nat} {f : Int} (h0 : 0 ≤ f) (h1 : f < W.tops.length) : (rulesTo W p k).getD f.toNat [] = tableRing W p k f := by
  unfold rulesTo
  rw [List.getD_eq_getElem?_getD, List.getElem?_map, List.getElem?_range (by omega)]
  show tableRing W p k ((f.toNat : Nat) : Int) = _
  rw [show ((f.toNat : Nat) : Int) = f by omega]
theorem ringIx_at (pk : PathOk W.looks p) {i : Nat} {a : Int} (h : p[i]? = some a) : ringIx W p (lkr W.looks a) = i := by
  obtain ⟨hi, ha⟩ := List.getElem?_eq_some_iff.mp h
  have := pk.nd.idxOf_getElem i (by rw [List.length_map]; exact hi)
  rw [List.getElem_map, ha] at this
  exact this
theorem ringIx_lt {f : Int} (h : ringIx W p f < p.length) : ∃ a, p[ringIx W p f]? = some a ∧ lkr W.looks a = f := by
  refine ⟨_, List.getElem?_eq_getElem h, ?_⟩
  have h2 : (p.map (lkr W.looks)).idxOf f < (p.map (lkr W.looks)).length := by rw [List.length_map]; exact h
  have := List.getElem_idxOf h2
  rw [List.getElem_map] at this
  exact this
theorem num_at (pk : PathOk W.looks p) {i : Nat} {a : Int} (h : p[i]? = some a) : 0 ≤ a ∧ a < W.looks.length := pk.num a (List.mem_of_getElem? h)
theorem tableRing_ok (ok : W.Ok) (pk : PathOk W.looks p) (k : Nat) {f : Int} (hf : 0 ≤ f ∧ f < W.tops.length) (hk : k ≤ p.length) : isTable W f (tableRing W p k f) = true := by
  unfold tableRing
  split
  · rename_i h
    obtain ⟨a, ha, e⟩ := ringIx_lt (W := W) (p := p) (f := f) (by omega)
    have hn := num_at pk ha
    have e2 : p.getD (ringIx W p f) 0 = a := by rw [List.getD_eq_getElem?_getD, ha] <;> rfl
    rw [e2]
    have := tableBy_ok ok hn.1 hn.2
    rw [e] at this
    exact this
  · exact zeros_ok ok hf
theorem table_len (ok : W.Ok) {f : Int} {tb : List Int} (h : isTable W f tb = true) : (tb.length : Int) = manyRows W f := by
  rw [isTable_iff ok] at h
  rw [h.1, many_eq ok, pr_prod]
theorem many_le (ok : W.Ok) (f : Int) : manyRows W f ≤ 256 := by
  have h := (rowsAt_len ok f).2
  rw [rowsAt_rws, rws_len, pr_prod] at h
  rw [many_eq ok]
  omega
theorem rulesBy_ok (ok : W.Ok) (pk : PathOk W.looks p) : Ru0 W (rulesBy W p) ∧ firstBad W (rulesBy W p) = none := by
  refine ⟨⟨by unfold rulesBy rulesTo; rw [List.length_map, List.length_range], fun t ht => ?_⟩, ?_⟩
  · unfold rulesBy rulesTo at ht
    obtain ⟨f, hf, rfl⟩ := List.mem_map.mp ht
    have hf := List.mem_range.mp hf
    have h1 := table_len ok (tableRing_ok ok pk p.length (f := (f : Int)) ⟨by omega, by omega⟩ (Nat.le_refl _))
    have h2 := many_le ok (f : Int)
    omega
  · unfold firstBad
    rw [List.find?_eq_none]
    intro f hf
    have hf := List.mem_range.mp hf
    have h1 := tableRing_ok ok pk p.length (f := (f : Int)) ⟨by omega, by omega⟩ (Nat.le_refl _)
    have h2 : (rulesBy W p).getD f [] = tableRing W p p.length (f : Int) := ruTo_get (W := W) (p := p) (k := p.length) (f := (f : Int)) (by omega) (by omega)
    rw [h2, h1]
    simp
theorem mood_ring (ok : W.Ok) (pk : PathOk W.looks p) (so : StOk W st) {i : Nat} {a : Int} (h : p[i]? = some a) : moodTold W (rulesBy W p) st (lkr W.looks a) = byLook W a (stAt st (lkd W.looks a)) := by
  have hn := num_at pk h
  have hr := looker_ok ok hn.1 hn.2
  have hi := (List.getElem?_eq_some_iff.mp h).1
  have e1 : tableRing W p p.length (lkr W.looks a) = tableBy W a := by
    unfold tableRing
    rw [ringIx_at pk h, if_pos hi]
    congr 1
    rw [List.getD_eq_getElem?_getD, h] <;> rfl
  unfold moodTold rulesBy
  rw [ruTo_get hr.1 hr.2, e1]
  obtain ⟨_, hp⟩ := place_row (W := W) (st := st) (ls := looksOf W (lkr W.looks a)) fun l hl => so.bd l.1 (looksOf_ok ok l hl).1.1 (looksOf_ok ok l hl).1.2
  rw [← rowsAt_rws] at hp
  unfold placeOf
  rw [tableBy_get hp]
  congr 1
  rw [List.getD_eq_getElem?_getD, List.getElem?_map, seen_at ok hn.1 hn.2]
  rfl
theorem mood_zero {f : Int} (hf : 0 ≤ f ∧ f < W.tops.length) (h : ¬ ringIx W p f < p.length) : moodTold W (rulesBy W p) st f = 0 := by
  unfold moodTold rulesBy
  rw [ruTo_get hf.1 hf.2]
  unfold tableRing
  rw [if_neg h, List.getD_eq_getElem?_getD, List.getElem?_replicate]
  split <;> rfl
/-- above 0 or not, looked along -/
def flipTo (ls : List Look3) : List Int → Bool → Bool
  | [], b => b
  | a :: r, b => flipTo ls r (b == decide (lks ls a = 1))
theorem flip_snoc (ls : List Look3) (a : Int) : ∀ (q : List Int) (b : Bool), flipTo ls (q ++ [a]) b = (flipTo ls q b == decide (lks ls a = 1))
  | [], _ => rfl
  | _ :: q, b => flip_snoc ls a q _
theorem even_cons (ls : List Look3) (a : Int) (r : List Int) : evenP ls (a :: r) = if lks ls a = -1 then !evenP ls r else evenP ls r := by
  unfold evenP
  rw [List.filter_cons]
  by_cases h : lks ls a = -1
  · rw [if_pos h, if_pos (beq_iff_eq.mpr h), List.length_cons]
    generalize (r.filter fun n => lks ls n == -1).length = m
    rw [Bool.eq_iff_iff]
    simp
    omega
  · rw [if_neg h, if_neg (fun z => h (beq_iff_eq.mp z))]
theorem flip_even (ls : List Look3) : ∀ (q : List Int) (b : Bool), (∀ n ∈ q, lks ls n = 1 ∨ lks ls n = -1) → flipTo ls q b = (b == evenP ls q)
  | [], b, _ => by cases b <;> rfl
  | a :: r, b, h => by
    have ih := flip_even ls r (b == decide (lks ls a = 1)) fun n hn => h n (List.mem_cons_of_mem _ hn)
    show flipTo ls r _ = _
    rw [ih, even_cons]
    rcases h a (List.mem_cons_self ..) with e | e
    · rw [e, if_neg (by decide), decide_eq_true rfl]
      cases b <;> rfl
    · rw [e, if_pos rfl, decide_eq_false (by decide)]
      cases b <;> cases evenP ls r <;> rfl
theorem signs_in (ok : W.Ok) (pk : PathOk W.looks p) : ∀ n ∈ p, lks W.looks n = 1 ∨ lks W.looks n = -1 := fun n hn => sign_of ok (pk.num n hn).1 (pk.num n hn).2
theorem above_by (ok : W.Ok) {a : Int} (ha : 0 ≤ a ∧ a < W.looks.length) (m : Int) : decide (0 < byLook W a m) = (decide (0 < m) == decide (lks W.looks a = 1)) := by
  have hr := looker_ok ok ha.1 ha.2
  have ht := topAt_ok ok hr.1 hr.2
  unfold byLook
  cases (decide (0 < m) == decide (lks W.looks a = 1)) with
  | true => rw [if_pos rfl]; exact decide_eq_true (by omega)
  | false => rw [if_neg (by decide)]; rfl
theorem take_one {i : Nat} {a : Int} (h : p[i]? = some a) : p.take (i + 1) = p.take i ++ [a] := by rw [List.take_add_one, h] <;> rfl
theorem last_at (pk : PathOk W.looks p) : p[p.length - 1]? = some (p.getLastD 0) ∧ p.take (p.length - 1 + 1) = p := by
  have : 0 < p.length := List.length_pos_iff.mpr pk.ne
  exact ⟨getLastD_get pk.ne, List.take_of_length_le (by omega)⟩
theorem head_at (pk : PathOk W.looks p) : p[0]? = some (p.headD 0) := by
  have := pk.ne
  cases p with
  | nil => exact absurd rfl this
  | cons a b => rfl
/-- an odd ring: no state is settled -/
theorem odd_none (ok : W.Ok) (pk : PathOk W.looks p) (hc : closesP W.looks p = true) (ho : evenP W.looks p = false) : settledStates W (rulesBy W p) = [] := by
  rw [List.eq_nil_iff_forall_not_mem]
  intro st hs
  obtain ⟨h1, h2⟩ := List.mem_filter.mp hs
  have h2 : stateTold W (rulesBy W p) st = st := of_decide_eq_true h2
  have so := rows_st h1
  have key : ∀ (i : Nat) (a : Int), p[i]? = some a → decide (0 < stAt st (lkr W.looks a)) = (decide (0 < stAt st (lkd W.looks a)) == decide (lks W.looks a = 1)) := fun i a h => by
    have hn := num_at pk h
    have hr := looker_ok ok hn.1 hn.2
    have e := told_at (W := W) (ru := rulesBy W p) (st := st) (f := lkr W.looks a) hr.1 (by rw [so.len]; exact hr.2)
    rw [h2, mood_ring ok pk so h] at e
    rw [e, above_by ok hn]
  have along : ∀ (i : Nat) (a : Int), p[i]? = some a → decide (0 < stAt st (lkr W.looks a)) = flipTo W.looks (p.take (i + 1)) (decide (0 < stAt st (lkd W.looks (p.headD 0)))) := by
    intro i
    induction i with
    | zero =>
      intro a h
      have e := head_at pk
      rw [h] at e
      cases e
      rw [key 0 _ h, take_one h]
      rfl
    | succ j ih =>
      intro a h
      obtain ⟨a', h'⟩ : ∃ a', p[j]? = some a' := ⟨_, List.getElem?_eq_getElem (by have := (List.getElem?_eq_some_iff.mp h).1; omega)⟩
      have hch := pk.chain j a' a h' h
      rw [key _ _ h, take_one h, flip_snoc, ← ih a' h', hch]
  obtain ⟨l1, l2⟩ := last_at pk
  have e := along _ _ l1
  rw [l2, flip_even _ _ _ (signs_in ok pk), ho, show lkr W.looks (p.getLastD 0) = lkd W.looks (p.headD 0) from beq_iff_eq.mp hc] at e
  cases h : decide (0 < stAt st (lkd W.looks (p.headD 0))) <;> rw [h] at e <;> cases e
/-- a state along an even ring -/
def ringMood (W : Web) (p : List Int) (b : Bool) (f : Int) : Int := if (decide (ringIx W p f < p.length) && flipTo W.looks (p.take (ringIx W p f + 1)) b) = true then topAt W f else 0
def ringState (W : Web) (p : List Int) (b : Bool) : List Int := (List.range W.tops.length).map fun f : Nat => ringMood W p b (f : Int)
theorem ringState_at {b : Bool} {f : Int} (h0 : 0 ≤ f) (h1 : f < W.tops.length) : stAt (ringState W p b) f = ringMood W p b f := by
  unfold stAt ringState
  rw [List.getD_eq_getElem?_getD, List.getElem?_map, List.getElem?_range (by omega)]
  show ringMood W p b ((f.toNat : Nat) : Int) = _
  rw [show ((f.toNat : Nat) : Int) = f by omega]
theorem ringState_ok (ok : W.Ok) {b : Bool} : StOk W (ringState W p b) := by
  refine ⟨by unfold ringState; rw [List.length_map, List.length_range], fun f h0 h1 => ?_⟩
  have ht := topAt_ok ok h0 h1
  rw [ringState_at h0 h1]
  unfold ringMood
  split <;> omega
theorem ringMood_at (ok : W.Ok) (pk : PathOk W.looks p) {b : Bool} {i : Nat} {a : Int} (h : p[i]? = some a) : decide (0 < stAt (ringState W p b) (lkr W.looks a)) = flipTo W.looks (p.take (i + 1)) b := by
  have hn := num_at pk h
  have hr := looker_ok ok hn.1 hn.2
  have ht := topAt_ok ok hr.1 hr.2
  rw [ringState_at hr.1 hr.2]
  unfold ringMood
  rw [ringIx_at pk h, decide_eq_true (List.getElem?_eq_some_iff.mp h).1, Bool.true_and]
  cases flipTo W.looks (p.take (i + 1)) b with
  | true => rw [if_pos rfl]; exact decide_eq_true (by omega)
  | false => rw [if_neg (by decide)]; rfl
theorem ringState_set (ok : W.Ok) (pk : PathOk W.looks p) (hc : closesP W.looks p = true) (he : evenP W.looks p = true) (b : Bool) : ringState W p b ∈ settledStates W (rulesBy W p) := by
  have so := ringState_ok (p := p) (b := b) ok
  refine List.mem_filter.mpr ⟨state_row so, decide_eq_true ?_⟩
  have hl := so.len
  conv => rhs; unfold ringState
  unfold stateTold
  rw [hl]
  refine List.map_congr_left fun f hf => ?_
  have hf := List.mem_range.mp hf
  have hff : 0 ≤ (f : Int) ∧ (f : Int) < W.tops.length := ⟨by omega, by omega⟩
  by_cases hi : ringIx W p (f : Int) < p.length
  · obtain ⟨a, ha, e⟩ := ringIx_lt hi
    have hn := num_at pk ha
    have seen : decide (0 < stAt (ringState W p b) (lkd W.looks a)) = flipTo W.looks (p.take (ringIx W p (f : Int))) b := by
      generalize ringIx W p (f : Int) = i at ha
      cases i with
      | zero =>
        have e0 := head_at pk
        rw [ha] at e0
        cases e0
        obtain ⟨l1, l2⟩ := last_at pk
        have hm := ringMood_at ok pk (b := b) l1
        rw [l2, flip_even _ _ _ (signs_in ok pk), he, show lkr W.looks (p.getLastD 0) = lkd W.looks (p.headD 0) from beq_iff_eq.mp hc] at hm
        rw [hm]
        cases b <;> rfl
      | succ j =>
        obtain ⟨a', h'⟩ : ∃ a', p[j]? = some a' := ⟨_, List.getElem?_eq_getElem (by have := (List.getElem?_eq_some_iff.mp ha).1; omega)⟩
        rw [← pk.chain j a' a h' ha]
        exact ringMood_at ok pk h'
    have hm := mood_ring ok pk so ha
    rw [e] at hm
    rw [hm]
    unfold byLook ringMood
    rw [seen, decide_eq_true hi, Bool.true_and, take_one ha, flip_snoc, e]
  · rw [mood_zero hff hi]
    unfold ringMood
    rw [decide_eq_false hi, Bool.false_and, if_neg (by decide)]
theorem two_in {α : Type} {l : List α} {x y : α} (hx : x ∈ l) (hy : y ∈ l) (h : x ≠ y) : 2 ≤ l.length := by
  match l, hx, hy with
  | [z], hx, hy => exact absurd ((List.mem_singleton.mp hx).trans (List.mem_singleton.mp hy).symm) h
  | _ :: _ :: _, _, _ => simp
/-- an even ring: two settled states -/
theorem even_two (ok : W.Ok) (pk : PathOk W.looks p) (hc : closesP W.looks p = true) (he : evenP W.looks p = true) : 2 ≤ (settledStates W (rulesBy W p)).length := by
  refine two_in (ringState_set ok pk hc he true) (ringState_set ok pk hc he false) fun z => ?_
  obtain ⟨l1, l2⟩ := last_at pk
  have h1 := ringMood_at ok pk (b := true) l1
  have h2 := ringMood_at ok pk (b := false) l1
  rw [l2, flip_even _ _ _ (signs_in ok pk), he] at h1 h2
  rw [z, h2] at h1
  cases h1
end
end Lk

/-! ## RC -/
set_option Elab.async false
set_option linter.all false
set_option maxRecDepth 100000
set_option maxHeartbeats 2000000
/-! What is a ring, said without walks; rounds of looks; two settled states want an even ring. -/
namespace Lk
open PySem PySem.Spec PyProof.Rows L2 Gx
variable [Own]
section
variable {ls : List Look3}
theorem path_snoc {q : List Int} {n : Int} (hq : q ≠ []) (pk : PathOk ls (q ++ [n])) : PathOk ls q ∧ goesOnP ls q n = true ∧ q.headD 0 + 1 ≤ n ∧ n < ls.length := by
  have hh : (q ++ [n]).headD 0 = q.headD 0 := headD_app hq
  have nd : (q.map (lkr ls) ++ [lkr ls n]).Nodup := by
    have := pk.nd
    rw [List.map_append] at this
    exact this
  have hnot : lkr ls n ∉ q.map (lkr ls) := fun h => by
    have := List.nodup_append.mp nd
    exact this.2.2 _ h _ (List.mem_singleton.mpr rfl) rfl
  have hn := pk.num n (by simp)
  have hl := pk.least n (by simp)
  rw [hh] at hl
  have hne : n ≠ q.headD 0 := fun z => hnot (by rw [z]; exact List.mem_map.mpr ⟨_, headD_mem hq, rfl⟩)
  refine ⟨⟨hq, fun m hm => pk.num m (List.mem_append_left _ hm), (List.nodup_append.mp nd).1, fun m hm => by rw [← hh]; exact pk.least m (List.mem_append_left _ hm), fun i a b h1 h2 => ?_⟩, ?_, by omega, hn.2⟩
  · have i2 := (List.getElem?_eq_some_iff.mp h2).1
    exact pk.chain i a b (by rw [List.getElem?_append_left (by omega)]; exact h1) (by rw [List.getElem?_append_left (by omega)]; exact h2)
  · have hlen : 0 < q.length := List.length_pos_iff.mpr hq
    have c := pk.chain (q.length - 1) (q.getLastD 0) n (by rw [List.getElem?_append_left (by omega)]; exact getLastD_get hq) (by
      rw [List.getElem?_append_right (by omega), show q.length - 1 + 1 - q.length = 0 by omega]
      rfl)
    unfold goesOnP
    rw [Bool.and_eq_true]
    refine ⟨beq_iff_eq.mpr c.symm, ?_⟩
    rw [Bool.not_eq_true', ← Bool.not_eq_true]
    intro h
    exact hnot (List.contains_iff_mem.mp h)
theorem level_has : ∀ (k : Nat) {p : List Int}, PathOk ls p → p.length = k + 1 → (∀ j, j < k → closesP ls (p.take (j + 1)) = false) → p ∈ level ls k
  | 0, p, pk, hl, _ => by
    match p, hl with
    | [n], _ =>
      have := pk.num n (by simp)
      exact List.mem_map.mpr ⟨n, mem_nums.mpr this, rfl⟩
  | k + 1, p, pk, hl, hc => by
    obtain ⟨q, n, rfl⟩ : ∃ q n, p = q ++ [n] := ⟨p.dropLast, p.getLast pk.ne, (List.dropLast_concat_getLast pk.ne).symm⟩
    have lq : q.length = k + 1 := by simpa using hl
    have hq : q ≠ [] := by
      intro z
      rw [z] at lq
      cases lq
    obtain ⟨pq, g, g1, g2⟩ := path_snoc hq pk
    have tk : ∀ j, j ≤ k → (q ++ [n]).take (j + 1) = q.take (j + 1) := fun j hj => List.take_append_of_le_length (by omega)
    have ih := level_has k pq lq fun j hj => by rw [← tk j (by omega)]; exact hc j (by omega)
    have hcl := hc k (by omega)
    rw [tk k (Nat.le_refl _), List.take_of_length_le (by omega)] at hcl
    refine List.mem_flatMap.mpr ⟨q, ih, ?_⟩
    unfold longer
    rw [if_neg (by rw [hcl]; decide)]
    exact List.mem_map.mpr ⟨n, List.mem_filter.mpr ⟨mem_nums.mpr ⟨g1, g2⟩, g⟩, rfl⟩
theorem found_has {k j : Nat} {p : List Int} (hj : j < k) (h : p ∈ level ls j) (hc : closesP ls p = true) : p ∈ foundN ls k := by
  induction k with
  | zero => omega
  | succ k ih =>
    show p ∈ foundN ls k ++ (level ls k).filter (closesP ls)
    by_cases e : j = k
    · rw [← e]
      exact List.mem_append_right _ (List.mem_filter.mpr ⟨h, hc⟩)
    · exact List.mem_append_left _ (ih (by omega))
/-- lookers of six folk, all unlike -/
theorem few_lookers (six : ∀ l ∈ ls, 0 ≤ l.2.1 ∧ l.2.1 < (6 : Int)) {c : List Int} (num : ∀ n ∈ c, 0 ≤ n ∧ n < ls.length) (nd : (c.map (lkr ls)).Nodup) : c.length ≤ 6 := by
  have := nodup_le (c.map (lkr ls)) (nums 0 6) nd fun x hx => by
    obtain ⟨n, hn, rfl⟩ := List.mem_map.mp hx
    have h := num n hn
    exact mem_nums.mpr (six _ (lookN_mem h.1 h.2))
  rw [List.length_map, nums_len] at this
  exact this
theorem ring_has (six : ∀ l ∈ ls, 0 ≤ l.2.1 ∧ l.2.1 < (6 : Int)) {p : List Int} (pk : PathOk ls p) (hc : closesP ls p = true) : p ∈ ringsRaw ls := by
  have l6 := few_lookers six pk.num pk.nd
  have l0 : 0 < p.length := List.length_pos_iff.mpr pk.ne
  refine found_has (j := p.length - 1) (by omega) (level_has _ pk (by omega) fun j hj => ?_) hc
  rw [← Bool.not_eq_true]
  intro h
  -- the prefix's last looker were the ring's last
  have hjl : j < p.length := by omega
  have t1 : (p.take (j + 1)).headD 0 = p.headD 0 := by
    cases p with
    | nil => rfl
    | cons a b => rfl
  have t2 : (p.take (j + 1)).getLastD 0 = p[j] := by
    rw [List.take_add_one, List.getElem?_eq_getElem hjl]
    exact getLastD_app
  have e1 : lkr ls ((p.take (j + 1)).getLastD 0) = lkd ls ((p.take (j + 1)).headD 0) := beq_iff_eq.mp h
  have e2 : lkr ls (p.getLastD 0) = lkd ls (p.headD 0) := beq_iff_eq.mp hc
  rw [t1, t2, ← e2] at e1
  have hlast := getLastD_get pk.ne
  obtain ⟨hL, hLe⟩ := List.getElem?_eq_some_iff.mp hlast
  have i1 := pk.nd.idxOf_getElem j (by rw [List.length_map]; exact hjl)
  have i2 := pk.nd.idxOf_getElem (p.length - 1) (by rw [List.length_map]; exact hL)
  rw [List.getElem_map] at i1 i2
  rw [hLe] at i2
  rw [e1] at i1
  omega
end
/-- what a ring is -/
theorem mem_rings {W : Web} (ok : W.Ok) {p : List Int} : p ∈ ringsOf W ↔ PathOk W.looks p ∧ closesP W.looks p = true :=
  ⟨fun h => ⟨(raw_ok (sortT_mem.mp h)).1, (raw_ok (sortT_mem.mp h)).2.1⟩, fun h => sortT_mem.mpr (ring_has ok.fewL.six h.1 h.2)⟩
/-- a round: looks one behind the other, through unlike folk, and back; wherever it begins -/
structure Round (ls : List Look3) (c : List Int) : Prop where
  ne : c ≠ []
  num : ∀ n ∈ c, 0 ≤ n ∧ n < ls.length
  nd : (c.map (lkr ls)).Nodup
  chain : ∀ (i : Nat) (a b : Int), c[i]? = some a → c[i + 1]? = some b → lkr ls a = lkd ls b
  close : lkr ls (c.getLastD 0) = lkd ls (c.headD 0)
section
variable {ls : List Look3}
theorem round_turn {a : Int} {r : List Int} (R : Round ls (a :: r)) : Round ls (r ++ [a]) := by
  cases r with
  | nil => exact R
  | cons b r =>
    have hl : ((a :: b :: r) : List Int).getLastD 0 = (b :: r).getLastD 0 := by simp [List.getLastD]
    refine ⟨by simp, fun n hn => R.num n (by
      rcases List.mem_append.mp hn with h | h
      · exact List.mem_cons_of_mem _ h
      · rw [List.mem_singleton.mp h]; exact List.mem_cons_self ..), ?_, fun i x y h1 h2 => ?_, ?_⟩
    · have := R.nd
      rw [List.map_append]
      exact (List.perm_append_comm (l₁ := [lkr ls a]) (l₂ := (b :: r).map (lkr ls))).nodup_iff.mp this
    · by_cases hi : i + 1 < (b :: r).length
      · rw [List.getElem?_append_left (by omega)] at h1 h2
        exact R.chain (i + 1) x y (by simpa using h1) (by simpa using h2)
      · have hi2 : i + 1 = (b :: r).length := by
          have := (List.getElem?_eq_some_iff.mp h2).1
          simp at this hi ⊢
          omega
        rw [List.getElem?_append_right (by omega), show i + 1 - (b :: r).length = 0 by omega] at h2
        rw [List.getElem?_append_left (by omega)] at h1
        have e1 := getLastD_get (p := b :: r) (by simp)
        rw [show (b :: r).length - 1 = i by omega, h1] at e1
        have hy : a = y := by simpa using h2
        have hx := Option.some.inj e1
        rw [hx, ← hy, ← hl]
        exact R.close
    · rw [getLastD_app]
      exact R.chain 0 a b rfl rfl
theorem round_ring : ∀ (k : Nat) {c : List Int} {m : Int}, Round ls c → c[k]? = some m → (∀ n ∈ c, m ≤ n) → ∃ p, PathOk ls p ∧ closesP ls p = true ∧ p.Perm c
  | 0, c, m, R, h, hm => by
    refine ⟨c, ⟨R.ne, R.num, R.nd, fun n hn => ?_, R.chain⟩, beq_iff_eq.mpr R.close, .refl _⟩
    cases c with
    | nil => cases h
    | cons a r =>
      have e : a = m := by simpa using h
      show a ≤ n
      rw [e]
      exact hm n hn
  | k + 1, c, m, R, h, hm => by
    cases c with
    | nil => cases h
    | cons a r =>
      have h' : r[k]? = some m := by simpa using h
      obtain ⟨p, h1, h2, h3⟩ := round_ring k (round_turn R) (by rw [List.getElem?_append_left (List.getElem?_eq_some_iff.mp h').1]; exact h') fun n hn => hm n (by
        rcases List.mem_append.mp hn with h | h
        · exact List.mem_cons_of_mem _ h
        · rw [List.mem_singleton.mp h]; exact List.mem_cons_self ..)
      exact ⟨p, h1, h2, h3.trans (List.perm_append_comm (l₁ := r) (l₂ := [a]))⟩
theorem least_in : ∀ {c : List Int}, c ≠ [] → ∃ m ∈ c, ∀ n ∈ c, m ≤ n
  | [a], _ => ⟨a, List.mem_cons_self .., fun n hn => by rw [List.mem_singleton.mp hn]; exact Int.le_refl _⟩
  | a :: b :: r, _ => by
    obtain ⟨m, h1, h2⟩ := least_in (c := b :: r) (by simp)
    by_cases h : a ≤ m
    · refine ⟨a, List.mem_cons_self .., fun n hn => ?_⟩
      rcases List.mem_cons.mp hn with e | hn
      · rw [e]; exact Int.le_refl _
      · exact Int.le_trans h (h2 n hn)
    · refine ⟨m, List.mem_cons_of_mem _ h1, fun n hn => ?_⟩
      rcases List.mem_cons.mp hn with e | hn
      · rw [e]; omega
      · exact h2 n hn
theorem even_perm {p c : List Int} (h : p.Perm c) : evenP ls p = evenP ls c := by
  unfold evenP
  rw [(h.filter _).length_eq]
end
/-- a round's ring -/
theorem round_has {W : Web} (ok : W.Ok) {c : List Int} (R : Round W.looks c) : ∃ p ∈ ringsOf W, p.Perm c ∧ evenP W.looks p = evenP W.looks c := by
  obtain ⟨m, hm, hl⟩ := least_in R.ne
  obtain ⟨k, hk⟩ := List.getElem?_of_mem hm
  obtain ⟨p, h1, h2, h3⟩ := round_ring k R hk hl
  exact ⟨p, (mem_rings ok).mpr ⟨h1, h2⟩, h3, even_perm h3⟩
end Lk

/-! ## RC2 -/
set_option Elab.async false
set_option linter.all false
set_option maxRecDepth 100000
set_option maxHeartbeats 2000000
/-! Followed back through some folk, looks close a round; two settled states want an even ring. -/
namespace Lk
open PySem PySem.Spec PyProof.Rows L2 Gx
variable [Own]
section
variable {ls : List Look3}
/-- a way that leads to its first looker: looks one behind the other, through unlike folk -/
structure WayOk (ls : List Look3) (c : List Int) : Prop where
  ne : c ≠ []
  num : ∀ n ∈ c, 0 ≤ n ∧ n < ls.length
  nd : (c.map (lkr ls)).Nodup
  chain : ∀ (i : Nat) (a b : Int), c[i]? = some a → c[i + 1]? = some b → lkr ls a = lkd ls b
theorem way_take {c : List Int} (w : WayOk ls c) (k : Nat) : WayOk ls (c.take (k + 1)) := by
  refine ⟨fun z => ?_, fun n hn => w.num n (List.mem_of_mem_take hn), ?_, fun i a b h1 h2 => ?_⟩
  · have := w.ne
    cases c with
    | nil => exact this rfl
    | cons a r => simp at z
  · rw [List.map_take]
    exact w.nd.sublist (List.take_sublist _ _)
  · have i2 := (List.getElem?_eq_some_iff.mp h2).1
    rw [List.length_take] at i2
    rw [List.getElem?_take_of_lt (by omega)] at h1 h2
    exact w.chain i a b h1 h2
/-- whoever is in D has a good look from one in D: then good looks close a round -/
theorem back_round (six : ∀ l ∈ ls, 0 ≤ l.2.1 ∧ l.2.1 < (6 : Int)) {D : Int → Prop} {good : Int → Prop} (back : ∀ f, D f → ∃ n : Int, (0 ≤ n ∧ n < ls.length) ∧ lkr ls n = f ∧ D (lkd ls n) ∧ good n) :
    ∀ (k : Nat) {c : List Int}, c.length + k = 7 → WayOk ls c → D (lkd ls (c.headD 0)) → (∀ n ∈ c, good n) → ∃ r, Round ls r ∧ ∀ n ∈ r, good n
  | 0, c, hk, w, _, _ => by
    have := few_lookers six w.num w.nd
    omega
  | k + 1, c, hk, w, hd, hg => by
    by_cases hm : lkd ls (c.headD 0) ∈ c.map (lkr ls)
    · obtain ⟨j, hj⟩ := List.getElem?_of_mem hm
      rw [List.getElem?_map] at hj
      cases e : c[j]? with
      | none => rw [e] at hj; cases hj
      | some a =>
        rw [e] at hj
        have hj : lkr ls a = lkd ls (c.headD 0) := Option.some.inj hj
        have w2 := way_take w j
        refine ⟨c.take (j + 1), ⟨w2.ne, w2.num, w2.nd, w2.chain, ?_⟩, fun n hn => hg n (List.mem_of_mem_take hn)⟩
        have t1 : (c.take (j + 1)).headD 0 = c.headD 0 := by
          cases c with
          | nil => rfl
          | cons a b => rfl
        have t2 : (c.take (j + 1)).getLastD 0 = a := by
          rw [List.take_add_one, e]
          exact getLastD_app
        rw [t1, t2]
        exact hj
    · obtain ⟨n, hn, h1, h2, h3⟩ := back _ hd
      refine back_round six back k (c := n :: c) (by simp; omega) ⟨by simp, fun m hm => ?_, ?_, fun i a b g1 g2 => ?_⟩ h2 (fun m hm => ?_)
      · rcases List.mem_cons.mp hm with e | hm
        · rw [e]; exact hn
        · exact w.num m hm
      · rw [List.map_cons, List.nodup_cons, h1]
        exact ⟨hm, w.nd⟩
      · cases i with
        | zero =>
          have e1 : n = a := by simpa using g1
          have e2 : c[0]? = some b := by simpa using g2
          have e3 : c.headD 0 = b := by
            cases c with
            | nil => cases e2
            | cons x y => simpa using e2
          rw [← e1, h1, e3]
        | succ i => exact w.chain i a b (by simpa using g1) (by simpa using g2)
      · rcases List.mem_cons.mp hm with e | hm
        · rw [e]; exact h3
        · exact hg m hm
/-- one good look begins it -/
theorem back_some (six : ∀ l ∈ ls, 0 ≤ l.2.1 ∧ l.2.1 < (6 : Int)) {D : Int → Prop} {good : Int → Prop} (back : ∀ f, D f → ∃ n : Int, (0 ≤ n ∧ n < ls.length) ∧ lkr ls n = f ∧ D (lkd ls n) ∧ good n) {f : Int} (hf : D f) : ∃ r, Round ls r ∧ ∀ n ∈ r, good n := by
  obtain ⟨n, hn, _, h2, h3⟩ := back f hf
  exact back_round six back 6 (c := [n]) rfl ⟨by simp, fun m hm => by rw [List.mem_singleton.mp hm]; exact hn, by simp, fun i a b _ g2 => by simp at g2⟩ h2 fun m hm => by rw [List.mem_singleton.mp hm]; exact h3
/-- along a round whose looks go with a side: the round is even -/
theorem round_even {W : Web} (ok : W.Ok) {c : List Int} (R : Round W.looks c) (side : Int → Bool) (hs : ∀ n ∈ c, decide (lks W.looks n = 1) = (side (lkd W.looks n) == side (lkr W.looks n))) : evenP W.looks c = true := by
  have along : ∀ (i : Nat) (a : Int), c[i]? = some a → flipTo W.looks (c.take (i + 1)) (side (lkd W.looks (c.headD 0))) = side (lkr W.looks a) := by
    intro i
    induction i with
    | zero =>
      intro a h
      have e : c.headD 0 = a := by
        cases c with
        | nil => cases h
        | cons x y => simpa using h
      rw [take_one h, e]
      show (_ == _) = _
      rw [hs a (List.mem_of_getElem? h)]
      generalize side (lkd W.looks a) = x
      generalize side (lkr W.looks a) = y
      cases x <;> cases y <;> rfl
    | succ j ih =>
      intro a h
      obtain ⟨a', h'⟩ : ∃ a', c[j]? = some a' := ⟨_, List.getElem?_eq_getElem (by have := (List.getElem?_eq_some_iff.mp h).1; omega)⟩
      rw [take_one h, flip_snoc, ih a' h', R.chain j a' a h' h, hs a (List.mem_of_getElem? h)]
      generalize side (lkd W.looks a) = x
      generalize side (lkr W.looks a) = y
      cases x <;> cases y <;> rfl
  have l1 := getLastD_get R.ne
  have l0 : 0 < c.length := List.length_pos_iff.mpr R.ne
  have e := along _ _ l1
  rw [List.take_of_length_le (by omega), flip_even _ _ _ fun n hn => sign_of ok (R.num n hn).1 (R.num n hn).2, R.close] at e
  revert e
  generalize side (lkd W.looks (c.headD 0)) = x
  cases evenP W.looks c <;> cases x <;> decide
end
/-- a row that doesn't go: one of its places does the other way -/
theorem goes_not : ∀ {ss xs ys : List Int}, lawGoes ss xs ys = false → ∃ (i : Nat) (s x y : Int), ss[i]? = some s ∧ xs[i]? = some x ∧ ys[i]? = some y ∧ s * (y - x) < 0
  | s :: ss, x :: xs, y :: ys, h => by
    unfold lawGoes at h
    by_cases hd : s * (y - x) < 0
    · exact ⟨0, s, x, y, rfl, rfl, rfl, hd⟩
    · rw [decide_eq_false hd] at h
      obtain ⟨i, a, b, c, h1, h2, h3, h4⟩ := goes_not (ss := ss) (xs := xs) (ys := ys) (by simpa using h)
      exact ⟨i + 1, a, b, c, by simpa using h1, by simpa using h2, by simpa using h3, h4⟩
  | [], _, _, h => by simp [lawGoes] at h
  | _ :: _, [], _, h => by simp [lawGoes] at h
  | _ :: _, _ :: _, [], h => by simp [lawGoes] at h
section
variable {W : Web} {ru : List (List Int)} {x y : List Int}
/-- a look of somebody's, by its number -/
theorem look_number {f : Int} {l : Int × Int} (h : l ∈ looksOf W f) : ∃ n : Int, (0 ≤ n ∧ n < W.looks.length) ∧ lkr W.looks n = f ∧ lkd W.looks n = l.1 ∧ lks W.looks n = l.2 := by
  unfold looksOf at h
  obtain ⟨k, hk, rfl⟩ := List.mem_map.mp h
  obtain ⟨hk, hf⟩ := List.mem_filter.mp hk
  obtain ⟨i, hi⟩ := List.getElem?_of_mem hk
  have hlt := (List.getElem?_eq_some_iff.mp hi).1
  have e : lookN W.looks (i : Int) = k := by
    unfold lookN
    rw [Int.toNat_natCast, List.getD_eq_getElem?_getD, hi] <;> rfl
  refine ⟨(i : Int), ⟨by omega, by omega⟩, ?_, ?_, ?_⟩
  · unfold lkr; rw [e]; exact beq_iff_eq.mp hf
  · unfold lkd; rw [e]
  · unfold lks; rw [e]
/-- a mood told higher in one state than in another: some look says why -/
theorem told_why (ok : W.Ok) {f : Int} {tb : List Int} (ht : isTable W f tb = true) (sx : StOk W x) (sy : StOk W y) (h : tb.getD (placeOf W x f).toNat 0 < tb.getD (placeOf W y f).toNat 0) :
    ∃ l ∈ looksOf W f, 0 < l.2 * (stAt y l.1 - stAt x l.1) := by
  have al := ((isTable_iff ok).mp ht).2.2
  obtain ⟨_, px⟩ := place_row (W := W) (st := x) (ls := looksOf W f) fun l hl => sx.bd l.1 (looksOf_ok ok l hl).1.1 (looksOf_ok ok l hl).1.2
  obtain ⟨_, py⟩ := place_row (W := W) (st := y) (ls := looksOf W f) fun l hl => sy.bd l.1 (looksOf_ok ok l hl).1.1 (looksOf_ok ok l hl).1.2
  cases hg : lawGoes ((axes W (looksOf W f)).map (·.2)) ((looksOf W f).map fun l => stAt y l.1) ((looksOf W f).map fun l => stAt x l.1) with
  | true =>
    have h2 : tb.getD (placeOf W y f).toNat 0 ≤ tb.getD (placeOf W x f).toNat 0 := al _ _ _ _ py px hg
    omega
  | false =>
    obtain ⟨i, s, a, b, h1, h2, h3, h4⟩ := goes_not hg
    unfold axes at h1
    rw [List.map_map, List.getElem?_map] at h1
    rw [List.getElem?_map] at h2 h3
    cases e : (looksOf W f)[i]? with
    | none => rw [e] at h1; cases h1
    | some l =>
      rw [e] at h1 h2 h3
      have h1 : l.2 = s := Option.some.inj h1
      have h2 : stAt y l.1 = a := Option.some.inj h2
      have h3 : stAt x l.1 = b := Option.some.inj h3
      refine ⟨l, List.mem_of_getElem? e, ?_⟩
      rw [h1, h2, h3]
      have : s * (a - b) = -(s * (b - a)) := by rw [← Int.mul_neg]; congr 1; omega
      omega
/-- two settled states: then there is an even ring -/
theorem two_even (ok : W.Ok) (r0 : Ru0 W ru) (hb : firstBad W ru = none) (hx : x ∈ settledStates W ru) (hy : y ∈ settledStates W ru) (ne : x ≠ y) : ∃ p ∈ ringsOf W, evenP W.looks p = true := by
  obtain ⟨x1, x2⟩ := List.mem_filter.mp hx
  obtain ⟨y1, y2⟩ := List.mem_filter.mp hy
  have x2 : stateTold W ru x = x := of_decide_eq_true x2
  have y2 : stateTold W ru y = y := of_decide_eq_true y2
  have sx := rows_st x1
  have sy := rows_st y1
  have fx : ∀ f : Int, 0 ≤ f → f < W.tops.length → stAt x f = (ru.getD f.toNat []).getD (placeOf W x f).toNat 0 := fun f h0 h1 => by
    have := told_at (W := W) (ru := ru) (st := x) (f := f) h0 (by rw [sx.len]; exact h1)
    rw [x2] at this
    exact this
  have fy : ∀ f : Int, 0 ≤ f → f < W.tops.length → stAt y f = (ru.getD f.toNat []).getD (placeOf W y f).toNat 0 := fun f h0 h1 => by
    have := told_at (W := W) (ru := ru) (st := y) (f := f) h0 (by rw [sy.len]; exact h1)
    rw [y2] at this
    exact this
  let side : Int → Bool := fun g => decide (stAt x g < stAt y g)
  have back : ∀ f : Int, ((0 ≤ f ∧ f < W.tops.length) ∧ stAt x f ≠ stAt y f) → ∃ n : Int, (0 ≤ n ∧ n < W.looks.length) ∧ lkr W.looks n = f ∧ ((0 ≤ lkd W.looks n ∧ lkd W.looks n < W.tops.length) ∧ stAt x (lkd W.looks n) ≠ stAt y (lkd W.looks n)) ∧ decide (lks W.looks n = 1) = (side (lkd W.looks n) == side (lkr W.looks n)) := by
    rintro f ⟨⟨h0, h1⟩, hne⟩
    have ht := firstBad_none hb f h0 h1
    rcases Int.lt_or_gt_of_ne hne with hlt | hgt
    · have h := told_why ok ht sx sy (by rw [← fx f h0 h1, ← fy f h0 h1]; exact hlt)
      obtain ⟨l, hl, hp⟩ := h
      obtain ⟨n, hn, e1, e2, e3⟩ := look_number hl
      have lo := looksOf_ok ok l hl
      refine ⟨n, hn, e1, ?_, ?_⟩
      · rw [e2]
        refine ⟨lo.1, fun z => ?_⟩
        rw [z, Int.sub_self, Int.mul_zero] at hp
        omega
      · show _ = (decide _ == decide _)
        rw [e1, e2, e3, decide_eq_true hlt]
        rcases lo.2 with s1 | s1
        · rw [s1] at hp ⊢
          rw [decide_eq_true (show stAt x l.1 < stAt y l.1 by omega)]
          rfl
        · rw [s1] at hp ⊢
          rw [decide_eq_false (show ¬ stAt x l.1 < stAt y l.1 by omega)]
          rfl
    · have h := told_why ok ht sy sx (by rw [← fx f h0 h1, ← fy f h0 h1]; exact hgt)
      obtain ⟨l, hl, hp⟩ := h
      obtain ⟨n, hn, e1, e2, e3⟩ := look_number hl
      have lo := looksOf_ok ok l hl
      refine ⟨n, hn, e1, ?_, ?_⟩
      · rw [e2]
        refine ⟨lo.1, fun z => ?_⟩
        rw [z, Int.sub_self, Int.mul_zero] at hp
        omega
      · show _ = (decide _ == decide _)
        rw [e1, e2, e3, decide_eq_false (show ¬ stAt x f < stAt y f by omega)]
        rcases lo.2 with s1 | s1
        · rw [s1] at hp ⊢
          rw [decide_eq_false (show ¬ stAt x l.1 < stAt y l.1 by omega)]
          rfl
        · rw [s1] at hp ⊢
          rw [decide_eq_true (show stAt x l.1 < stAt y l.1 by omega)]
          rfl
  obtain ⟨f, hf⟩ : ∃ f : Int, (0 ≤ f ∧ f < W.tops.length) ∧ stAt x f ≠ stAt y f := by
    refine Classical.byContradiction fun h => ne ?_
    refine List.ext_getElem? fun i => ?_
    by_cases hi : i < W.tops.length
    · have g : ∀ st : List Int, StOk W st → st[i]? = some (stAt st (i : Int)) := fun st so => stAt_get (st := st) (i := (i : Int)) (by omega) (by rw [so.len]; omega)
      rw [g x sx, g y sy]
      congr 1
      exact Classical.byContradiction fun z => h ⟨(i : Int), ⟨by omega, by omega⟩, z⟩
    · rw [List.getElem?_eq_none (by rw [sx.len]; omega), List.getElem?_eq_none (by rw [sy.len]; omega)]
  obtain ⟨c, R, hg⟩ := back_some (D := fun f => (0 ≤ f ∧ f < W.tops.length) ∧ stAt x f ≠ stAt y f) (good := fun n => decide (lks W.looks n = 1) = (side (lkd W.looks n) == side (lkr W.looks n))) ok.fewL.six back hf
  obtain ⟨p, hp, _, e⟩ := round_has ok R
  exact ⟨p, hp, by rw [e]; exact round_even ok R side hg⟩
end
end Lk

/-! ## RC3 -/
set_option Elab.async false
set_option linter.all false
set_option maxRecDepth 100000
set_option maxHeartbeats 2000000
/-! Closed walks of looks: an odd one holds an odd ring. -/
namespace Lk
open PySem PySem.Spec PyProof.Rows L2 Gx
variable [Own]
section
variable {ls : List Look3}
/-- looks one behind the other -/
structure Walk1 (ls : List Look3) (c : List Int) : Prop where
  num : ∀ n ∈ c, 0 ≤ n ∧ n < ls.length
  chain : ∀ (i : Nat) (a b : Int), c[i]? = some a → c[i + 1]? = some b → lkr ls a = lkd ls b
/-- .. and back -/
structure Loop1 (ls : List Look3) (c : List Int) : Prop where
  ne : c ≠ []
  w : Walk1 ls c
  close : lkr ls (c.getLastD 0) = lkd ls (c.headD 0)
theorem odd_app (p q : List Int) : evenP ls (p ++ q) = (evenP ls p == evenP ls q) := by
  unfold evenP
  rw [List.filter_append, List.length_append]
  generalize (p.filter fun n => lks ls n == -1).length = a
  generalize (q.filter fun n => lks ls n == -1).length = b
  rw [Bool.eq_iff_iff]
  simp only [beq_iff_eq]
  have h1 : (a % 2 == 0) = decide (a % 2 = 0) := by by_cases h : a % 2 = 0 <;> simp [h]
  have h2 : (b % 2 == 0) = decide (b % 2 = 0) := by by_cases h : b % 2 = 0 <;> simp [h]
  rw [h1, h2]
  by_cases ha : a % 2 = 0 <;> by_cases hb : b % 2 = 0 <;> simp [ha, hb] <;> omega
theorem walk_left {p q : List Int} (w : Walk1 ls (p ++ q)) : Walk1 ls p := ⟨fun n hn => w.num n (List.mem_append_left _ hn), fun i a b h1 h2 => by
  have := (List.getElem?_eq_some_iff.mp h2).1
  exact w.chain i a b (by rw [List.getElem?_append_left (by omega)]; exact h1) (by rw [List.getElem?_append_left (by omega)]; exact h2)⟩
theorem walk_right {p q : List Int} (w : Walk1 ls (p ++ q)) : Walk1 ls q := ⟨fun n hn => w.num n (List.mem_append_right _ hn), fun i a b h1 h2 => by
  exact w.chain (p.length + i) a b (by rw [List.getElem?_append_right (by omega), Nat.add_sub_cancel_left]; exact h1) (by rw [List.getElem?_append_right (by omega), show p.length + i + 1 - p.length = i + 1 by omega]; exact h2)⟩
theorem walk_join {p q : List Int} (hp : p ≠ []) (hq : q ≠ []) (w1 : Walk1 ls p) (w2 : Walk1 ls q) (h : lkr ls (p.getLastD 0) = lkd ls (q.headD 0)) : Walk1 ls (p ++ q) := by
  have lp : 0 < p.length := List.length_pos_iff.mpr hp
  have lq : 0 < q.length := List.length_pos_iff.mpr hq
  refine ⟨fun n hn => ?_, fun i a b h1 h2 => ?_⟩
  · rcases List.mem_append.mp hn with h | h
    · exact w1.num n h
    · exact w2.num n h
  · by_cases hi : i + 1 < p.length
    · rw [List.getElem?_append_left (by omega)] at h1 h2
      exact w1.chain i a b h1 h2
    · by_cases hi2 : i + 1 = p.length
      · rw [List.getElem?_append_left (by omega)] at h1
        rw [List.getElem?_append_right (by omega), hi2, Nat.sub_self] at h2
        have e1 := getLastD_get hp
        rw [show p.length - 1 = i by omega, h1] at e1
        have e2 : q.headD 0 = b := by
          cases q with
          | nil => cases h2
          | cons x y => simpa using h2
        rw [Option.some.inj e1, h, e2]
      · rw [List.getElem?_append_right (by omega)] at h1 h2
        exact w2.chain (i - p.length) a b h1 (by rw [show i - p.length + 1 = i + 1 - p.length by omega]; exact h2)
theorem join_link {p q : List Int} (hp : p ≠ []) (hq : q ≠ []) (w : Walk1 ls (p ++ q)) : lkr ls (p.getLastD 0) = lkd ls (q.headD 0) := by
  have lp : 0 < p.length := List.length_pos_iff.mpr hp
  have e2 : q[0]? = some (q.headD 0) := by
    cases q with
    | nil => exact absurd rfl hq
    | cons x y => rfl
  exact w.chain (p.length - 1) _ _ (by rw [List.getElem?_append_left (by omega)]; exact getLastD_get hp) (by rw [List.getElem?_append_right (by omega), show p.length - 1 + 1 - p.length = 0 by omega]; exact e2)
theorem last_app {p q : List Int} (hq : q ≠ []) : (p ++ q).getLastD 0 = q.getLastD 0 := by
  rw [List.getLastD_eq_getLast?, List.getLastD_eq_getLast?, List.getLast?_append]
  cases h : q.getLast? with
  | none => exact absurd (List.getLast?_eq_none_iff.mp h) hq
  | some v => rfl
/-- two places with one looker part a loop in two -/
theorem twice_split {c : List Int} (h : ¬ (c.map (lkr ls)).Nodup) : ∃ (p q r : List Int), c = p ++ q ++ r ∧ p ≠ [] ∧ q ≠ [] ∧ lkr ls (p.getLastD 0) = lkr ls (q.getLastD 0) := by
  have h2 : ¬ ∀ (i j : Nat), i < j → ∀ (a b : Int), c[i]? = some a → c[j]? = some b → lkr ls a ≠ lkr ls b := by
    intro z
    refine h ?_
    rw [List.Nodup, List.pairwise_map, List.pairwise_iff_getElem]
    intro i j hi hj hij
    exact z i j hij _ _ (List.getElem?_eq_getElem hi) (List.getElem?_eq_getElem hj)
  have ⟨i, h2⟩ := Classical.not_forall.mp h2
  have ⟨j, h2⟩ := Classical.not_forall.mp h2
  have ⟨hij, h2⟩ := Classical.not_forall.mp h2
  have ⟨a, h2⟩ := Classical.not_forall.mp h2
  have ⟨b, h2⟩ := Classical.not_forall.mp h2
  have ⟨ha, h2⟩ := Classical.not_forall.mp h2
  have ⟨hb, h2⟩ := Classical.not_forall.mp h2
  have e : lkr ls a = lkr ls b := Classical.not_not.mp h2
  have hj := (List.getElem?_eq_some_iff.mp hb).1
  have hi := (List.getElem?_eq_some_iff.mp ha).1
  have ep : (c.take (i + 1)).getLastD 0 = a := by
    rw [List.take_add_one, ha]
    exact getLastD_app
  have eq0 : (c.take (j + 1)).drop (i + 1) ≠ [] := by
    intro z
    have := congrArg List.length z
    simp at this
    omega
  have eq1 : ((c.take (j + 1)).drop (i + 1)).getLastD 0 = b := by
    have e1 : (c.take (j + 1)).take (i + 1) ++ (c.take (j + 1)).drop (i + 1) = c.take (j + 1) := List.take_append_drop ..
    have e2 := last_app (p := (c.take (j + 1)).take (i + 1)) eq0
    rw [e1] at e2
    rw [← e2, List.take_add_one, hb]
    exact getLastD_app
  refine ⟨c.take (i + 1), (c.take (j + 1)).drop (i + 1), c.drop (j + 1), ?_, ?_, eq0, by rw [ep, eq1]; exact e⟩
  · have e1 : c.take (i + 1) = (c.take (j + 1)).take (i + 1) := by rw [List.take_take, Nat.min_eq_left (by omega)]
    rw [e1, List.take_append_drop, List.take_append_drop]
  · intro z
    have := congrArg List.length z
    rw [List.length_take, List.length_nil] at this
    omega
theorem odd_loop : ∀ (k : Nat) {c : List Int}, c.length ≤ k → Loop1 ls c → evenP ls c = false → ∃ r, Round ls r ∧ evenP ls r = false
  | 0, c, hk, L, _ => absurd (List.eq_nil_of_length_eq_zero (Nat.le_zero.mp hk)) L.ne
  | k + 1, c, hk, L, ho => by
    by_cases hn : (c.map (lkr ls)).Nodup
    · exact ⟨c, ⟨L.ne, L.w.num, hn, L.w.chain, L.close⟩, ho⟩
    · obtain ⟨p, q, r, rfl, hp, hq, e⟩ := twice_split hn
      have lp : 0 < p.length := List.length_pos_iff.mpr hp
      have lq : 0 < q.length := List.length_pos_iff.mpr hq
      have hl : (p ++ q ++ r).length = p.length + q.length + r.length := by rw [List.length_append, List.length_append]
      rw [odd_app, odd_app] at ho
      have wpq := walk_left L.w
      have wr := walk_right L.w
      have wp := walk_left wpq
      have wq := walk_right wpq
      have link := join_link hp hq wpq
      -- the inner loop
      have Lq : Loop1 ls q := ⟨hq, wq, by rw [← e]; exact link⟩
      by_cases hoq : evenP ls q = false
      · exact odd_loop k (by omega) Lq hoq
      · have hoq : evenP ls q = true := by simpa using hoq
        by_cases hr : r = []
        · subst hr
          have Lp : Loop1 ls p := by
            refine ⟨hp, wp, ?_⟩
            have := L.close
            rw [List.append_nil, last_app hq, headD_app hp] at this
            rw [e]
            exact this
          refine odd_loop k (by omega) Lp ?_
          rw [hoq] at ho
          have e0 : evenP ls [] = true := rfl
          rw [e0] at ho
          revert ho
          cases evenP ls p <;> decide
        · have link2 := join_link (p := p ++ q) (by simp [hp]) hr L.w
          rw [last_app hq, ← e] at link2
          have Lpr : Loop1 ls (p ++ r) := by
            refine ⟨by simp [hp], walk_join hp hr wp wr link2, ?_⟩
            have := L.close
            rw [last_app hr, List.append_assoc, headD_app hp] at this
            rw [last_app hr, headD_app hp]
            exact this
          refine odd_loop k (by rw [List.length_append]; omega) Lpr ?_
          rw [odd_app]
          rw [hoq] at ho
          revert ho
          cases evenP ls p <;> cases evenP ls r <;> decide
end
/-- where no ring is odd, no loop is -/
theorem loop_even {W : Web} (ok : W.Ok) (h : ∀ p ∈ ringsOf W, evenP W.looks p = true) {c : List Int} (L : Loop1 W.looks c) : evenP W.looks c = true := by
  cases e : evenP W.looks c with
  | true => rfl
  | false =>
    obtain ⟨r, R, ho⟩ := odd_loop c.length (Nat.le_refl _) L e
    obtain ⟨p, hp, _, e2⟩ := round_has ok R
    rw [h p hp] at e2
    rw [← e2] at ho
    cases ho
end Lk

/-! ## RC4 -/
set_option Elab.async false
set_option linter.all false
set_option maxRecDepth 100000
set_option maxHeartbeats 2000000
/-! Where no ring is odd: those who lead to one another have sides. -/
namespace Lk
open PySem PySem.Spec PyProof.Rows L2 Gx
variable [Own]
section
variable {W : Web} {U : Int → Prop}
/-- a way of looks from h to g through folk of U -/
def Way (W : Web) (U : Int → Prop) (h g : Int) (c : List Int) : Prop :=
  (c = [] ∧ h = g) ∨ (c ≠ [] ∧ Walk1 W.looks c ∧ lkd W.looks (c.headD 0) = h ∧ lkr W.looks (c.getLastD 0) = g ∧ ∀ n ∈ c, U (lkd W.looks n) ∧ U (lkr W.looks n))
theorem way_join {h g k : Int} {c d : List Int} (a : Way W U h g c) (b : Way W U g k d) : Way W U h k (c ++ d) := by
  rcases a with ⟨rfl, rfl⟩ | ⟨c0, w1, a1, a2, a3⟩
  · exact b
  · rcases b with ⟨rfl, rfl⟩ | ⟨d0, w2, b1, b2, b3⟩
    · rw [List.append_nil]
      exact .inr ⟨c0, w1, a1, a2, a3⟩
    · refine .inr ⟨by simp [c0], walk_join c0 d0 w1 w2 (a2.trans b1.symm), by rw [headD_app c0]; exact a1, by rw [last_app d0]; exact b2, fun n hn => ?_⟩
      rcases List.mem_append.mp hn with h | h
      · exact a3 n h
      · exact b3 n h
theorem way_loop (ok : W.Ok) (hr : ∀ p ∈ ringsOf W, evenP W.looks p = true) {h : Int} {c : List Int} (a : Way W U h h c) : evenP W.looks c = true := by
  rcases a with ⟨rfl, _⟩ | ⟨c0, w1, a1, a2, _⟩
  · rfl
  · exact loop_even ok hr ⟨c0, w1, a2.trans a1.symm⟩
theorem way_one {n : Int} (hn : 0 ≤ n ∧ n < W.looks.length) (h1 : U (lkd W.looks n)) (h2 : U (lkr W.looks n)) : Way W U (lkd W.looks n) (lkr W.looks n) [n] :=
  .inr ⟨by simp, ⟨fun m hm => by rw [List.mem_singleton.mp hm]; exact hn, fun i a b _ h => by simp at h⟩, rfl, rfl, fun m hm => by rw [List.mem_singleton.mp hm]; exact ⟨h1, h2⟩⟩
theorem even_one (ok : W.Ok) {n : Int} (hn : 0 ≤ n ∧ n < W.looks.length) : evenP W.looks [n] = decide (lks W.looks n = 1) := by
  rw [even_cons]
  rcases sign_of ok hn.1 hn.2 with e | e
  · rw [e, if_neg (by decide)]
    rfl
  · rw [e, if_pos rfl]
    rfl
/-- those of U that lead to f -/
def Anc (W : Web) (U : Int → Prop) (h f : Int) : Prop := U h ∧ ∃ c, Way W U h f c
open Classical in
/-- a side: an even way from f -/
noncomputable def sideOf (W : Web) (U : Int → Prop) (f g : Int) : Bool := decide (∃ c, Way W U f g c ∧ evenP W.looks c = true)
open Classical in
theorem side_way (ok : W.Ok) (hr : ∀ p ∈ ringsOf W, evenP W.looks p = true) {f g : Int} {c b : List Int} (a : Way W U f g c) (back : Way W U g f b) : sideOf W U f g = evenP W.looks c := by
  have key : ∀ d, Way W U f g d → evenP W.looks d = evenP W.looks c := fun d hd => by
    have h1 := way_loop ok hr (way_join a back)
    have h2 := way_loop ok hr (way_join hd back)
    rw [odd_app] at h1 h2
    revert h1 h2
    cases evenP W.looks d <;> cases evenP W.looks c <;> cases evenP W.looks b <;> decide
  unfold sideOf
  cases e : evenP W.looks c with
  | true => exact decide_eq_true ⟨c, a, e⟩
  | false =>
    refine decide_eq_false ?_
    rintro ⟨d, hd, he⟩
    rw [key d hd, e] at he
    cases he
/-- a look between folk that lead to one another goes with their sides -/
theorem side_look (ok : W.Ok) (hr : ∀ p ∈ ringsOf W, evenP W.looks p = true) {f n : Int} (hn : 0 ≤ n ∧ n < W.looks.length) (u1 : U (lkd W.looks n)) (u2 : U (lkr W.looks n))
    (h1 : ∃ c, Way W U f (lkd W.looks n) c) (h2 : ∃ c, Way W U (lkr W.looks n) f c) : decide (lks W.looks n = 1) = (sideOf W U f (lkd W.looks n) == sideOf W U f (lkr W.looks n)) := by
  obtain ⟨c, hc⟩ := h1
  obtain ⟨b, hb⟩ := h2
  have one := way_one hn u1 u2
  rw [side_way ok hr hc (way_join one hb), side_way ok hr (way_join hc one) hb, odd_app, even_one ok hn]
  cases evenP W.looks c <;> cases decide (lks W.looks n = 1) <;> rfl
end
section
variable {W : Web} {ru : List (List Int)}
/-- told the same where those looked at have the same moods -/
theorem place_same {x y : List Int} {f : Int} (h : ∀ l ∈ looksOf W f, stAt x l.1 = stAt y l.1) : placeOf W x f = placeOf W y f := by
  unfold placeOf
  have : ∀ (ls : List (Int × Int)) (a : Int), (∀ l ∈ ls, stAt x l.1 = stAt y l.1) → ls.foldl (placeStep W x) a = ls.foldl (placeStep W y) a := by
    intro ls
    induction ls with
    | nil => exact fun _ _ => rfl
    | cons l ls ih =>
      intro a hl
      rw [List.foldl_cons, List.foldl_cons]
      have e : placeStep W x a l = placeStep W y a l := by unfold placeStep; rw [hl l (List.mem_cons_self ..)]
      rw [e]
      exact ih _ fun m hm => hl m (List.mem_cons_of_mem _ hm)
  exact this _ _ h
theorem mood_same {x y : List Int} {f : Int} (h : ∀ l ∈ looksOf W f, stAt x l.1 = stAt y l.1) : moodTold W ru x f = moodTold W ru y f := by
  unfold moodTold
  rw [place_same h]
open Classical in
/-- a tick of those in A alone -/
noncomputable def tickA (W : Web) (ru : List (List Int)) (A : Int → Prop) (st : List Int) : List Int := (List.range W.tops.length).map fun f : Nat => if A (f : Int) then moodTold W ru st (f : Int) else stAt st (f : Int)
open Classical in
theorem tickA_at {A : Int → Prop} {st : List Int} {f : Int} (h0 : 0 ≤ f) (h1 : f < W.tops.length) : stAt (tickA W ru A st) f = if A f then moodTold W ru st f else stAt st f := by
  unfold tickA
  show List.getD _ _ _ = _
  rw [List.getD_eq_getElem?_getD, List.getElem?_map, List.getElem?_range (by omega)]
  show (if A ((f.toNat : Nat) : Int) then moodTold W ru st ((f.toNat : Nat) : Int) else stAt st ((f.toNat : Nat) : Int)) = _
  rw [show ((f.toNat : Nat) : Int) = f by omega]
theorem mood_bd (ok : W.Ok) (r0 : Ru0 W ru) (hb : firstBad W ru = none) {st : List Int} (so : StOk W st) {f : Int} (h0 : 0 ≤ f) (h1 : f < W.tops.length) : 0 ≤ moodTold W ru st f ∧ moodTold W ru st f ≤ topAt W f := by
  have h := (told_ok ok r0 hb so).bd f h0 h1
  rw [told_at h0 (by rw [so.len]; exact h1)] at h
  exact h
theorem tickA_ok (ok : W.Ok) (r0 : Ru0 W ru) (hb : firstBad W ru = none) {A : Int → Prop} {st : List Int} (so : StOk W st) : StOk W (tickA W ru A st) := by
  refine ⟨by unfold tickA; rw [List.length_map, List.length_range], fun f h0 h1 => ?_⟩
  rw [tickA_at h0 h1]
  split
  · exact mood_bd ok r0 hb so h0 h1
  · exact so.bd f h0 h1
/-- x below y: by sides in A, alike elsewhere -/
def LeA (W : Web) (A : Int → Prop) (side : Int → Bool) (x y : List Int) : Prop := ∀ f : Int, 0 ≤ f → f < W.tops.length → (A f → if side f = true then stAt x f ≤ stAt y f else stAt y f ≤ stAt x f) ∧ (¬ A f → stAt x f = stAt y f)
/-- looks within A go with sides: then ticks of A keep the order -/
theorem tickA_mono (ok : W.Ok) (hb : firstBad W ru = none) {A : Int → Prop} {side : Int → Bool} (hs : ∀ n : Int, 0 ≤ n → n < W.looks.length → A (lkd W.looks n) → A (lkr W.looks n) → decide (lks W.looks n = 1) = (side (lkd W.looks n) == side (lkr W.looks n)))
    {x y : List Int} (sx : StOk W x) (sy : StOk W y) (h : LeA W A side x y) : LeA W A side (tickA W ru A x) (tickA W ru A y) := by
  intro f h0 h1
  rw [tickA_at h0 h1, tickA_at h0 h1]
  refine ⟨fun hA => ?_, fun hA => by rw [if_neg hA, if_neg hA]; exact (h f h0 h1).2 hA⟩
  rw [if_pos hA, if_pos hA]
  have ht := firstBad_none hb f h0 h1
  -- a look that went the other way
  have no : ∀ {a b : List Int}, StOk W a → StOk W b → (∀ l ∈ looksOf W f, ¬ 0 < l.2 * (stAt b l.1 - stAt a l.1)) → moodTold W ru b f ≤ moodTold W ru a f := fun {a b} sa sb hn => by
    refine Int.not_lt.mp fun hlt => ?_
    obtain ⟨l, hl, hp⟩ := told_why ok ht sa sb hlt
    exact hn l hl hp
  have at_ : ∀ l ∈ looksOf W f, (stAt x l.1 = stAt y l.1) ∨ (A l.1 ∧ (decide (l.2 = 1) = (side l.1 == side f)) ∧ (if side l.1 = true then stAt x l.1 ≤ stAt y l.1 else stAt y l.1 ≤ stAt x l.1)) := fun l hl => by
    obtain ⟨n, hn, e1, e2, e3⟩ := look_number hl
    have lo := (looksOf_ok ok l hl).1
    by_cases hg : A l.1
    · have h2 := hs n hn.1 hn.2 (by rw [e2]; exact hg) (by rw [e1]; exact hA)
      rw [e1, e2, e3] at h2
      exact .inr ⟨hg, h2, (h l.1 lo.1 lo.2).1 hg⟩
    · exact .inl ((h l.1 lo.1 lo.2).2 hg)
  by_cases hsf : side f = true
  · rw [if_pos hsf]
    refine no sy sx fun l hl => ?_
    rcases at_ l hl with e | ⟨_, e1, e2⟩
    · rw [e, Int.sub_self, Int.mul_zero]
      omega
    · rw [hsf] at e1
      rcases (looksOf_ok ok l hl).2 with s1 | s1
      · rw [s1] at e1 ⊢
        have : side l.1 = true := by
          revert e1
          cases side l.1 <;> decide
        rw [if_pos this] at e2
        omega
      · rw [s1] at e1 ⊢
        have : side l.1 = false := by
          revert e1
          cases side l.1 <;> decide
        rw [this, if_neg (by decide)] at e2
        omega
  · rw [if_neg hsf]
    have hsf : side f = false := by simpa using hsf
    refine no sx sy fun l hl => ?_
    rcases at_ l hl with e | ⟨_, e1, e2⟩
    · rw [e, Int.sub_self, Int.mul_zero]
      omega
    · rw [hsf] at e1
      rcases (looksOf_ok ok l hl).2 with s1 | s1
      · rw [s1] at e1 ⊢
        have : side l.1 = false := by
          revert e1
          cases side l.1 <;> decide
        rw [this, if_neg (by decide)] at e2
        omega
      · rw [s1] at e1 ⊢
        have : side l.1 = true := by
          revert e1
          cases side l.1 <;> decide
        rw [if_pos this] at e2
        omega
end
end Lk

/-! ## RC5 -/
set_option Elab.async false
set_option linter.all false
set_option maxRecDepth 100000
set_option maxHeartbeats 2000000
/-! Where no ring is odd, some state is settled. -/
namespace Lk
open PySem PySem.Spec PyProof.Rows L2 Gx
variable [Own]
section
variable {W : Web} {ru : List (List Int)}
/-- how far up by sides -/
def upOf (W : Web) (side : Int → Bool) (st : List Int) (f : Int) : Int := if side f = true then stAt st f else topAt W f - stAt st f
open Classical in
noncomputable def risen (W : Web) (A : Int → Prop) (side : Int → Bool) (st : List Int) : Nat → Int
  | 0 => 0
  | n + 1 => risen W A side st n + (if A (n : Int) then upOf W side st (n : Int) else 0)
open Classical in
theorem risen_bd (ok : W.Ok) {A : Int → Prop} {side : Int → Bool} {st : List Int} (so : StOk W st) : ∀ n, n ≤ W.tops.length → 0 ≤ risen W A side st n ∧ risen W A side st n ≤ 3 * (n : Int)
  | 0, _ => ⟨Int.le_refl _, Int.le_refl _⟩
  | n + 1, hn => by
    have ih := risen_bd ok (A := A) (side := side) so n (by omega)
    have hb := so.bd (n : Int) (by omega) (by omega)
    have ht := topAt_ok ok (i := (n : Int)) (by omega) (by omega)
    have hu : 0 ≤ upOf W side st (n : Int) ∧ upOf W side st (n : Int) ≤ 3 := by
      unfold upOf
      split <;> omega
    show 0 ≤ risen W A side st n + _ ∧ risen W A side st n + _ ≤ _
    split <;> omega
open Classical in
theorem risen_le {A : Int → Prop} {side : Int → Bool} {x y : List Int} (h : LeA W A side x y) : ∀ n, n ≤ W.tops.length → risen W A side x n ≤ risen W A side y n ∧ ((∃ f : Int, 0 ≤ f ∧ f < n ∧ stAt x f ≠ stAt y f) → risen W A side x n < risen W A side y n)
  | 0, _ => ⟨Int.le_refl _, fun ⟨f, h0, h1, _⟩ => by omega⟩
  | n + 1, hn => by
    obtain ⟨i1, i2⟩ := risen_le h n (by omega)
    obtain ⟨h1, h2⟩ := h (n : Int) (by omega) (by omega)
    have step : (if A (n : Int) then upOf W side x (n : Int) else 0) ≤ (if A (n : Int) then upOf W side y (n : Int) else 0) ∧ (stAt x (n : Int) ≠ stAt y (n : Int) → (if A (n : Int) then upOf W side x (n : Int) else 0) < (if A (n : Int) then upOf W side y (n : Int) else 0)) := by
      by_cases hA : A (n : Int)
      · have h3 := h1 hA
        rw [if_pos hA, if_pos hA]
        unfold upOf
        by_cases hs : side (n : Int) = true
        · rw [if_pos hs] at h3
          rw [if_pos hs, if_pos hs]
          exact ⟨h3, fun ne => by omega⟩
        · rw [if_neg hs] at h3
          rw [if_neg hs, if_neg hs]
          exact ⟨by omega, fun ne => by omega⟩
      · rw [if_neg hA, if_neg hA]
        exact ⟨Int.le_refl _, fun ne => absurd (h2 hA) ne⟩
    refine ⟨Int.add_le_add i1 step.1, fun ⟨f, f0, f1, ne⟩ => ?_⟩
    show risen W A side x n + _ < risen W A side y n + _
    by_cases e : f = (n : Int)
    · have := step.2 (by rw [← e]; exact ne)
      omega
    · have := i2 ⟨f, f0, by omega, ne⟩
      have := step.1
      omega
theorem same_state {x y : List Int} (sx : StOk W x) (sy : StOk W y) (h : ∀ f : Int, 0 ≤ f → f < W.tops.length → stAt x f = stAt y f) : x = y := by
  refine List.ext_getElem? fun i => ?_
  by_cases hi : i < W.tops.length
  · have g : ∀ st : List Int, StOk W st → st[i]? = some (stAt st (i : Int)) := fun st so => stAt_get (st := st) (i := (i : Int)) (by omega) (by rw [so.len]; omega)
    rw [g x sx, g y sy, h (i : Int) (by omega) (by omega)]
  · rw [List.getElem?_eq_none (by rw [sx.len]; omega), List.getElem?_eq_none (by rw [sy.len]; omega)]
/-- ticks of A from a state that they raise: they come to rest -/
theorem tickA_rest (ok : W.Ok) (r0 : Ru0 W ru) (hb : firstBad W ru = none) {A : Int → Prop} {side : Int → Bool} (hs : ∀ n : Int, 0 ≤ n → n < W.looks.length → A (lkd W.looks n) → A (lkr W.looks n) → decide (lks W.looks n = 1) = (side (lkd W.looks n) == side (lkr W.looks n))) :
    ∀ (k : Nat) {x : List Int}, StOk W x → LeA W A side x (tickA W ru A x) → 19 ≤ risen W A side x W.tops.length + (k : Int) → ∃ z, StOk W z ∧ tickA W ru A z = z ∧ ∀ f : Int, 0 ≤ f → f < W.tops.length → ¬ A f → stAt z f = stAt x f
  | 0, x, sx, _, hk => by
    have := (risen_bd ok (A := A) (side := side) sx W.tops.length (Nat.le_refl _)).2
    have h6 := ok.few
    omega
  | k + 1, x, sx, hle, hk => by
    have sy := tickA_ok (ru := ru) ok r0 hb (A := A) sx
    by_cases e : tickA W ru A x = x
    · exact ⟨x, sx, e, fun _ _ _ _ => rfl⟩
    · have ne : ∃ f : Int, 0 ≤ f ∧ f < W.tops.length ∧ stAt x f ≠ stAt (tickA W ru A x) f := by
        refine Classical.byContradiction fun h => e ?_
        exact same_state sy sx fun f h0 h1 => (Classical.byContradiction fun z => h ⟨f, h0, h1, fun q => z q.symm⟩)
      have up := (risen_le hle W.tops.length (Nat.le_refl _)).2 ne
      obtain ⟨z, z1, z2, z3⟩ := tickA_rest ok r0 hb hs k sy (tickA_mono ok hb hs sx sy hle) (by omega)
      refine ⟨z, z1, z2, fun f h0 h1 hA => ?_⟩
      rw [z3 f h0 h1 hA, ← (hle f h0 h1).2 hA]
open Classical in
/-- the low end of A -/
noncomputable def lowEnd (W : Web) (A : Int → Prop) (side : Int → Bool) (st : List Int) : List Int := (List.range W.tops.length).map fun f : Nat => if A (f : Int) then (if side (f : Int) = true then 0 else topAt W (f : Int)) else stAt st (f : Int)
open Classical in
theorem lowEnd_at {A : Int → Prop} {side : Int → Bool} {st : List Int} {f : Int} (h0 : 0 ≤ f) (h1 : f < W.tops.length) : stAt (lowEnd W A side st) f = if A f then (if side f = true then 0 else topAt W f) else stAt st f := by
  unfold lowEnd
  show List.getD _ _ _ = _
  rw [List.getD_eq_getElem?_getD, List.getElem?_map, List.getElem?_range (by omega)]
  show (if A ((f.toNat : Nat) : Int) then (if side ((f.toNat : Nat) : Int) = true then 0 else topAt W ((f.toNat : Nat) : Int)) else stAt st ((f.toNat : Nat) : Int)) = _
  rw [show ((f.toNat : Nat) : Int) = f by omega]
theorem lowEnd_ok (ok : W.Ok) {A : Int → Prop} {side : Int → Bool} {st : List Int} (so : StOk W st) : StOk W (lowEnd W A side st) := by
  refine ⟨by unfold lowEnd; rw [List.length_map, List.length_range], fun f h0 h1 => ?_⟩
  have ht := topAt_ok ok h0 h1
  have hb := so.bd f h0 h1
  rw [lowEnd_at h0 h1]
  split
  · split <;> omega
  · exact hb
/-- those who lead to one another, all their other looks at decided folk: they can be settled -/
theorem part_rest (ok : W.Ok) (r0 : Ru0 W ru) (hb : firstBad W ru = none) {A : Int → Prop} {side : Int → Bool} (hs : ∀ n : Int, 0 ≤ n → n < W.looks.length → A (lkd W.looks n) → A (lkr W.looks n) → decide (lks W.looks n = 1) = (side (lkd W.looks n) == side (lkr W.looks n))) {st : List Int} (so : StOk W st) :
    ∃ z, StOk W z ∧ (∀ f : Int, 0 ≤ f → f < W.tops.length → A f → moodTold W ru z f = stAt z f) ∧ ∀ f : Int, 0 ≤ f → f < W.tops.length → ¬ A f → stAt z f = stAt st f := by
  have sl := lowEnd_ok (A := A) (side := side) ok so
  have hle : LeA W A side (lowEnd W A side st) (tickA W ru A (lowEnd W A side st)) := fun f h0 h1 => by
    have hm := mood_bd (ru := ru) ok r0 hb sl h0 h1
    rw [tickA_at h0 h1, lowEnd_at h0 h1]
    refine ⟨fun hA => ?_, fun hA => by rw [if_neg hA, if_neg hA]⟩
    rw [if_pos hA, if_pos hA]
    split
    · exact hm.1
    · exact hm.2
  obtain ⟨z, z1, z2, z3⟩ := tickA_rest ok r0 hb hs 19 sl hle (by have := (risen_bd ok (A := A) (side := side) sl W.tops.length (Nat.le_refl _)).1; omega)
  refine ⟨z, z1, fun f h0 h1 hA => ?_, fun f h0 h1 hA => ?_⟩
  · have e := tickA_at (W := W) (ru := ru) (A := A) (st := z) h0 h1
    rw [z2, if_pos hA] at e
    exact e.symm
  · rw [z3 f h0 h1 hA, lowEnd_at h0 h1, if_neg hA]
end
/-- the least by a measure -/
theorem least_by {α : Type} {p : α → Prop} (m : α → Nat) : ∀ (k : Nat) {a : α}, p a → m a ≤ k → ∃ b, p b ∧ ∀ c, p c → m b ≤ m c
  | 0, a, ha, hm => ⟨a, ha, fun c _ => by omega⟩
  | k + 1, a, ha, hm => by
    by_cases h : ∃ c, p c ∧ m c < m a
    · obtain ⟨c, hc, hlt⟩ := h
      exact least_by m k hc (by omega)
    · exact ⟨a, ha, fun c hc => Nat.not_lt.mp fun z => h ⟨c, hc, z⟩⟩
theorem filter_same {α : Type} {p q : α → Bool} : ∀ {l : List α}, (∀ a ∈ l, p a = true → q a = true) → (l.filter q).length ≤ (l.filter p).length → ∀ a ∈ l, q a = true → p a = true
  | [], _, _, _, h, _ => by cases h
  | b :: l, hpq, hl, a, ha, hq => by
    have hpq' : ∀ a ∈ l, p a = true → q a = true := fun a ha => hpq a (List.mem_cons_of_mem _ ha)
    have mono : (l.filter p).length ≤ (l.filter q).length := by
      have : ∀ l : List α, (∀ a ∈ l, p a = true → q a = true) → (l.filter p).length ≤ (l.filter q).length := by
        intro l
        induction l with
        | nil => exact fun _ => Nat.le_refl _
        | cons c l ih =>
          intro h
          have := ih fun a ha => h a (List.mem_cons_of_mem _ ha)
          have hc := h c (List.mem_cons_self ..)
          rw [List.filter_cons, List.filter_cons]
          cases hp : p c with
          | true => rw [hc hp, if_pos rfl, if_pos rfl, List.length_cons, List.length_cons]; omega
          | false =>
            rw [if_neg (by decide)]
            split
            · rw [List.length_cons]; omega
            · exact this
      exact this l hpq'
    rw [List.filter_cons, List.filter_cons] at hl
    have hb := hpq b (List.mem_cons_self ..)
    cases hpb : p b with
    | true =>
      rw [hpb, hb hpb, if_pos rfl, if_pos rfl, List.length_cons, List.length_cons] at hl
      rcases List.mem_cons.mp ha with e | ha
      · rw [e]; exact hpb
      · exact filter_same hpq' (by omega) a ha hq
    | false =>
      rw [hpb, if_neg (show ¬ (false = true) by decide)] at hl
      cases hqb : q b with
      | true =>
        rw [hqb, if_pos rfl, List.length_cons] at hl
        omega
      | false =>
        rw [hqb, if_neg (show ¬ (false = true) by decide)] at hl
        rcases List.mem_cons.mp ha with e | ha
        · rw [e, hqb] at hq
          cases hq
        · exact filter_same hpq' hl a ha hq
end Lk

/-! ## TN -/
set_option Elab.async false
set_option linter.all false
set_option maxRecDepth 100000
set_option maxHeartbeats 2000000
/-! Webs, rules and states with the moods of a lot turned over: no heap in it. -/
namespace Lk
open PySem PySem.Spec PyProof.Rows L2 Gx
variable [Own]
/-- somebody of the lot or not -/
abbrev Lot := Int → Bool
def turnLook (lot : Lot) (l : Look3) : Look3 := (l.1, l.2.1, if lot l.1 = lot l.2.1 then l.2.2 else -l.2.2)
def turnW (lot : Lot) (W : Web) : Web := ⟨W.tops, W.looks.map (turnLook lot)⟩
def turnM (lot : Lot) (W : Web) (f m : Int) : Int := if lot f = true then topAt W f - m else m
def turnS (lot : Lot) (W : Web) (st : List Int) : List Int := (List.range st.length).map fun f : Nat => turnM lot W (f : Int) (stAt st (f : Int))
section
variable {W : Web} {lot : Lot}
theorem turnLook_two (l : Look3) : turnLook lot (turnLook lot l) = l := by
  unfold turnLook
  by_cases h : lot l.1 = lot l.2.1
  · simp [h]
  · simp [h]
theorem turnW_two : turnW lot (turnW lot W) = W := by
  unfold turnW
  simp only [List.map_map]
  have : (turnLook lot ∘ turnLook lot) = id := by
    funext l
    exact turnLook_two l
  rw [this, List.map_id]
theorem turnW_ok (ok : W.Ok) : (turnW lot W).Ok := by
  refine ⟨ok.some_, ok.few, ok.tops, by show (W.looks.map _).length ≤ 14; rw [List.length_map]; exact ok.most, fun l hl => ?_, ?_, fun f => ?_⟩
  · obtain ⟨k, hk, rfl⟩ := List.mem_map.mp hl
    have h := ok.look k hk
    refine ⟨h.1, h.2.1, ?_⟩
    show (if lot k.1 = lot k.2.1 then k.2.2 else -k.2.2) = 1 ∨ (if lot k.1 = lot k.2.1 then k.2.2 else -k.2.2) = -1
    have := h.2.2
    split <;> omega
  · exact List.pairwise_map.mpr ok.asc
  · have h := ok.four f
    show (((W.looks.map (turnLook lot)).map fun l => l.2.1).filter fun o => o == f).length ≤ 4
    rw [List.map_map]
    exact h
theorem topAt_turn (f : Int) : topAt (turnW lot W) f = topAt W f := rfl
/-- the looks of one, turned -/
def turnSee (lot : Lot) (f : Int) (p : Int × Int) : Int × Int := (p.1, if lot p.1 = lot f then p.2 else -p.2)
theorem looksOf_turn (f : Int) : looksOf (turnW lot W) f = (looksOf W f).map (turnSee lot f) := by
  unfold looksOf turnW
  show List.map _ (List.filter _ (List.map _ _)) = _
  rw [List.filter_map, List.map_map, List.map_map]
  refine List.map_congr_left fun l hl => ?_
  have hf : l.2.1 = f := beq_iff_eq.mp (List.mem_filter.mp hl).2
  show ((turnLook lot l).1, (turnLook lot l).2.2) = turnSee lot f (l.1, l.2.2)
  unfold turnLook turnSee
  rw [hf]
theorem lookN_turn {n : Int} : lkd (turnW lot W).looks n = lkd W.looks n ∧ lkr (turnW lot W).looks n = lkr W.looks n := by
  have key : lookN (turnW lot W).looks n = (if n.toNat < W.looks.length then turnLook lot (lookN W.looks n) else (0, 0, 0)) := by
    unfold lookN turnW
    rw [List.getD_eq_getElem?_getD, List.getElem?_map, List.getD_eq_getElem?_getD]
    by_cases h : n.toNat < W.looks.length
    · rw [if_pos h, List.getElem?_eq_getElem h] <;> rfl
    · rw [if_neg h, List.getElem?_eq_none (by omega)] <;> rfl
  unfold lkd lkr
  rw [key]
  by_cases h : n.toNat < W.looks.length
  · rw [if_pos h]
    exact ⟨rfl, rfl⟩
  · rw [if_neg h]
    have : lookN W.looks n = (0, 0, 0) := by
      unfold lookN
      rw [List.getD_eq_getElem?_getD, List.getElem?_eq_none (by omega)] <;> rfl
    rw [this]
    exact ⟨rfl, rfl⟩
theorem closes_turn (p : List Int) : closesP (turnW lot W).looks p = closesP W.looks p := by
  unfold closesP
  rw [lookN_turn.1, lookN_turn.2]
theorem goesOn_turn (p : List Int) (n : Int) : goesOnP (turnW lot W).looks p n = goesOnP W.looks p n := by
  unfold goesOnP
  have : (lkr (turnW lot W).looks) = lkr W.looks := funext fun n => lookN_turn.2
  rw [this, lookN_turn.1]
theorem longer_turn (p : List Int) : longer (turnW lot W).looks p = longer W.looks p := by
  unfold longer
  have e : goesOnP (turnW lot W).looks p = goesOnP W.looks p := funext fun n => goesOn_turn p n
  have l : (turnW lot W).looks.length = W.looks.length := by show (W.looks.map _).length = _; rw [List.length_map]
  rw [closes_turn, e, l]
theorem level_turn : ∀ k, level (turnW lot W).looks k = level W.looks k
  | 0 => by
    have l : (turnW lot W).looks.length = W.looks.length := by show (W.looks.map _).length = _; rw [List.length_map]
    unfold level
    rw [l]
  | k + 1 => by
    unfold level
    rw [level_turn k]
    have e : longer (turnW lot W).looks = longer W.looks := funext fun p => longer_turn p
    rw [e]
theorem found_turn : ∀ k, foundN (turnW lot W).looks k = foundN W.looks k
  | 0 => rfl
  | k + 1 => by
    unfold foundN
    have e : closesP (turnW lot W).looks = closesP W.looks := funext fun p => closes_turn p
    rw [found_turn k, level_turn k, e]
/-- the rings stay -/
theorem rings_turn : ringsOf (turnW lot W) = ringsOf W := by
  unfold ringsOf ringsRaw
  rw [found_turn]
theorem stAt_turn {st : List Int} {f : Int} (h0 : 0 ≤ f) (h1 : f < st.length) : stAt (turnS lot W st) f = turnM lot W f (stAt st f) := by
  unfold turnS
  show List.getD _ _ _ = _
  rw [List.getD_eq_getElem?_getD, List.getElem?_map, List.getElem?_range (by omega)]
  show turnM lot W ((f.toNat : Nat) : Int) (stAt st ((f.toNat : Nat) : Int)) = _
  rw [show ((f.toNat : Nat) : Int) = f by omega]
theorem turnM_two (f m : Int) : turnM lot W f (turnM lot W f m) = m := by
  unfold turnM
  split <;> omega
theorem turnM_bd {f m : Int} (h : 0 ≤ m ∧ m ≤ topAt W f) : 0 ≤ turnM lot W f m ∧ turnM lot W f m ≤ topAt W f := by
  unfold turnM
  split <;> omega
theorem turnS_len (st : List Int) : (turnS lot W st).length = st.length := by unfold turnS; rw [List.length_map, List.length_range]
theorem turnS_ok {st : List Int} (so : StOk W st) : StOk W (turnS lot W st) := by
  refine ⟨by rw [turnS_len, so.len], fun f h0 h1 => ?_⟩
  rw [stAt_turn h0 (by rw [so.len]; exact h1)]
  exact turnM_bd (so.bd f h0 h1)
theorem turnS_two (st : List Int) : turnS lot W (turnS lot W st) = st := by
  refine List.ext_getElem? fun i => ?_
  by_cases h : i < st.length
  · have e1 := stAt_turn (lot := lot) (W := W) (st := turnS lot W st) (f := (i : Int)) (by omega) (by rw [turnS_len]; omega)
    have e2 := stAt_turn (lot := lot) (W := W) (st := st) (f := (i : Int)) (by omega) (by omega)
    rw [e2, turnM_two] at e1
    have g : ∀ l : List Int, i < l.length → l[i]? = some (stAt l (i : Int)) := fun l hl => stAt_get (st := l) (i := (i : Int)) (by omega) (by omega)
    rw [g _ (by rw [turnS_len, turnS_len]; exact h), g _ h, e1]
  · rw [List.getElem?_eq_none (by rw [turnS_len, turnS_len]; omega), List.getElem?_eq_none (by omega)]
end
end Lk

/-! ## TN2 -/
set_option Elab.async false
set_option linter.all false
set_option maxRecDepth 100000
set_option maxHeartbeats 2000000
namespace Lk
open PySem PySem.Spec PyProof.Rows L2 Gx
variable [Own]
section
variable {W : Web} {lot : Lot}
theorem lks_turn (ok : W.Ok) {n : Int} (h0 : 0 ≤ n) (h1 : n < W.looks.length) : decide (lks (turnW lot W).looks n = 1) = (decide (lks W.looks n = 1) == (lot (lkd W.looks n) == lot (lkr W.looks n))) := by
  have e : lks (turnW lot W).looks n = if lot (lkd W.looks n) = lot (lkr W.looks n) then lks W.looks n else -lks W.looks n := by
    unfold lks lookN turnW
    rw [List.getD_eq_getElem?_getD, List.getElem?_map, List.getElem?_eq_getElem (show n.toNat < W.looks.length by omega)]
    show (turnLook lot _).2.2 = _
    unfold turnLook lkd lkr lookN
    rw [List.getD_eq_getElem?_getD, List.getElem?_eq_getElem (show n.toNat < W.looks.length by omega)]
    rfl
  rw [e]
  have hs := sign_of ok h0 h1
  generalize lks W.looks n = s at hs ⊢
  generalize lot (lkd W.looks n) = x
  generalize lot (lkr W.looks n) = y
  rcases hs with rfl | rfl <;> cases x <;> cases y <;> decide
/-- a ring stays even, odd -/
theorem even_turn (ok : W.Ok) {p : List Int} (pk : PathOk W.looks p) (hc : closesP W.looks p = true) : evenP (turnW lot W).looks p = evenP W.looks p := by
  have along : ∀ (i : Nat) (a : Int), p[i]? = some a → flipTo (turnW lot W).looks (p.take (i + 1)) (true ^^ lot (lkd W.looks (p.headD 0))) = (flipTo W.looks (p.take (i + 1)) true ^^ lot (lkr W.looks a)) := by
    intro i
    induction i with
    | zero =>
      intro a h
      have e := head_at pk
      rw [h] at e
      cases e
      have hn := num_at pk h
      rw [take_one h]
      show (_ == _) = ((_ == _) ^^ _)
      rw [lks_turn ok hn.1 hn.2]
      generalize decide (lks W.looks (p.headD 0) = 1) = s
      generalize lot (lkd W.looks (p.headD 0)) = x
      generalize lot (lkr W.looks (p.headD 0)) = y
      cases s <;> cases x <;> cases y <;> rfl
    | succ j ih =>
      intro a h
      obtain ⟨a', h'⟩ : ∃ a', p[j]? = some a' := ⟨_, List.getElem?_eq_getElem (by have := (List.getElem?_eq_some_iff.mp h).1; omega)⟩
      have hn := num_at pk h
      rw [take_one h, flip_snoc, flip_snoc, ih a' h', pk.chain j a' a h' h, lks_turn ok hn.1 hn.2]
      generalize flipTo W.looks (p.take (j + 1)) true = z
      generalize decide (lks W.looks a = 1) = s
      generalize lot (lkd W.looks a) = x
      generalize lot (lkr W.looks a) = y
      cases z <;> cases s <;> cases x <;> cases y <;> rfl
  obtain ⟨l1, l2⟩ := last_at pk
  have e := along _ _ l1
  have pk2 : ∀ n ∈ p, lks (turnW lot W).looks n = 1 ∨ lks (turnW lot W).looks n = -1 := fun n hn => by
    have := pk.num n hn
    exact sign_of (turnW_ok ok) this.1 (by show n < ((W.looks.map _).length : Int); rw [List.length_map]; exact this.2)
  rw [l2, flip_even _ _ _ pk2, flip_even _ _ _ (signs_in ok pk), show lkr W.looks (p.getLastD 0) = lkd W.looks (p.headD 0) from beq_iff_eq.mp hc] at e
  revert e
  generalize lot (lkd W.looks (p.headD 0)) = x
  cases evenP (turnW lot W).looks p <;> cases evenP W.looks p <;> cases x <;> decide
/-- a row of moods seen by f, turned over -/
def turnRow (lot : Lot) (W : Web) : List (Int × Int) → List Int → List Int
  | l :: ls, x :: xs => turnM lot W l.1 x :: turnRow lot W ls xs
  | _, _ => []
theorem turnRow_two : ∀ {ls : List (Int × Int)} {xs : List Int}, xs.length = ls.length → turnRow lot W ls (turnRow lot W ls xs) = xs
  | [], [], _ => rfl
  | l :: ls, x :: xs, h => by
    show turnM lot W l.1 (turnM lot W l.1 x) :: turnRow lot W ls (turnRow lot W ls xs) = _
    rw [turnM_two, turnRow_two (by simpa using h)]
  | [], _ :: _, h => by simp at h
  | _ :: _, [], h => by simp at h
theorem turnRow_st {st : List Int} (so : StOk W st) : ∀ {ls : List (Int × Int)}, (∀ l ∈ ls, 0 ≤ l.1 ∧ l.1 < W.tops.length) → ls.map (fun l => stAt (turnS lot W st) l.1) = turnRow lot W ls (ls.map fun l => stAt st l.1)
  | [], _ => rfl
  | l :: ls, h => by
    have h0 := h l (List.mem_cons_self ..)
    rw [List.map_cons, List.map_cons, stAt_turn h0.1 (by rw [so.len]; exact h0.2), turnRow_st so fun x hx => h x (List.mem_cons_of_mem _ hx)]
    rfl
/-- rows within the tops -/
def RowOk (W : Web) : List (Int × Int) → List Int → Prop
  | [], [] => True
  | l :: ls, x :: xs => (0 ≤ x ∧ x ≤ topAt W l.1) ∧ RowOk W ls xs
  | _, _ => False
theorem rowOk_len : ∀ {ls : List (Int × Int)} {xs : List Int}, RowOk W ls xs → xs.length = ls.length
  | [], [], _ => rfl
  | l :: ls, x :: xs, h => by simp [rowOk_len h.2]
  | [], _ :: _, h => h.elim
  | _ :: _, [], h => h.elim
theorem rowOk_turn : ∀ {ls : List (Int × Int)} {xs : List Int}, RowOk W ls xs → RowOk W ls (turnRow lot W ls xs)
  | [], [], _ => trivial
  | l :: ls, x :: xs, h => ⟨turnM_bd h.1, rowOk_turn h.2⟩
  | [], _ :: _, h => h.elim
  | _ :: _, [], h => h.elim
theorem rowOk_mem : ∀ {ls : List (Int × Int)} {xs : List Int}, (∀ l ∈ ls, 0 ≤ topAt W l.1) → (xs ∈ rws (axes W ls) ↔ RowOk W ls xs)
  | [], xs, _ => by
    unfold axes rws
    cases xs with
    | nil => simp [RowOk]
    | cons x xs => simp [RowOk]
  | l :: ls, xs, ht => by
    have h0 := ht l (List.mem_cons_self ..)
    have ih := fun ys => rowOk_mem (ls := ls) (xs := ys) fun x hx => ht x (List.mem_cons_of_mem _ hx)
    show xs ∈ rws (((topAt W l.1 + 1).toNat, l.2) :: axes W ls) ↔ _
    rw [rws_cons]
    constructor
    · intro h
      obtain ⟨x, hx, h⟩ := List.mem_flatMap.mp h
      obtain ⟨ys, hy, rfl⟩ := List.mem_map.mp h
      have hx := List.mem_range.mp hx
      exact ⟨⟨by omega, by have : x < (topAt W l.1 + 1).toNat := hx; omega⟩, (ih ys).mp hy⟩
    · intro h
      cases xs with
      | nil => exact h.elim
      | cons x ys =>
        obtain ⟨h1, h2⟩ := h
        refine List.mem_flatMap.mpr ⟨x.toNat, List.mem_range.mpr (by show x.toNat < (topAt W l.1 + 1).toNat; omega), List.mem_map.mpr ⟨ys, (ih ys).mpr h2, ?_⟩⟩
        rw [show ((x.toNat : Nat) : Int) = x by omega]
theorem rowsAt_ok (ok : W.Ok) {f : Int} {xs : List Int} : xs ∈ rowsAt W f ↔ RowOk W (looksOf W f) xs := by
  rw [rowsAt_rws]
  refine rowOk_mem fun l hl => ?_
  have h := (looksOf_ok ok l hl).1
  have := topAt_ok ok h.1 h.2
  omega
theorem rowOk_see (f : Int) : ∀ {ls : List (Int × Int)} {xs : List Int}, RowOk (turnW lot W) (ls.map (turnSee lot f)) xs ↔ RowOk W ls xs
  | [], [] => Iff.rfl
  | l :: ls, x :: xs => by
    show (_ ∧ RowOk _ _ _) ↔ _
    rw [rowOk_see f (ls := ls) (xs := xs)]
    exact Iff.rfl
  | [], _ :: _ => Iff.rfl
  | _ :: _, [] => Iff.rfl
end
end Lk

/-! ## TN3 -/
set_option Elab.async false
set_option linter.all false
set_option maxRecDepth 100000
set_option maxHeartbeats 2000000
namespace Lk
open PySem PySem.Spec PyProof.Rows L2 Gx
variable [Own]
/-- a table, turned -/
def tableTurn (lot : Lot) (W : Web) (f : Int) (tb : List Int) : List Int := (rowsAt W f).map fun row => turnM lot W f (tb.getD ((rowsAt W f).idxOf (turnRow lot W (looksOf W f) row)) 0)
def rulesTurn (lot : Lot) (W : Web) (ru : List (List Int)) : List (List Int) := (List.range ru.length).map fun f : Nat => tableTurn lot W (f : Int) (ru.getD f [])
section
variable {W : Web} {lot : Lot} {f : Int} {tb : List Int} {ru : List (List Int)} {st : List Int}
theorem rowsAt_turn : rowsAt (turnW lot W) f = rowsAt W f := by
  unfold rowsAt
  rw [looksOf_turn, List.map_map]
  rfl
theorem idx_row {k : Nat} {row : List Int} (h : (rowsAt W f)[k]? = some row) : (rowsAt W f).idxOf row = k := by
  have hlt := List.idxOf_lt_length_of_mem (List.mem_of_getElem? h)
  have h2 : (rowsAt W f)[(rowsAt W f).idxOf row]? = some row := by rw [List.getElem?_eq_getElem hlt, List.getElem_idxOf hlt]
  rw [rowsAt_rws] at h h2 ⊢
  exact rws_inj h2 h
theorem row_at {row : List Int} (h : row ∈ rowsAt W f) : (rowsAt W f)[(rowsAt W f).idxOf row]? = some row := by
  have hlt := List.idxOf_lt_length_of_mem h
  rw [List.getElem?_eq_getElem hlt, List.getElem_idxOf hlt]
theorem tabT_get {k : Nat} {row : List Int} (h : (rowsAt W f)[k]? = some row) : (tableTurn lot W f tb).getD k 0 = turnM lot W f (tb.getD ((rowsAt W f).idxOf (turnRow lot W (looksOf W f) row)) 0) := by
  unfold tableTurn
  rw [List.getD_eq_getElem?_getD, List.getElem?_map, h]
  rfl
theorem turn_mem (ok : W.Ok) {row : List Int} (h : row ∈ rowsAt W f) : turnRow lot W (looksOf W f) row ∈ rowsAt W f := (rowsAt_ok ok).mpr (rowOk_turn ((rowsAt_ok ok).mp h))
theorem goes_out (hf : lot f = false) : ∀ {ls : List (Int × Int)} {xs ys : List Int}, lawGoes ((ls.map (turnSee lot f)).map (·.2)) xs ys = true → xs.length = ls.length → ys.length = ls.length → lawGoes (ls.map (·.2)) (turnRow lot W ls xs) (turnRow lot W ls ys) = true
  | [], [], [], _, _, _ => rfl
  | l :: ls, x :: xs, y :: ys, g, h1, h2 => by
    obtain ⟨g1, g2⟩ := Bool.and_eq_true_iff.mp (show (_ && _) = true from g)
    have ih := goes_out hf g2 (by simpa using h1) (by simpa using h2)
    refine Bool.and_eq_true_iff.mpr ⟨?_, ih⟩
    have g0 : ¬ (turnSee lot f l).2 * (y - x) < 0 := by simpa using g1
    clear g1
    have g1 : ¬ (if lot l.1 = lot f then l.2 else -l.2) * (y - x) < 0 := g0
    have : ¬ l.2 * (turnM lot W l.1 y - turnM lot W l.1 x) < 0 := by
      unfold turnM
      rw [hf] at g1
      cases hl : lot l.1 with
      | false =>
        rw [hl, if_pos rfl] at g1
        simpa using g1
      | true =>
        rw [hl, if_neg (by decide)] at g1
        rw [if_pos rfl, if_pos rfl, show topAt W l.1 - y - (topAt W l.1 - x) = -(y - x) by omega, Int.mul_neg]
        rw [Int.neg_mul] at g1
        exact g1
    simpa using this
  | [], _ :: _, _, _, h, _ => by simp at h
  | [], [], _ :: _, _, _, h => by simp at h
  | _ :: _, [], _, _, h, _ => by simp at h
  | _ :: _, _ :: _, [], _, _, h => by simp at h
theorem goes_in (hf : lot f = true) : ∀ {ls : List (Int × Int)} {xs ys : List Int}, lawGoes ((ls.map (turnSee lot f)).map (·.2)) xs ys = true → xs.length = ls.length → ys.length = ls.length → lawGoes (ls.map (·.2)) (turnRow lot W ls ys) (turnRow lot W ls xs) = true
  | [], [], [], _, _, _ => rfl
  | l :: ls, x :: xs, y :: ys, g, h1, h2 => by
    obtain ⟨g1, g2⟩ := Bool.and_eq_true_iff.mp (show (_ && _) = true from g)
    have ih := goes_in hf g2 (by simpa using h1) (by simpa using h2)
    refine Bool.and_eq_true_iff.mpr ⟨?_, ih⟩
    have g0 : ¬ (turnSee lot f l).2 * (y - x) < 0 := by simpa using g1
    clear g1
    have g1 : ¬ (if lot l.1 = lot f then l.2 else -l.2) * (y - x) < 0 := g0
    have : ¬ l.2 * (turnM lot W l.1 x - turnM lot W l.1 y) < 0 := by
      unfold turnM
      rw [hf] at g1
      cases hl : lot l.1 with
      | true =>
        rw [hl, if_pos rfl] at g1
        rw [if_pos rfl, if_pos rfl, show topAt W l.1 - x - (topAt W l.1 - y) = y - x by omega]
        exact g1
      | false =>
        rw [hl, if_neg (by decide), Int.neg_mul] at g1
        rw [if_neg (by decide), if_neg (by decide), show x - y = -(y - x) by omega, Int.mul_neg]
        exact g1
    simpa using this
  | [], _ :: _, _, _, h, _ => by simp at h
  | [], [], _ :: _, _, _, h => by simp at h
  | _ :: _, [], _, _, h, _ => by simp at h
  | _ :: _, _ :: _, [], _, _, h => by simp at h
theorem tab_in (ok : W.Ok) (h : isTable W f tb = true) {row : List Int} (hr : row ∈ rowsAt W f) : 0 ≤ tb.getD ((rowsAt W f).idxOf row) 0 ∧ tb.getD ((rowsAt W f).idxOf row) 0 ≤ topAt W f := by
  have h' := h
  rw [isTable_iff ok] at h
  have hlt := List.idxOf_lt_length_of_mem hr
  have hl : tb.length = (rowsAt W f).length := by rw [h.1, rowsAt_rws, rws_len]
  refine h.2.1 _ ?_
  rw [List.getD_eq_getElem?_getD, List.getElem?_eq_getElem (by omega)]
  exact List.getElem_mem _
/-- a turned table is one of the turned web -/
theorem table_turn (ok : W.Ok) (h : isTable W f tb = true) : isTable (turnW lot W) f (tableTurn lot W f tb) = true := by
  have al := ((isTable_iff ok).mp h).2.2
  have ok2 := turnW_ok (lot := lot) ok
  rw [isTable_iff ok2]
  have ea : rws (axes (turnW lot W) (looksOf (turnW lot W) f)) = rowsAt W f := by rw [← rowsAt_rws, rowsAt_turn]
  refine ⟨?_, fun m hm => ?_, fun p q xp xq h1 h2 g => ?_⟩
  · rw [← rws_len, ea]
    unfold tableTurn
    rw [List.length_map]
  · unfold tableTurn at hm
    obtain ⟨row, hr, rfl⟩ := List.mem_map.mp hm
    exact turnM_bd (tab_in ok h (turn_mem ok hr))
  · rw [ea] at h1 h2
    show (tableTurn lot W f tb).getD p 0 ≤ (tableTurn lot W f tb).getD q 0
    rw [tabT_get h1, tabT_get h2]
    have m1 := turn_mem (lot := lot) ok (List.mem_of_getElem? h1)
    have m2 := turn_mem (lot := lot) ok (List.mem_of_getElem? h2)
    have r1 := row_at m1
    have r2 := row_at m2
    have l1 := rowsAt_row (List.mem_of_getElem? h1)
    have l2 := rowsAt_row (List.mem_of_getElem? h2)
    have eg : (axes (turnW lot W) (looksOf (turnW lot W) f)).map (·.2) = ((looksOf W f).map (turnSee lot f)).map (·.2) := by
      rw [looksOf_turn]
      unfold axes
      rw [List.map_map]
      rfl
    have eg2 : (axes W (looksOf W f)).map (·.2) = (looksOf W f).map (·.2) := by
      unfold axes
      rw [List.map_map]
      rfl
    rw [eg] at g
    unfold turnM
    cases hf : lot f with
    | true =>
      rw [if_pos rfl, if_pos rfl]
      have := al _ _ _ _ (by rw [← rowsAt_rws]; exact r2) (by rw [← rowsAt_rws]; exact r1) (by rw [eg2]; exact goes_in hf g l1 l2)
      show topAt W f - _ ≤ topAt W f - _
      have this : tb.getD _ 0 ≤ tb.getD _ 0 := this
      omega
    | false =>
      rw [if_neg (by decide), if_neg (by decide)]
      exact al _ _ _ _ (by rw [← rowsAt_rws]; exact r1) (by rw [← rowsAt_rws]; exact r2) (by rw [eg2]; exact goes_out hf g l1 l2)
theorem turnRow_see : ∀ {ls : List (Int × Int)} {xs : List Int}, turnRow lot (turnW lot W) (ls.map (turnSee lot f)) xs = turnRow lot W ls xs
  | [], _ => rfl
  | _ :: _, [] => rfl
  | l :: ls, x :: xs => by
    show turnM lot (turnW lot W) l.1 x :: turnRow lot (turnW lot W) (ls.map (turnSee lot f)) xs = turnM lot W l.1 x :: _
    rw [turnRow_see (ls := ls) (xs := xs)]
    rfl
/-- turned twice: the table again -/
theorem table_two (ok : W.Ok) (hl : tb.length = (rowsAt W f).length) : tableTurn lot (turnW lot W) f (tableTurn lot W f tb) = tb := by
  refine List.ext_getElem? fun k => ?_
  have l1 : (tableTurn lot (turnW lot W) f (tableTurn lot W f tb)).length = (rowsAt W f).length := by
    unfold tableTurn
    rw [List.length_map, rowsAt_turn]
  by_cases hk : k < (rowsAt W f).length
  · have g : ∀ l : List Int, k < l.length → l[k]? = some (l.getD k 0) := fun l h => by rw [List.getD_eq_getElem?_getD, List.getElem?_eq_getElem h] <;> rfl
    rw [g _ (by omega), g _ (by omega)]
    congr 1
    have hrow := List.getElem?_eq_getElem hk
    generalize (rowsAt W f)[k] = row at hrow
    have hm := List.mem_of_getElem? hrow
    rw [tabT_get (W := turnW lot W) (row := row) (by rw [rowsAt_turn]; exact hrow), rowsAt_turn, looksOf_turn, turnRow_see, tabT_get (row_at (turn_mem ok hm)), turnRow_two (rowsAt_row hm), idx_row hrow]
    exact turnM_two (W := W) f _
  · rw [List.getElem?_eq_none (by omega), List.getElem?_eq_none (by omega)]
/-- what a turned table tells in a turned state -/
theorem mood_turn (ok : W.Ok) (rok : RuOk W ru) (so : StOk W st) (h0 : 0 ≤ f) (h1 : f < W.tops.length) : moodTold (turnW lot W) (rulesTurn lot W ru) (turnS lot W st) f = turnM lot W f (moodTold W ru st f) := by
  have bd := fun l hl => so.bd (l : Int × Int).1 (looksOf_ok (f := f) ok l hl).1.1 (looksOf_ok (f := f) ok l hl).1.2
  obtain ⟨_, hp⟩ := place_row (W := W) (st := st) (ls := looksOf W f) bd
  have so2 := turnS_ok (lot := lot) so
  obtain ⟨_, hp2⟩ := place_row (W := turnW lot W) (st := turnS lot W st) (ls := looksOf (turnW lot W) f) fun l hl => so2.bd l.1 (looksOf_ok (turnW_ok ok) l hl).1.1 (looksOf_ok (turnW_ok ok) l hl).1.2
  rw [← rowsAt_rws] at hp hp2
  have er : ((looksOf (turnW lot W) f).map fun l => stAt (turnS lot W st) l.1) = turnRow lot W (looksOf W f) ((looksOf W f).map fun l => stAt st l.1) := by
    rw [looksOf_turn, List.map_map, ← turnRow_st so fun l hl => (looksOf_ok ok l hl).1]
    rfl
  rw [er, rowsAt_turn] at hp2
  have eg : (rulesTurn lot W ru).getD f.toNat [] = tableTurn lot W f (ru.getD f.toNat []) := by
    unfold rulesTurn
    rw [List.getD_eq_getElem?_getD, List.getElem?_map, List.getElem?_range (by rw [rok.len]; omega)]
    show tableTurn lot W ((f.toNat : Nat) : Int) _ = _
    rw [show ((f.toNat : Nat) : Int) = f by omega]
  unfold moodTold
  rw [eg]
  unfold placeOf
  rw [tabT_get hp2, turnRow_two (by rw [List.length_map]), idx_row hp]
theorem told_turn (ok : W.Ok) (rok : RuOk W ru) (so : StOk W st) : stateTold (turnW lot W) (rulesTurn lot W ru) (turnS lot W st) = turnS lot W (stateTold W ru st) := by
  unfold stateTold
  rw [turnS_len]
  unfold turnS
  rw [List.length_map, List.length_range]
  refine List.map_congr_left fun f hf => ?_
  have hf := List.mem_range.mp hf
  have hl := so.len
  rw [show (List.range st.length).map (fun f : Nat => turnM lot W (f : Int) (stAt st (f : Int))) = turnS lot W st from rfl, mood_turn ok rok so (by omega) (by omega)]
  congr 1
  exact (told_at (W := W) (ru := ru) (st := st) (f := (f : Int)) (by omega) (by omega)).symm
end
end Lk

/-! ## TN4 -/
set_option Elab.async false
set_option linter.all false
set_option maxRecDepth 100000
set_option maxHeartbeats 2000000
namespace Lk
open PySem PySem.Spec PyProof.Rows L2 Gx
variable [Own]
section
variable {W : Web} {lot : Lot} {ru : List (List Int)} {st : List Int}
theorem rulesT_get {f : Nat} (h : f < ru.length) : (rulesTurn lot W ru).getD f [] = tableTurn lot W (f : Int) (ru.getD f []) := by
  unfold rulesTurn
  rw [List.getD_eq_getElem?_getD, List.getElem?_map, List.getElem?_range h]
  rfl
theorem rulesT_len : (rulesTurn lot W ru).length = ru.length := by unfold rulesTurn; rw [List.length_map, List.length_range]
theorem tableT_len (f : Int) (tb : List Int) : (tableTurn lot W f tb).length = (rowsAt W f).length := by unfold tableTurn; rw [List.length_map]
/-- turned rules are rules of the turned web -/
theorem rulesT_ok (ok : W.Ok) (r0 : Ru0 W ru) (hb : firstBad W ru = none) : Ru0 (turnW lot W) (rulesTurn lot W ru) ∧ firstBad (turnW lot W) (rulesTurn lot W ru) = none := by
  refine ⟨⟨by rw [rulesT_len]; exact r0.len, fun t ht => ?_⟩, ?_⟩
  · unfold rulesTurn at ht
    obtain ⟨f, _, rfl⟩ := List.mem_map.mp ht
    rw [tableT_len]
    have := (rowsAt_len ok (f : Int)).2
    omega
  · unfold firstBad
    rw [List.find?_eq_none]
    intro f hf
    have hf : f < W.tops.length := List.mem_range.mp hf
    rw [rulesT_get (by rw [r0.len]; exact hf)]
    have h := firstBad_none hb (f : Int) (by omega) (by omega)
    have h : isTable W (f : Int) (ru.getD f []) = true := h
    rw [table_turn ok h]
    simp
theorem rules_two (ok : W.Ok) (r0 : Ru0 W ru) (hb : firstBad W ru = none) : rulesTurn lot (turnW lot W) (rulesTurn lot W ru) = ru := by
  refine List.ext_getElem? fun f => ?_
  by_cases hf : f < ru.length
  · have g : ∀ l : List (List Int), f < l.length → l[f]? = some (l.getD f []) := fun l h => by rw [List.getD_eq_getElem?_getD, List.getElem?_eq_getElem h] <;> rfl
    rw [g _ (by rw [rulesT_len, rulesT_len]; exact hf), g _ hf, rulesT_get (by rw [rulesT_len]; exact hf), rulesT_get hf]
    congr 1
    refine table_two ok ?_
    have hf2 : f < W.tops.length := by rw [← r0.len]; exact hf
    have h : isTable W (f : Int) (ru.getD f []) = true := firstBad_none hb (f : Int) (by omega) (by omega)
    rw [((isTable_iff ok).mp h).1, rowsAt_rws, rws_len]
  · rw [List.getElem?_eq_none (by rw [rulesT_len, rulesT_len]; omega), List.getElem?_eq_none (by omega)]
theorem ticks_turn (ok : W.Ok) (r0 : Ru0 W ru) (hb : firstBad W ru = none) (so : StOk W st) : ∀ n, ticks (turnW lot W) (rulesTurn lot W ru) (turnS lot W st) n = turnS lot W (ticks W ru st n)
  | 0 => rfl
  | n + 1 => by
    show stateTold _ _ (ticks _ _ _ n) = _
    rw [ticks_turn ok r0 hb so n, told_turn ok (rules_ok r0 hb) (ticks_ok ok r0 hb so n)]
    rfl
/-- a state is settled exactly if it is, turned, in the turned web -/
theorem settled_turn (ok : W.Ok) (r0 : Ru0 W ru) (hb : firstBad W ru = none) (so : StOk W st) : (turnS lot W st ∈ settledStates (turnW lot W) (rulesTurn lot W ru)) ↔ st ∈ settledStates W ru := by
  have row : ∀ {s : List Int}, StOk W s → s ∈ rowsOf W.tops := fun h => state_row h
  have so2 := turnS_ok (lot := lot) so
  unfold settledStates
  rw [List.mem_filter, List.mem_filter, decide_eq_true_iff, decide_eq_true_iff, told_turn ok (rules_ok r0 hb) so]
  constructor
  · rintro ⟨_, h⟩
    refine ⟨row so, ?_⟩
    have := congrArg (turnS lot W) h
    rw [turnS_two, turnS_two] at this
    exact this
  · rintro ⟨_, h⟩
    exact ⟨row so2, by rw [h]⟩
theorem turn_inj {a b : List Int} (h : turnS lot W a = turnS lot W b) : a = b := by
  have := congrArg (turnS lot W) h
  rwa [turnS_two, turnS_two] at this
end
/-- rows up to tops: ascending -/
theorem moods_asc (t : Int) : (moods t).Pairwise (· < ·) := by
  unfold moods
  refine List.pairwise_map.mpr ?_
  refine List.Pairwise.imp (fun {a b} h => ?_) List.pairwise_lt_range
  exact Int.ofNat_lt.mpr h
/-- before, as rows stand -/
def rowLt : List Int → List Int → Prop
  | a :: p, b :: q => a < b ∨ a = b ∧ rowLt p q
  | _, _ => False
theorem rowLt_snoc {p q : List Int} (x y : Int) (h : rowLt p q) : rowLt (p ++ [x]) (q ++ [y]) := by
  induction p generalizing q with
  | nil => cases q <;> exact h.elim
  | cons a p ih =>
    cases q with
    | nil => exact h.elim
    | cons b q =>
      rcases h with h | ⟨e, h⟩
      · exact .inl h
      · exact .inr ⟨e, ih h⟩
theorem rowLt_last {x y : Int} (h : x < y) : ∀ p : List Int, rowLt (p ++ [x]) (p ++ [y])
  | [] => .inl h
  | _ :: p => .inr ⟨rfl, rowLt_last h p⟩
theorem step_asc {rows : List (List Int)} (h : rows.Pairwise rowLt) (t : Int) : (rowsStep rows t).Pairwise rowLt := by
  unfold rowsStep
  induction rows with
  | nil => exact .nil
  | cons r rows ih =>
    obtain ⟨h1, h2⟩ := List.pairwise_cons.mp h
    rw [List.flatMap_cons, List.pairwise_append]
    refine ⟨List.pairwise_map.mpr ((moods_asc t).imp fun {a b} h => rowLt_last h r), ih h2, fun a ha b hb => ?_⟩
    obtain ⟨x, _, rfl⟩ := List.mem_map.mp ha
    obtain ⟨r2, hr2, hb⟩ := List.mem_flatMap.mp hb
    obtain ⟨y, _, rfl⟩ := List.mem_map.mp hb
    exact rowLt_snoc x y (h1 r2 hr2)
theorem rows_asc (tops : List Int) : (rowsOf tops).Pairwise rowLt := by
  unfold rowsOf
  have : ∀ (ts : List Int) (rows : List (List Int)), rows.Pairwise rowLt → (ts.foldl rowsStep rows).Pairwise rowLt := by
    intro ts
    induction ts with
    | nil => exact fun _ h => h
    | cons t ts ih => exact fun rows h => ih _ (step_asc h t)
  exact this tops [[]] (List.pairwise_singleton ..)
theorem settled_asc (W : Web) (ru : List (List Int)) : (settledStates W ru).Pairwise rowLt := (rows_asc W.tops).filter _
end Lk

/-! ## TN5 -/
set_option Elab.async false
set_option linter.all false
set_option maxRecDepth 100000
set_option maxHeartbeats 2000000
namespace Lk
open PySem PySem.Spec PyProof.Rows L2 Gx
variable [Own]
theorem toks_lt : ∀ {a b : List Int}, rowLt a b → PyProof.Rows.lexLt PyProof.Rows.itemOrd (PySem.W.keyToksAll (a.map PyData.int)) (PySem.W.keyToksAll (b.map PyData.int)) = true
  | x :: a, y :: b, h => by
    show PyProof.Rows.lexLt PyProof.Rows.itemOrd (.inl 1 :: .inl x :: PySem.W.keyToksAll (a.map PyData.int)) (.inl 1 :: .inl y :: PySem.W.keyToksAll (b.map PyData.int)) = true
    refine PyProof.Rows.lex_true.mpr (.inr ⟨rfl, PyProof.Rows.lex_true.mpr ?_⟩)
    rcases h with h | ⟨e, h⟩
    · exact .inl (show decide (x < y) = true from decide_eq_true h)
    · exact .inr ⟨show decide (y < x) = false from decide_eq_false (by omega), toks_lt h⟩
  | [], _, h => h.elim
  | _ :: _, [], h => h.elim
theorem toks_inj : ∀ {a b : List Int}, PySem.W.keyToksAll (a.map PyData.int) = PySem.W.keyToksAll (b.map PyData.int) → a = b
  | [], [], _ => rfl
  | x :: a, y :: b, h => by
    have h : (Sum.inl 1 :: Sum.inl x :: PySem.W.keyToksAll (a.map PyData.int) : List (Int ⊕ List Nat)) = .inl 1 :: .inl y :: PySem.W.keyToksAll (b.map PyData.int) := h
    have h1 := (List.cons.inj (List.cons.inj h).2)
    rw [Sum.inl.inj h1.1, toks_inj h1.2]
  | [], _ :: _, h => by
    have h : (Sum.inl 0 :: [] : List (Int ⊕ List Nat)) = .inl 1 :: _ := h
    cases h
  | _ :: _, [], h => by
    have h : (Sum.inl 1 :: _ : List (Int ⊕ List Nat)) = .inl 0 :: [] := h
    cases h
theorem le_row {a b : List Int} (h : rowLt a b) : PySem.W.dataLe false dI a b = true := by
  show (!PyProof.Rows.lexLt PyProof.Rows.itemOrd (PySem.W.keyToksAll (b.map PyData.int)) (PySem.W.keyToksAll (a.map PyData.int))) = true
  rw [Bool.not_eq_true', ← Bool.not_eq_true]
  intro z
  have := PyProof.Rows.lex_trans _ _ _ z (toks_lt h)
  rw [PyProof.Rows.lex_irrefl] at this
  cases this
theorem le_anti {a b : List Int} (h1 : PySem.W.dataLe false dI a b = true) (h2 : PySem.W.dataLe false dI b a = true) : a = b := by
  have h1 : (!PyProof.Rows.lexLt PyProof.Rows.itemOrd (PySem.W.keyToksAll (b.map PyData.int)) (PySem.W.keyToksAll (a.map PyData.int))) = true := h1
  have h2 : (!PyProof.Rows.lexLt PyProof.Rows.itemOrd (PySem.W.keyToksAll (a.map PyData.int)) (PySem.W.keyToksAll (b.map PyData.int))) = true := h2
  rw [Bool.not_eq_true'] at h1 h2
  exact toks_inj (PyProof.Rows.lex_total _ _ h2 h1)
/-- rows sorted are the ascending row of the same things -/
theorem sortT_asc {rows asc : List (List Int)} (h : asc.Pairwise rowLt) (p : rows.Perm asc) : sortT rows = asc :=
  List.Perm.eq_of_pairwise (le := fun a b => PySem.W.dataLe false dI a b = true) (fun a b _ _ h1 h2 => le_anti h1 h2) (PySem.W.sort_pairwise (PySem.W.sortLe_total _ _ _) rows) (h.imp le_row) ((sortT_perm rows).trans p)
theorem rowLt_irrefl : ∀ a : List Int, ¬ rowLt a a
  | [], h => h
  | x :: a, h => by
    rcases h with h | ⟨_, h⟩
    · omega
    · exact rowLt_irrefl a h
theorem asc_nodup {l : List (List Int)} (h : l.Pairwise rowLt) : l.Nodup := h.imp fun {a b} (hh : rowLt a b) (e : a = b) => rowLt_irrefl b (by rw [e] at hh; exact hh)
section
variable {W : Web} {lot : Lot} {ru : List (List Int)}
/-- the settled states, turned and sorted -/
theorem settled_turned (ok : W.Ok) (r0 : Ru0 W ru) (hb : firstBad W ru = none) : sortT ((settledStates W ru).map (turnS lot W)) = settledStates (turnW lot W) (rulesTurn lot W ru) := by
  refine sortT_asc (settled_asc _ _) ?_
  have n1 : ((settledStates W ru).map (turnS lot W)).Nodup := List.pairwise_map.mpr ((asc_nodup (settled_asc W ru)).imp fun {a b} h e => h (turn_inj e))
  refine (List.perm_ext_iff_of_nodup n1 (asc_nodup (settled_asc _ _))).mpr fun s => ?_
  constructor
  · intro h
    obtain ⟨st, hst, rfl⟩ := List.mem_map.mp h
    have so := rows_st (List.mem_filter.mp hst).1
    exact (settled_turn ok r0 hb so).mpr hst
  · intro h
    have so : StOk W s := rows_st (W := W) (List.mem_filter.mp h).1
    refine List.mem_map.mpr ⟨turnS lot W s, ?_, turnS_two s⟩
    rw [← turnS_two (W := W) (lot := lot) s] at h
    exact (settled_turn ok r0 hb (turnS_ok so)).mp h
end
end Lk

/-! ## RC6 -/
set_option Elab.async false
set_option linter.all false
set_option maxRecDepth 100000
set_option maxHeartbeats 2000000
/-! Where no ring is odd, some state is settled: part by part. -/
namespace Lk
open PySem PySem.Spec PyProof.Rows L2 Gx
variable [Own]
section
variable {W : Web} {ru : List (List Int)}
theorem anc_up {U : Int → Prop} {h g f : Int} (a : Anc W U h g) (b : Anc W U g f) : Anc W U h f := by
  obtain ⟨u, c, hc⟩ := a
  obtain ⟨_, d, hd⟩ := b
  exact ⟨u, c ++ d, way_join hc hd⟩
open Classical in
theorem parts_rest (ok : W.Ok) (hr : ∀ p ∈ ringsOf W, evenP W.looks p = true) (r0 : Ru0 W ru) (hb : firstBad W ru = none) :
    ∀ (k : Nat) {S : Int → Prop} {st : List Int}, StOk W st → (∀ n : Int, 0 ≤ n → n < W.looks.length → S (lkr W.looks n) → S (lkd W.looks n)) → (∀ f : Int, 0 ≤ f → f < W.tops.length → S f → moodTold W ru st f = stAt st f) →
      ((List.range W.tops.length).filter fun f : Nat => decide (¬ S (f : Int))).length ≤ k → ∃ z, StOk W z ∧ ∀ f : Int, 0 ≤ f → f < W.tops.length → moodTold W ru z f = stAt z f := by
  intro k
  induction k with
  | zero =>
    intro S st so hcl hm hk
    refine ⟨st, so, fun f h0 h1 => hm f h0 h1 ?_⟩
    refine Classical.byContradiction fun z => ?_
    have : f.toNat ∈ (List.range W.tops.length).filter fun f : Nat => decide (¬ S (f : Int)) := List.mem_filter.mpr ⟨List.mem_range.mpr (by omega), decide_eq_true (by rw [show ((f.toNat : Nat) : Int) = f by omega]; exact z)⟩
    rw [List.eq_nil_of_length_eq_zero (Nat.le_zero.mp hk)] at this
    cases this
  | succ k ih =>
    intro S st so hcl hm hk
    by_cases hall : ∀ f : Int, 0 ≤ f → f < W.tops.length → S f
    · exact ⟨st, so, fun f h0 h1 => hm f h0 h1 (hall f h0 h1)⟩
    · obtain ⟨f1, hf1⟩ := Classical.not_forall.mp hall
      obtain ⟨h01, hf1⟩ := Classical.not_forall.mp hf1
      obtain ⟨h11, hf1⟩ := Classical.not_forall.mp hf1
      let U : Int → Prop := fun g => (0 ≤ g ∧ g < W.tops.length) ∧ ¬ S g
      -- whoever has the fewest behind them
      obtain ⟨f, hf, least⟩ := least_by (p := U) (fun g => ((List.range W.tops.length).filter fun h : Nat => decide (Anc W U (h : Int) g)).length) _ (a := f1) ⟨⟨h01, h11⟩, hf1⟩ (Nat.le_refl _)
      let A : Int → Prop := fun h => Anc W U h f
      have selfA : A f := ⟨hf, [], .inl ⟨rfl, rfl⟩⟩
      have back : ∀ g, A g → ∃ c, Way W U f g c := fun g hg => by
        have hsub : ∀ a ∈ List.range W.tops.length, decide (Anc W U (a : Int) g) = true → decide (Anc W U (a : Int) f) = true := fun a _ h => decide_eq_true (anc_up (of_decide_eq_true h) hg)
        have h := filter_same hsub (least g hg.1) f.toNat (List.mem_range.mpr (by have := hf.1; omega)) (decide_eq_true (by rw [show ((f.toNat : Nat) : Int) = f by have := hf.1; omega]; exact selfA))
        have h := of_decide_eq_true h
        rw [show ((f.toNat : Nat) : Int) = f by have := hf.1; omega] at h
        exact h.2
      have sides : ∀ n : Int, 0 ≤ n → n < W.looks.length → A (lkd W.looks n) → A (lkr W.looks n) → decide (lks W.looks n = 1) = (sideOf W U f (lkd W.looks n) == sideOf W U f (lkr W.looks n)) := fun n h0 h1 a b => side_look ok hr ⟨h0, h1⟩ a.1 b.1 (back _ a) b.2
      obtain ⟨z, z1, z2, z3⟩ := part_rest ok r0 hb sides so
      obtain ⟨S2, hS2⟩ : ∃ S2 : Int → Prop, ∀ h, S2 h ↔ S h ∨ A h := ⟨fun h => S h ∨ A h, fun _ => Iff.rfl⟩
      refine ih (S := S2) z1 (fun n h0 h1 h => ?_) (fun g h0 h1 h => ?_) ?_
      · rw [hS2] at h ⊢
        rcases h with h | h
        · exact .inl (hcl n h0 h1 h)
        · by_cases hS : S (lkd W.looks n)
          · exact .inl hS
          · have hd := lookd_ok ok h0 h1
            have u : U (lkd W.looks n) := ⟨hd, hS⟩
            exact .inr (anc_up ⟨u, _, way_one ⟨h0, h1⟩ u h.1⟩ h)
      · by_cases hA : A g
        · exact z2 g h0 h1 hA
        · have hS : S g := ((hS2 g).mp h).resolve_right hA
          have e : moodTold W ru z g = moodTold W ru st g := mood_same fun l hl => by
            obtain ⟨n, hn, e1, e2, _⟩ := look_number hl
            have hd := lookd_ok ok hn.1 hn.2
            have hSl := hcl n hn.1 hn.2 (by rw [e1]; exact hS)
            rw [e2] at hSl hd
            exact z3 l.1 hd.1 hd.2 fun q => q.1.2 hSl
          rw [e, hm g h0 h1 hS, z3 g h0 h1 hA]
      · refine Nat.le_of_lt_succ (Nat.lt_of_lt_of_le ?_ hk)
        refine Nat.lt_of_not_le fun q => ?_
        have hsub : ∀ a ∈ List.range W.tops.length, decide (¬ S2 (a : Int)) = true → decide (¬ S (a : Int)) = true := fun a _ h => decide_eq_true fun s => of_decide_eq_true h ((hS2 _).mpr (.inl s))
        have h := filter_same hsub q f.toNat (List.mem_range.mpr (by have := hf.1; omega)) (decide_eq_true (by rw [show ((f.toNat : Nat) : Int) = f by have := hf.1; omega]; exact hf.2))
        have h := of_decide_eq_true h
        rw [show ((f.toNat : Nat) : Int) = f by have := hf.1; omega] at h
        exact h ((hS2 f).mpr (.inr selfA))
/-- a state that all tables tell is settled -/
theorem told_settled (ok : W.Ok) (r0 : Ru0 W ru) (hb : firstBad W ru = none) {z : List Int} (so : StOk W z) (h : ∀ f : Int, 0 ≤ f → f < W.tops.length → moodTold W ru z f = stAt z f) : z ∈ settledStates W ru := by
  refine List.mem_filter.mpr ⟨state_row so, decide_eq_true (same_state (told_ok ok r0 hb so) so fun f h0 h1 => ?_)⟩
  rw [told_at h0 (by rw [so.len]; exact h1)]
  exact h f h0 h1
/-- no odd ring: some state is settled -/
theorem one_settled (ok : W.Ok) (hr : ∀ p ∈ ringsOf W, evenP W.looks p = true) (r0 : Ru0 W ru) (hb : firstBad W ru = none) : settledStates W ru ≠ [] := by
  have so : StOk W (W.tops.map fun _ => 0) := by
    refine ⟨by rw [List.length_map], fun f h0 h1 => ?_⟩
    have ht := topAt_ok ok h0 h1
    have : stAt (W.tops.map fun _ => 0) f = 0 := by
      unfold stAt
      rw [List.getD_eq_getElem?_getD, List.getElem?_map]
      cases W.tops[f.toNat]? <;> rfl
    omega
  obtain ⟨z, z1, z2⟩ := parts_rest ok hr r0 hb _ (S := fun _ => False) so (fun _ _ _ h => h) (fun _ _ _ h => h.elim) (Nat.le_refl _)
  intro e
  have := told_settled ok r0 hb z1 z2
  rw [e] at this
  cases this
/-- no even ring: at most one state is settled -/
theorem most_one (ok : W.Ok) (hr : ∀ p ∈ ringsOf W, evenP W.looks p = false) (r0 : Ru0 W ru) (hb : firstBad W ru = none) : (settledStates W ru).length ≤ 1 := by
  match h : settledStates W ru with
  | [] => exact Nat.zero_le _
  | [_] => exact Nat.le_refl _
  | x :: y :: r =>
    have nd : (settledStates W ru).Nodup := by
      unfold settledStates
      exact List.Pairwise.filter _ (asc_nodup (rows_asc W.tops))
    rw [h] at nd
    have ne : x ≠ y := fun e => by
      have := (List.nodup_cons.mp nd).1
      exact this (by rw [e]; exact List.mem_cons_self ..)
    obtain ⟨p, hp, e⟩ := two_even ok r0 hb (by rw [h]; simp) (by rw [h]; simp) ne
    rw [hr p hp] at e
    cases e
end
end Lk

/-! ## AT -/
set_option Elab.async false
set_option linter.all false
set_option maxRecDepth 100000
set_option maxHeartbeats 2000000
/-! All tables, mood by mood. -/
namespace Lk
open PySem PySem.Spec PyProof.Rows L2 Gx
variable [Own]
/-- lists grown place by place, each next mood between two bounds that the places ahead give -/
def grow (lo hi : List Int → Int) : Nat → List (List Int)
  | 0 => [[]]
  | k + 1 => (grow lo hi k).flatMap fun t => (nums (lo t) (hi t + 1)).map fun m => t ++ [m]
theorem grow_mem {lo hi : List Int → Int} : ∀ (k : Nat) {t : List Int}, t ∈ grow lo hi k ↔ t.length = k ∧ ∀ i, i < k → lo (t.take i) ≤ t.getD i 0 ∧ t.getD i 0 ≤ hi (t.take i)
  | 0, t => by
    show t ∈ [[]] ↔ _
    rw [List.mem_singleton]
    constructor
    · rintro rfl
      exact ⟨rfl, fun i hi => by omega⟩
    · rintro ⟨h, _⟩
      exact List.eq_nil_of_length_eq_zero h
  | k + 1, t => by
    show t ∈ (grow lo hi k).flatMap _ ↔ _
    rw [List.mem_flatMap]
    constructor
    · rintro ⟨s, hs, h⟩
      obtain ⟨m, hm, rfl⟩ := List.mem_map.mp h
      obtain ⟨h1, h2⟩ := (grow_mem k).mp hs
      have hm := mem_nums.mp hm
      refine ⟨by rw [List.length_append, h1]; rfl, fun i hi => ?_⟩
      by_cases e : i < k
      · rw [List.take_append_of_le_length (by omega), List.getD_eq_getElem?_getD, List.getElem?_append_left (by omega), ← List.getD_eq_getElem?_getD]
        exact h2 i e
      · have e : i = k := by omega
        have g : (s ++ [m]).getD i 0 = m := by
          rw [List.getD_eq_getElem?_getD, List.getElem?_append_right (by omega), show i - s.length = 0 by omega]
          rfl
        rw [g, e, ← h1, List.take_left]
        omega
    · rintro ⟨h1, h2⟩
      have hne : t ≠ [] := fun z => by rw [z] at h1; cases h1
      obtain ⟨s, m, rfl⟩ : ∃ s m, t = s ++ [m] := ⟨t.dropLast, t.getLast hne, (List.dropLast_concat_getLast hne).symm⟩
      have ls : s.length = k := by simpa using h1
      refine ⟨s, (grow_mem k).mpr ⟨ls, fun i hi => ?_⟩, List.mem_map.mpr ⟨m, mem_nums.mpr ?_, rfl⟩⟩
      · have := h2 i (by omega)
        rw [List.take_append_of_le_length (by omega), List.getD_eq_getElem?_getD, List.getElem?_append_left (by omega), ← List.getD_eq_getElem?_getD] at this
        exact this
      · have := h2 k (by omega)
        have g : (s ++ [m]).getD k 0 = m := by
          rw [List.getD_eq_getElem?_getD, List.getElem?_append_right (by omega), show k - s.length = 0 by omega]
          rfl
        rw [g, ← ls, List.take_left] at this
        omega
theorem nums_asc (a b : Int) : (nums a b).Pairwise (· < ·) := by
  unfold nums
  refine List.pairwise_map.mpr (List.Pairwise.imp (fun {i j} h => ?_) List.pairwise_lt_range)
  omega
theorem grow_asc {lo hi : List Int → Int} : ∀ k, (grow lo hi k).Pairwise rowLt
  | 0 => List.pairwise_singleton ..
  | k + 1 => by
    have ih := grow_asc (lo := lo) (hi := hi) k
    show ((grow lo hi k).flatMap _).Pairwise rowLt
    generalize grow lo hi k = rows at ih
    induction rows with
    | nil => exact .nil
    | cons r rows ih2 =>
      obtain ⟨h1, h2⟩ := List.pairwise_cons.mp ih
      rw [List.flatMap_cons, List.pairwise_append]
      refine ⟨List.pairwise_map.mpr ((nums_asc _ _).imp fun {a b} h => rowLt_last h r), ih2 h2, fun a ha b hb => ?_⟩
      obtain ⟨x, _, rfl⟩ := List.mem_map.mp ha
      obtain ⟨r2, hr2, hb⟩ := List.mem_flatMap.mp hb
      obtain ⟨y, _, rfl⟩ := List.mem_map.mp hb
      exact rowLt_snoc x y (h1 r2 hr2)
theorem rowLt_asymm : ∀ {a b : List Int}, rowLt a b → rowLt b a → False
  | x :: a, y :: b, h1, h2 => by
    rcases h1 with h1 | ⟨e1, h1⟩
    · rcases h2 with h2 | ⟨e2, _⟩
      · omega
      · omega
    · rcases h2 with h2 | ⟨_, h2⟩
      · omega
      · exact rowLt_asymm h1 h2
  | [], _, h, _ => h.elim
  | _ :: _, [], h, _ => h.elim
/-- ascending lists of the same things are one -/
theorem asc_same {a b : List (List Int)} (ha : a.Pairwise rowLt) (hb : b.Pairwise rowLt) (h : ∀ t, t ∈ a ↔ t ∈ b) : a = b :=
  List.Perm.eq_of_pairwise (le := rowLt) (fun x y _ _ h1 h2 => (rowLt_asymm h1 h2).elim) ha hb ((List.perm_ext_iff_of_nodup (asc_nodup ha) (asc_nodup hb)).mpr h)
/-- greatest of these and a, least of these and a -/
def maxFrom (a : Int) (l : List Int) : Int := l.foldl (fun x y => if x < y then y else x) a
def minFrom (a : Int) (l : List Int) : Int := l.foldl (fun x y => if y < x then y else x) a
theorem maxFrom_le : ∀ (l : List Int) (a m : Int), maxFrom a l ≤ m ↔ a ≤ m ∧ ∀ x ∈ l, x ≤ m
  | [], a, m => by simp [maxFrom]
  | b :: l, a, m => by
    show maxFrom (if a < b then b else a) l ≤ m ↔ _
    rw [maxFrom_le l]
    simp only [List.mem_cons, forall_eq_or_imp]
    split <;> constructor <;> intro h <;> refine ⟨?_, ?_⟩ <;> first | omega | exact h.2 | exact h.2.2 | exact ⟨by omega, h.2⟩
theorem le_minFrom : ∀ (l : List Int) (a m : Int), m ≤ minFrom a l ↔ m ≤ a ∧ ∀ x ∈ l, m ≤ x
  | [], a, m => by simp [minFrom]
  | b :: l, a, m => by
    show m ≤ minFrom (if b < a then b else a) l ↔ _
    rw [le_minFrom l]
    simp only [List.mem_cons, forall_eq_or_imp]
    split <;> constructor <;> intro h <;> refine ⟨?_, ?_⟩ <;> first | omega | exact h.2 | exact h.2.2 | exact ⟨by omega, h.2⟩
section
variable {W : Web} {f : Int}
/-- the law's bounds: by all rows ahead that go to it, to which it goes -/
def lowAt (W : Web) (f : Int) (t : List Int) : Int := maxFrom 0 (((List.range t.length).filter fun k => lawGoes (signsAt W f) ((rowsAt W f).getD k []) ((rowsAt W f).getD t.length [])).map fun k => t.getD k 0)
def highAt (W : Web) (f : Int) (t : List Int) : Int := minFrom (topAt W f) (((List.range t.length).filter fun k => lawGoes (signsAt W f) ((rowsAt W f).getD t.length []) ((rowsAt W f).getD k [])).map fun k => t.getD k 0)
def tablesOf (W : Web) (f : Int) : List (List Int) := grow (lowAt W f) (highAt W f) (rowsAt W f).length
/-- they are all tables -/
theorem mem_tables (ok : W.Ok) {t : List Int} : t ∈ tablesOf W f ↔ isTable W f t = true := by
  have es : (axes W (looksOf W f)).map (·.2) = signsAt W f := by
    unfold axes signsAt
    rw [List.map_map]
    rfl
  have hl : pr (axes W (looksOf W f)) = (rowsAt W f).length := by rw [rowsAt_rws, rws_len]
  have row : ∀ i, i < (rowsAt W f).length → (rws (axes W (looksOf W f)))[i]? = some ((rowsAt W f).getD i []) := fun i hi => by
    rw [← rowsAt_rws, List.getD_eq_getElem?_getD, List.getElem?_eq_getElem hi] <;> rfl
  unfold tablesOf
  rw [grow_mem, isTable_iff ok, hl]
  refine and_congr_right fun hlen => ?_
  have tk : ∀ i, i < (rowsAt W f).length → (t.take i).length = i := fun i hi => by rw [List.length_take]; omega
  have tg : ∀ i k, k < i → (t.take i).getD k 0 = t.getD k 0 := fun i k hk => by rw [List.getD_eq_getElem?_getD, List.getElem?_take_of_lt hk, ← List.getD_eq_getElem?_getD]
  have lowI : ∀ i, i < (rowsAt W f).length → ∀ m, lowAt W f (t.take i) ≤ m ↔ 0 ≤ m ∧ ∀ k, k < i → lawGoes (signsAt W f) ((rowsAt W f).getD k []) ((rowsAt W f).getD i []) = true → t.getD k 0 ≤ m := fun i hi m => by
    unfold lowAt
    rw [maxFrom_le, tk i hi]
    refine and_congr_right fun _ => ⟨fun h k hk g => ?_, fun h x hx => ?_⟩
    · have := h _ (List.mem_map.mpr ⟨k, List.mem_filter.mpr ⟨List.mem_range.mpr hk, g⟩, rfl⟩)
      rw [tg i k hk] at this
      exact this
    · obtain ⟨k, hk, rfl⟩ := List.mem_map.mp hx
      obtain ⟨hk, g⟩ := List.mem_filter.mp hk
      have hk := List.mem_range.mp hk
      rw [tg i k hk]
      exact h k hk g
  have highI : ∀ i, i < (rowsAt W f).length → ∀ m, m ≤ highAt W f (t.take i) ↔ m ≤ topAt W f ∧ ∀ k, k < i → lawGoes (signsAt W f) ((rowsAt W f).getD i []) ((rowsAt W f).getD k []) = true → m ≤ t.getD k 0 := fun i hi m => by
    unfold highAt
    rw [le_minFrom, tk i hi]
    refine and_congr_right fun _ => ⟨fun h k hk g => ?_, fun h x hx => ?_⟩
    · have := h _ (List.mem_map.mpr ⟨k, List.mem_filter.mpr ⟨List.mem_range.mpr hk, g⟩, rfl⟩)
      rw [tg i k hk] at this
      exact this
    · obtain ⟨k, hk, rfl⟩ := List.mem_map.mp hx
      obtain ⟨hk, g⟩ := List.mem_filter.mp hk
      have hk := List.mem_range.mp hk
      rw [tg i k hk]
      exact h k hk g
  constructor
  · intro h
    refine ⟨fun m hm => ?_, fun p q xp xq h1 h2 g => ?_⟩
    · obtain ⟨i, hi⟩ := List.getElem?_of_mem hm
      have hil := (List.getElem?_eq_some_iff.mp hi).1
      have e : t.getD i 0 = m := by rw [List.getD_eq_getElem?_getD, hi] <;> rfl
      have h1 := h i (by omega)
      rw [e] at h1
      exact ⟨((lowI i (by omega) m).mp h1.1).1, ((highI i (by omega) m).mp h1.2).1⟩
    · have hp : p < (rowsAt W f).length := by
        have := (List.getElem?_eq_some_iff.mp h1).1
        rw [rws_len, hl] at this
        exact this
      have hq : q < (rowsAt W f).length := by
        have := (List.getElem?_eq_some_iff.mp h2).1
        rw [rws_len, hl] at this
        exact this
      rw [row p hp] at h1
      rw [row q hq] at h2
      rw [← Option.some.inj h1, ← Option.some.inj h2, es] at g
      show t.getD p 0 ≤ t.getD q 0
      rcases Nat.lt_trichotomy p q with e | e | e
      · exact ((lowI q hq _).mp (h q hq).1).2 p e g
      · rw [e]
        exact Int.le_refl _
      · exact ((highI p hp _).mp (h p hp).2).2 q e g
  · rintro ⟨hb, al⟩ i hi
    have hm : t.getD i 0 ∈ t := by
      rw [List.getD_eq_getElem?_getD, List.getElem?_eq_getElem (by omega)]
      exact List.getElem_mem _
    have hbd := hb _ hm
    refine ⟨(lowI i hi _).mpr ⟨hbd.1, fun k hk g => ?_⟩, (highI i hi _).mpr ⟨hbd.2, fun k hk g => ?_⟩⟩
    · exact al k i _ _ (row k (by omega)) (row i hi) (by rw [es]; exact g)
    · exact al i k _ _ (row i hi) (row k (by omega)) (by rw [es]; exact g)
theorem tables_asc (W : Web) (f : Int) : (tablesOf W f).Pairwise rowLt := grow_asc _
end
end Lk

/-! ## AT2 -/
set_option Elab.async false
set_option linter.all false
set_option maxRecDepth 100000
set_option maxHeartbeats 2000000
/-! All tables, by the neighbours alone: the same. -/
namespace Lk
open PySem PySem.Spec PyProof.Rows L2 Gx
variable [Own]
section
variable {W : Web} {f : Int}
/-- how the rows go along the looks, the last one ahead -/
def waysN (W : Web) (f : Int) : List (Nat × Nat × Int) := (List.range (looksOf W f).length).map fun i => (prodOf W ((looksOf W f).reverse.take i), (topAt W ((looksOf W f).reverse.getD i (0, 0)).1 + 1).toNat, ((looksOf W f).reverse.getD i (0, 0)).2)
/-- the moods at the neighbours below the next place, and their signs -/
def belowN (W : Web) (f : Int) (t : List Int) : List (Int × Int) := ((waysN W f).filter fun w => decide (0 < t.length / w.1 % w.2.1)).map fun w => (t.getD (t.length - w.1) 0, w.2.2)
def lowN (W : Web) (f : Int) (t : List Int) : Int := maxFrom 0 (((belowN W f t).filter fun p => p.2 == 1).map (·.1))
def highN (W : Web) (f : Int) (t : List Int) : Int := minFrom (topAt W f) (((belowN W f t).filter fun p => p.2 == -1).map (·.1))
theorem mem_ways {w : Nat × Nat × Int} : w ∈ waysN W f ↔ ∃ (i : Nat) (l : Int × Int), (looksOf W f).reverse[i]? = some l ∧ w = (prodOf W ((looksOf W f).reverse.take i), (topAt W l.1 + 1).toNat, l.2) := by
  unfold waysN
  rw [List.mem_map]
  constructor
  · rintro ⟨i, hi, rfl⟩
    have hi := List.mem_range.mp hi
    have h : (looksOf W f).reverse[i]? = some ((looksOf W f).reverse.getD i (0, 0)) := by
      rw [List.getD_eq_getElem?_getD, List.getElem?_eq_getElem (by rw [List.length_reverse]; exact hi)] <;> rfl
    exact ⟨i, _, h, rfl⟩
  · rintro ⟨i, l, h, rfl⟩
    have hi := (List.getElem?_eq_some_iff.mp h).1
    rw [List.length_reverse] at hi
    exact ⟨i, List.mem_range.mpr hi, by rw [List.getD_eq_getElem?_getD, h] <;> rfl⟩
theorem way_ok (ok : W.Ok) {w : Nat × Nat × Int} (h : w ∈ waysN W f) : 0 < w.1 ∧ 0 < w.2.1 ∧ (w.2.2 = 1 ∨ w.2.2 = -1) ∧ ∃ r, (rowsAt W f).length = w.1 * w.2.1 * r := by
  obtain ⟨i, l, hl, rfl⟩ := mem_ways.mp h
  have hm : l ∈ looksOf W f := List.mem_reverse.mp (List.mem_of_getElem? hl)
  have lo := looksOf_ok ok l hm
  have ht := topAt_ok ok lo.1.1 lo.1.2
  refine ⟨prod_pos ok _ fun x hx => (looksOf_ok ok x (List.mem_reverse.mp (List.mem_of_mem_take hx))).1, by show 0 < (topAt W l.1 + 1).toNat; omega, lo.2, prodOf W ((looksOf W f).reverse.drop (i + 1)), ?_⟩
  show _ = prodOf W ((looksOf W f).reverse.take i) * (topAt W l.1 + 1).toNat * _
  have e1 : prodOf W ((looksOf W f).reverse.take i) * (topAt W l.1 + 1).toNat = prodOf W ((looksOf W f).reverse.take (i + 1)) := by
    rw [List.take_add_one, hl]
    exact (prod_snoc W l _).symm
  have e2 : prodOf W (looksOf W f) = prodOf W ((looksOf W f).reverse.take (i + 1)) * prodOf W ((looksOf W f).reverse.drop (i + 1)) := by
    rw [← prod_rev W (looksOf W f)]
    conv => lhs; rw [← List.take_append_drop (i + 1) (looksOf W f).reverse]
    unfold prodOf
    rw [List.foldl_append, prod_mul]
    rfl
  rw [e1, ← e2, rowsAt_rws, rws_len, pr_prod]
/-- a table, said by the neighbours below each place -/
theorem table_below (ok : W.Ok) {t : List Int} : isTable W f t = true ↔ t.length = (rowsAt W f).length ∧ ∀ i, i < (rowsAt W f).length → (0 ≤ t.getD i 0 ∧ t.getD i 0 ≤ topAt W f) ∧ ∀ w ∈ waysN W f, 0 < i / w.1 % w.2.1 → 0 ≤ (t.getD i 0 - t.getD (i - w.1) 0) * w.2.2 := by
  have hl : (manyRows W f) = ((rowsAt W f).length : Int) := by rw [many_eq ok, rowsAt_rws, rws_len, pr_prod]
  have hloop : goLoop W t (looksOf W f).reverse 1 = true ↔ ∀ w ∈ waysN W f, goesAlong t w.1 w.2.1 w.2.2 = true := by
    constructor
    · intro h w hw
      obtain ⟨i, l, hil, rfl⟩ := mem_ways.mp hw
      cases hc : goesAlong t (prodOf W ((looksOf W f).reverse.take i)) (topAt W l.1 + 1).toNat l.2 with
      | true => rfl
      | false =>
        rw [goLoop_false hil (by rw [Nat.one_mul]; exact hc)] at h
        cases h
    · intro h
      refine goLoop_true fun i l hil => ?_
      rw [Nat.one_mul]
      exact h _ (mem_ways.mpr ⟨i, l, hil, rfl⟩)
  unfold isTable
  rw [Bool.and_eq_true, Bool.and_eq_true, decide_eq_true_iff, hl, hloop, List.all_eq_true]
  have step : ∀ {w : Nat × Nat × Int}, w ∈ waysN W f → t.length = (rowsAt W f).length → (goesAlong t w.1 w.2.1 w.2.2 = true ↔ ∀ i, i < (rowsAt W f).length → 0 < i / w.1 % w.2.1 → 0 ≤ (t.getD i 0 - t.getD (i - w.1) 0) * w.2.2) := by
    intro w hw hlen
    obtain ⟨s0, z0, _, r, hr⟩ := way_ok ok hw
    rw [goes_cn]
    constructor
    · intro h i hi hpos
      have his : w.1 ≤ i := by
        refine Nat.le_of_not_lt fun z => ?_
        rw [Nat.div_eq_of_lt z, Nat.zero_mod] at hpos
        omega
      have e1 : (i - w.1) / w.1 = i / w.1 - 1 := by
        have := Nat.add_div_right (i - w.1) s0
        rw [show i - w.1 + w.1 = i by omega] at this
        rw [this]
        exact (Nat.add_sub_cancel ..).symm
      have hd : 0 < i / w.1 := Nat.pos_of_ne_zero fun z => by rw [z, Nat.zero_mod] at hpos; omega
      have e2 : (i / w.1 - 1) % w.2.1 = i / w.1 % w.2.1 - 1 := by
        generalize i / w.1 = q at *
        obtain ⟨a, b, rfl, hb⟩ : ∃ a b, q = w.2.1 * a + b ∧ b < w.2.1 := ⟨q / w.2.1, q % w.2.1, (Nat.div_add_mod q w.2.1).symm, Nat.mod_lt _ z0⟩
        rw [Nat.mul_add_mod, Nat.mod_eq_of_lt hb] at hpos ⊢
        rw [show w.2.1 * a + b - 1 = w.2.1 * a + (b - 1) by omega, Nat.mul_add_mod, Nat.mod_eq_of_lt (by omega)]
      have hlt := Nat.mod_lt (i / w.1) z0
      have := h (i - w.1) (by omega) (by rw [e1, e2]; omega)
      rw [show i - w.1 + w.1 = i by omega] at this
      exact this
    · intro h p hp hpz
      have hin := places_in s0 z0 hr p (by
        unfold placesOf
        exact List.mem_filter.mpr ⟨List.mem_range.mpr (by omega), decide_eq_true hpz⟩)
      have e1 : (p + w.1) / w.1 = p / w.1 + 1 := Nat.add_div_right p s0
      have e2 : (p / w.1 + 1) % w.2.1 = p / w.1 % w.2.1 + 1 := by
        generalize p / w.1 = q at *
        obtain ⟨a, b, rfl, hb⟩ : ∃ a b, q = w.2.1 * a + b ∧ b < w.2.1 := ⟨q / w.2.1, q % w.2.1, (Nat.div_add_mod q w.2.1).symm, Nat.mod_lt _ z0⟩
        rw [Nat.mul_add_mod, Nat.mod_eq_of_lt hb] at hpz ⊢
        rw [show w.2.1 * a + b + 1 = w.2.1 * a + (b + 1) by omega, Nat.mul_add_mod, Nat.mod_eq_of_lt (by omega)]
      have := h (p + w.1) hin (by rw [e1, e2]; omega)
      rw [show p + w.1 - w.1 = p by omega] at this
      exact this
  constructor
  · rintro ⟨⟨h1, h2⟩, h3⟩
    have hlen : t.length = (rowsAt W f).length := by omega
    refine ⟨hlen, fun i hi => ⟨?_, fun w hw hpos => (step hw hlen).mp (h3 w hw) i hi hpos⟩⟩
    have := h2 (t.getD i 0) (by
      rw [List.getD_eq_getElem?_getD, List.getElem?_eq_getElem (by omega)]
      exact List.getElem_mem _)
    unfold isWhole at this
    rw [Bool.and_eq_true] at this
    exact ⟨of_decide_eq_true this.1, of_decide_eq_true this.2⟩
  · rintro ⟨hlen, h⟩
    refine ⟨⟨by omega, fun m hm => ?_⟩, fun w hw => (step hw hlen).mpr fun i hi hpos => (h i hi).2 w hw hpos⟩
    obtain ⟨i, hi⟩ := List.getElem?_of_mem hm
    have hil := (List.getElem?_eq_some_iff.mp hi).1
    have e : t.getD i 0 = m := by rw [List.getD_eq_getElem?_getD, hi] <;> rfl
    have := (h i (by omega)).1
    rw [e] at this
    unfold isWhole
    rw [Bool.and_eq_true]
    exact ⟨decide_eq_true this.1, decide_eq_true this.2⟩
/-- grown by the neighbours: all tables, too -/
theorem tables_below (ok : W.Ok) : grow (lowN W f) (highN W f) (rowsAt W f).length = tablesOf W f := by
  refine asc_same (grow_asc _) (tables_asc W f) fun t => ?_
  rw [mem_tables ok, table_below ok, grow_mem]
  refine and_congr_right fun hlen => forall_congr' fun i => ?_
  refine ⟨fun h hi => ?_, fun h hi => ?_⟩
  all_goals
    have tk : (t.take i).length = i := by rw [List.length_take]; omega
    have tg : ∀ k, k < i → (t.take i).getD k 0 = t.getD k 0 := fun k hk => by rw [List.getD_eq_getElem?_getD, List.getElem?_take_of_lt hk, ← List.getD_eq_getElem?_getD]
    have small : ∀ w ∈ waysN W f, 0 < i / w.1 % w.2.1 → i - w.1 < i := fun w hw hpos => by
      have := (way_ok ok hw).1
      have : 0 < i := Nat.pos_of_ne_zero fun z => by rw [z, Nat.zero_div, Nat.zero_mod] at hpos; omega
      omega
    have h := h hi
    unfold lowN highN at *
  · rw [maxFrom_le, le_minFrom] at h
    refine ⟨⟨h.1.1, h.2.1⟩, fun w hw hpos => ?_⟩
    have hb : (t.getD (i - w.1) 0, w.2.2) ∈ belowN W f (t.take i) := by
      unfold belowN
      rw [tk]
      exact List.mem_map.mpr ⟨w, List.mem_filter.mpr ⟨hw, decide_eq_true hpos⟩, by rw [tg _ (small w hw hpos)]⟩
    rcases (way_ok ok hw).2.2.1 with s | s
    · have := h.1.2 _ (List.mem_map.mpr ⟨_, List.mem_filter.mpr ⟨hb, by rw [s]; rfl⟩, rfl⟩)
      rw [s, Int.mul_one]
      have this : t.getD (i - w.1) 0 ≤ t.getD i 0 := this
      omega
    · have := h.2.2 _ (List.mem_map.mpr ⟨_, List.mem_filter.mpr ⟨hb, by rw [s]; rfl⟩, rfl⟩)
      rw [s]
      have this : t.getD i 0 ≤ t.getD (i - w.1) 0 := this
      omega
  · rw [maxFrom_le, le_minFrom]
    refine ⟨⟨h.1.1, fun x hx => ?_⟩, ⟨h.1.2, fun x hx => ?_⟩⟩
    all_goals
      obtain ⟨p, hp, rfl⟩ := List.mem_map.mp hx
      obtain ⟨hp, hs⟩ := List.mem_filter.mp hp
      unfold belowN at hp
      obtain ⟨w, hw, rfl⟩ := List.mem_map.mp hp
      obtain ⟨hw, hpos⟩ := List.mem_filter.mp hw
      have hpos := of_decide_eq_true hpos
      rw [tk] at hpos
      have hs := beq_iff_eq.mp hs
      have h2 := h.2 w hw hpos
      show _ ≤ _
      simp only [tk]
      rw [tg _ (small w hw hpos)]
      have hs : w.2.2 = _ := hs
      rw [hs] at h2
      omega
end
end Lk

/-! ## AT3 -/
set_option Elab.async false
set_option linter.all false
set_option maxRecDepth 100000
set_option maxHeartbeats 2000000
/-! A table's first moods can always be gone on with: there are no fewer of more moods. -/
namespace Lk
open PySem PySem.Spec PyProof.Rows L2 Gx
variable [Own]
section
variable {W : Web} {f : Int}
theorem digit_low {k s z r : Nat} (h : s * z * r ≤ k) : (k - s * z * r) / s % z = k / s % z := by
  rcases Nat.eq_zero_or_pos s with e | hs
  · subst e
    simp
  · have e : k = (k - s * z * r) + s * (z * r) := by
      have : s * (z * r) = s * z * r := (Nat.mul_assoc s z r).symm
      omega
    conv => rhs; rw [e]
    rw [Nat.add_mul_div_left _ _ hs, Nat.add_mul_mod_self_left]
theorem digit_high {k s z r : Nat} (hz : 0 < z) (h : 0 < k / s % z) : (k - s) / (s * z * r) = k / (s * z * r) := by
  have h1 : (k - s) / s = k / s - 1 := by
    have := Nat.sub_mul_div k s 1
    rw [Nat.mul_one] at this
    exact this
  have h2 : (k / s - 1) / z = k / s / z := by
    have e := Nat.div_add_mod (k / s) z
    have hm := Nat.mod_lt (k / s) hz
    generalize k / s % z = b at h e hm
    generalize k / s / z = a at e
    have : k / s - 1 = z * a + (b - 1) := by omega
    rw [this, Nat.mul_add_div hz, Nat.div_eq_of_lt (show b - 1 < z by omega)]
    rfl
  rw [← Nat.div_div_eq_div_mul, ← Nat.div_div_eq_div_mul, ← Nat.div_div_eq_div_mul, ← Nat.div_div_eq_div_mul, h1, h2]
/-- two ways of unlike signs: one's step leaves the other's digit -/
theorem way_two (ok : W.Ok) {w1 w2 : Nat × Nat × Int} (h1 : w1 ∈ waysN W f) (h2 : w2 ∈ waysN W f) (ne : w1.2.2 ≠ w2.2.2) {k : Nat} (d1 : 0 < k / w1.1 % w1.2.1) (d2 : 0 < k / w2.1 % w2.2.1) :
    0 < (k - w1.1) / w2.1 % w2.2.1 ∧ 0 < (k - w2.1) / w1.1 % w1.2.1 := by
  have main : ∀ (i j : Nat) (l m : Int × Int), i < j → (looksOf W f).reverse[i]? = some l → (looksOf W f).reverse[j]? = some m →
      ∀ k : Nat, 0 < k / prodOf W ((looksOf W f).reverse.take i) % (topAt W l.1 + 1).toNat → 0 < k / prodOf W ((looksOf W f).reverse.take j) % (topAt W m.1 + 1).toNat →
      0 < (k - prodOf W ((looksOf W f).reverse.take i)) / prodOf W ((looksOf W f).reverse.take j) % (topAt W m.1 + 1).toNat ∧ 0 < (k - prodOf W ((looksOf W f).reverse.take j)) / prodOf W ((looksOf W f).reverse.take i) % (topAt W l.1 + 1).toNat := by
    intro i j l m hij hl hm k e1 e2
    obtain ⟨r, hr⟩ : ∃ r, prodOf W ((looksOf W f).reverse.take j) = prodOf W ((looksOf W f).reverse.take i) * (topAt W l.1 + 1).toNat * r := by
      refine ⟨prodOf W (((looksOf W f).reverse.take j).drop (i + 1)), ?_⟩
      have a1 : prodOf W ((looksOf W f).reverse.take i) * (topAt W l.1 + 1).toNat = prodOf W ((looksOf W f).reverse.take (i + 1)) := by
        rw [List.take_add_one, hl]
        exact (prod_snoc W l _).symm
      have a2 : ((looksOf W f).reverse.take j).take (i + 1) = (looksOf W f).reverse.take (i + 1) := by
        rw [List.take_take, Nat.min_eq_left (by omega)]
      rw [a1, ← a2]
      conv => lhs; rw [← List.take_append_drop (i + 1) ((looksOf W f).reverse.take j)]
      unfold prodOf
      rw [List.foldl_append, prod_mul]
      rfl
    have hz := (way_ok ok (mem_ways.mpr ⟨i, l, hl, rfl⟩)).2.1
    have hz : 0 < (topAt W l.1 + 1).toNat := hz
    have hle : prodOf W ((looksOf W f).reverse.take j) ≤ k := by
      refine Nat.le_of_not_lt fun z => ?_
      rw [Nat.div_eq_of_lt z, Nat.zero_mod] at e2
      omega
    refine ⟨?_, ?_⟩
    · rw [hr, digit_high hz e1, ← hr]
      exact e2
    · rw [hr, digit_low (by rw [← hr]; exact hle)]
      exact e1
  obtain ⟨i, l, hl, rfl⟩ := mem_ways.mp h1
  obtain ⟨j, m, hm, rfl⟩ := mem_ways.mp h2
  rcases Nat.lt_trichotomy i j with e | e | e
  · exact main i j l m e hl hm k d1 d2
  · subst e
    rw [hl] at hm
    exact absurd (by rw [Option.some.inj hm]) ne
  · exact (main j i m l e hm hl k d2 d1).symm
theorem way_le {w : Nat × Nat × Int} {k : Nat} (d : 0 < k / w.1 % w.2.1) : w.1 ≤ k := by
  refine Nat.le_of_not_lt fun z => ?_
  rw [Nat.div_eq_of_lt z, Nat.zero_mod] at d
  omega
/-- by neighbours -/
theorem below_goes (ok : W.Ok) (hf : 0 ≤ topAt W f) {k : Nat} {t : List Int} (h : t ∈ grow (lowN W f) (highN W f) k) : lowN W f t ≤ highN W f t := by
  obtain ⟨hlen, hb⟩ := (grow_mem k).mp h
  have tk : ∀ i, i < k → (t.take i).length = i := fun i hi => by rw [List.length_take]; omega
  have tg : ∀ i j, j < i → (t.take i).getD j 0 = t.getD j 0 := fun i j hj => by rw [List.getD_eq_getElem?_getD, List.getElem?_take_of_lt hj, ← List.getD_eq_getElem?_getD]
  have bd : ∀ i, i < k → 0 ≤ t.getD i 0 ∧ t.getD i 0 ≤ topAt W f := fun i hi => by
    have := hb i hi
    have a := (maxFrom_le _ _ _).mp (show maxFrom 0 _ ≤ t.getD i 0 from this.1)
    have b := (le_minFrom _ _ _).mp (show t.getD i 0 ≤ minFrom (topAt W f) _ from this.2)
    exact ⟨a.1, b.1⟩
  have up : ∀ i, i < k → ∀ w ∈ waysN W f, w.2.2 = 1 → 0 < i / w.1 % w.2.1 → t.getD (i - w.1) 0 ≤ t.getD i 0 := fun i hi w hw hs hd => by
    have a := (maxFrom_le _ _ _).mp (show maxFrom 0 _ ≤ t.getD i 0 from (hb i hi).1)
    have w0 := (way_ok ok hw).1
    have hle := way_le (w := w) hd
    have := a.2 ((t.take i).getD ((t.take i).length - w.1) 0) (List.mem_map.mpr ⟨((t.take i).getD ((t.take i).length - w.1) 0, w.2.2), List.mem_filter.mpr ⟨List.mem_map.mpr ⟨w, List.mem_filter.mpr ⟨hw, by rw [tk i hi]; exact decide_eq_true hd⟩, rfl⟩, by show (w.2.2 == 1) = true; rw [hs]; rfl⟩, rfl⟩)
    rw [tk i hi, tg i _ (by omega)] at this
    exact this
  have dn : ∀ i, i < k → ∀ w ∈ waysN W f, w.2.2 = -1 → 0 < i / w.1 % w.2.1 → t.getD i 0 ≤ t.getD (i - w.1) 0 := fun i hi w hw hs hd => by
    have b := (le_minFrom _ _ _).mp (show t.getD i 0 ≤ minFrom (topAt W f) _ from (hb i hi).2)
    have w0 := (way_ok ok hw).1
    have hle := way_le (w := w) hd
    have := b.2 ((t.take i).getD ((t.take i).length - w.1) 0) (List.mem_map.mpr ⟨((t.take i).getD ((t.take i).length - w.1) 0, w.2.2), List.mem_filter.mpr ⟨List.mem_map.mpr ⟨w, List.mem_filter.mpr ⟨hw, by rw [tk i hi]; exact decide_eq_true hd⟩, rfl⟩, by show (w.2.2 == -1) = true; rw [hs]; rfl⟩, rfl⟩)
    rw [tk i hi, tg i _ (by omega)] at this
    exact this
  have mem : ∀ {x sg : Int}, x ∈ ((belowN W f t).filter fun p => p.2 == sg).map (·.1) → ∃ w ∈ waysN W f, w.2.2 = sg ∧ 0 < k / w.1 % w.2.1 ∧ x = t.getD (k - w.1) 0 := by
    intro x sg hx
    obtain ⟨p, hp, rfl⟩ := List.mem_map.mp hx
    obtain ⟨hp, hs⟩ := List.mem_filter.mp hp
    obtain ⟨w, hw, rfl⟩ := List.mem_map.mp hp
    obtain ⟨hw, hd⟩ := List.mem_filter.mp hw
    rw [hlen] at hd
    exact ⟨w, hw, beq_iff_eq.mp hs, of_decide_eq_true hd, by rw [hlen]⟩
  have place : ∀ {w : Nat × Nat × Int}, w ∈ waysN W f → 0 < k / w.1 % w.2.1 → k - w.1 < k := fun {w} hw hd => by
    have := (way_ok ok hw).1
    have := way_le (w := w) hd
    omega
  refine (maxFrom_le _ _ _).mpr ⟨(le_minFrom _ _ _).mpr ⟨hf, fun x hx => ?_⟩, fun x hx => (le_minFrom _ _ _).mpr ⟨?_, fun y hy => ?_⟩⟩
  · obtain ⟨w, hw, _, hd, rfl⟩ := mem hx
    exact (bd _ (place hw hd)).1
  · obtain ⟨w, hw, _, hd, rfl⟩ := mem hx
    exact (bd _ (place hw hd)).2
  · obtain ⟨w1, hw1, s1, d1, rfl⟩ := mem hx
    obtain ⟨w2, hw2, s2, d2, rfl⟩ := mem hy
    obtain ⟨e1, e2⟩ := way_two ok hw1 hw2 (by rw [s1, s2]; decide) d1 d2
    have a := dn (k - w1.1) (place hw1 d1) w2 hw2 s2 e1
    have b := up (k - w2.1) (place hw2 d2) w1 hw1 s1 e2
    rw [show k - w2.1 - w1.1 = k - w1.1 - w2.1 by omega] at b
    omega
theorem nums_some {a b : Int} (h : a ≤ b) : 1 ≤ (nums a (b + 1)).length := by
  rw [nums_len]
  omega
theorem grow_more {lo hi : List Int → Int} {k : Nat} (h : ∀ t ∈ grow lo hi k, lo t ≤ hi t) : (grow lo hi k).length ≤ (grow lo hi (k + 1)).length := by
  show _ ≤ ((grow lo hi k).flatMap _).length
  generalize grow lo hi k = rows at h
  induction rows with
  | nil => exact Nat.le_refl _
  | cons r rows ih =>
    rw [List.flatMap_cons, List.length_append, List.length_cons, List.length_map]
    have h1 := nums_some (h r (List.mem_cons_self ..))
    have h2 := ih fun t ht => h t (List.mem_cons_of_mem _ ht)
    omega
theorem below_more (ok : W.Ok) (hf : 0 ≤ topAt W f) {k m : Nat} (h : k ≤ m) : (grow (lowN W f) (highN W f) k).length ≤ (grow (lowN W f) (highN W f) m).length := by
  induction h with
  | refl => exact Nat.le_refl _
  | step h ih => exact Nat.le_trans ih (grow_more fun t ht => below_goes ok hf ht)
end
end Lk

/-! ## Kmin -/
set_option Elab.async false
set_option linter.all false
set_option maxRecDepth 100000
set_option maxHeartbeats 2000000
/-! min(rows, key=len, default=d), rows a list of tuples of ints. -/
namespace Lk
open PySem PySem.Spec PyProof.Rows L2 Gx
variable [Own]
def tMinLen (ta td : TE) : TE := fun σ H Q => ta σ H fun x H1 => td σ H1 fun d H2 => ∃ (a : Addr) (xs : List V) (rows : List (List Int)), [x] = [.ref a] ∧ H2 a = some (.lst xs) ∧ Paired (TI H2) xs rows ∧ (rows = [] → Q d H2) ∧
  ∀ (y : V) (row : List Int), TI H2 y row → row ∈ rows → (∀ r ∈ rows, row.length ≤ r.length) → Q y H2
section
variable {X : Cx} {p p2 pk pd pos : Pos} {e d : Expr} {ta td : TE}
theorem pe_minLen (hc : X.calm = true) (hg : Gl X "min") (hm : X.mg "min" = none) (hg2 : Gl X "len") (hm2 : X.mg "len" = none) (ha : PE X e ta) (hd : PE X d td) (hall : (backToKw pos (keywordEach [⟨some "key", .Name "len" p2, pk⟩, ⟨some "default", d, pd⟩] X.env)).all (·.1.isSome) = true := by rfl)
    (hnone : (backToKw pos (keywordEach [⟨some "key", .Name "len" p2, pk⟩, ⟨some "default", d, pd⟩] X.env)).any (·.1.isNone) = false := by rfl)
    (he : backTo pos (starEach [e] X.env) = (false, eval e X.env) :: backTo pos (starEach [] X.env) := by rfl) (hpl : (backTo pos (starEach [e] X.env)).any (·.1) = false := by rfl)
    (hks : (backToKw pos (keywordEach [⟨some "key", .Name "len" p2, pk⟩, ⟨some "default", d, pd⟩] X.env)).filterMap (·.1) = [Str.ofString "key", Str.ofString "default"] := by rfl)
    (hs1 : starEach [e] X.env = (false, eval e X.env) :: starEach [] X.env := by rfl) :
    PE X (.Call (.Name "min" p) [e] [⟨some "key", .Name "len" p2, pk⟩, ⟨some "default", d, pd⟩] pos) (tMinLen ta td) := by
  refine ⟨fun pins s σ H Q I h => ?_⟩
  refine wpAny_Call_Name_kw (ld_blt I hg hm boot_min ?_ (by decide) (by decide))
  refine PyProof.Rows.callWith_kw (thn ((pa_cons ha pa_nil hs1).run pos pins s σ H (fun vs H1 => td σ H1 fun d H2 => ∃ (a : Addr) (xs : List V) (rows : List (List Int)), vs = [.ref a] ∧ H2 a = some (.lst xs) ∧ Paired (TI H2) xs rows ∧ (rows = [] → Q d H2) ∧
    ∀ (y : V) (row : List Int), TI H2 y row → row ∈ rows → (∀ r ∈ rows, row.length ≤ r.length) → Q y H2) I h) fun us s1 ⟨vs, H1, I1, r1, q1⟩ => ?_) he hpl hall hnone
  rw [hks]
  refine kwAll_cons (ld_blt I1 hg2 hm2 boot_len ?_ (by decide) (by decide))
  refine kwAll_cons (thn (hd.run pins s1 σ H1 _ I1 q1) fun ud s2 ⟨dv, H2, I2, rd, q2⟩ => ?_)
  refine kwAll_nil ?_
  obtain ⟨a, xs, rows, rfl, ha2, hp, q0, qn⟩ := q2
  obtain ⟨ux, rfl, rx⟩ := vals1 r1
  cases rx
  show wpAny (model X.prog X.w) X.A (call (.builtin "min") [.ref a] [(Str.ofString "key", .builtin "len"), (Str.ofString "default", ud)]) _ _ s2
  obtain ⟨its, rv, hl, hz⟩ := I2.list (SqL.of ha2)
  have lx : xs.length = rows.length := paired_len hp
  have li : xs.length = its.length := rv.length
  have item : ∀ (i : Nat) (v : Value), its[i]? = some v → ∃ (t : Addr) (row : List Int), v = .ref t ∧ xs[i]? = some (.ref t) ∧ rows[i]? = some row ∧ H2 t = some (.tup (iv row)) := fun i v hv => by
    have hi := (List.getElem?_eq_some_iff.mp hv).1
    have hx : xs[i]? = some xs[i] := List.getElem?_eq_getElem (by omega)
    obtain ⟨u, hu, ru⟩ := rv.get hx
    rw [hv] at hu
    cases hu
    obtain ⟨row, hr, t, et, ht⟩ := paired_get' hp hx
    rw [et] at ru hx
    exact ⟨t, row, ru, hx, hr, ht⟩
  let num : Nat → Int := fun i => ((rows.getD i []).length : Int)
  let J : Shared → Prop := fun s' => (∀ b o, s2.heap.get? b = some o → s'.heap.get? b = some o) ∧ s'.gens = s2.gens ∧ s'.drawn = s2.drawn ∧ s'.os = s2.os
  have fin : ∀ s', J s' → Inv X pins σ H2 s' := fun s' ⟨j1, j2, j3, j4⟩ => by
    have := I2.kept (t' := s'.toks) j1
    obtain ⟨h', g', d', o', t'⟩ := s'
    cases j2; cases j3; cases j4
    exact this
  refine PySem.call_min_walkKBD (iter_anyList hl.isList fun s₃ e st hfp hne => ?_)
  subst e
  refine ⟨_, _, _, _, _, _, _, J, fun i k _ => ∃ t, k = Value.int (num i) t, fun i j => decide (num i < num j), rfl, (Walks.list (A := X.A.in1) (I2.ok.hd hc) _ a hne its.toArray).toS, st, hfp, ⟨?_, ?_, ?_, ?_⟩, ?_, ?_, ?_⟩
  · intro s s' ⟨j1, j2, j3, j4⟩ m
    refine ⟨fun b o e => m.heap b o (fun hb => ?_) (j1 b o e), (show s'.gens = s.gens from m.gens).trans j2, m.drawn.trans j3, m.os.trans j4⟩
    have hlt := Heap.lt_size e
    rcases List.mem_cons.mp hb with z | z
    · rw [z, Heap.size_push] at hlt
      exact absurd hlt (Nat.not_lt.mpr (Nat.le_succ _))
    · rw [List.mem_singleton.mp z] at hlt
      exact absurd hlt (Nat.lt_irrefl _)
  · intro i k s s' v _
    exact v
  · intro i v s o Q' E' hi hv j st ho q
    have hv' : its[i]? = some v := by simpa using hv
    obtain ⟨t, row, rfl, hx, hr, ht⟩ := item i v hv'
    have I3 := fin s j
    obtain ⟨its3, r3, pl, hz3⟩ := I3.tuple (SqT.of ht)
    have l3 : row.length = its3.length := by rw [← iv_len row]; exact r3.length
    have hn := line63
    have hz4 : its3.length ≤ sizeLine := by rw [← r3.length]; exact hz3
    refine len_tuple pl (by simp only [List.size_toArray]; omega) (q _ _ ⟨j.1, j.2.1, j.2.2.1, j.2.2.2⟩ st ho ⟨s.toks + 1, ?_⟩ fun j k v => v)
    show Value.int ((its3.toArray.size : Nat) : Int) _ = Value.int ((rows.getD i []).length : Int) _
    rw [List.getD_eq_getElem?_getD, hr, List.size_toArray, ← l3]
    all_goals rfl
  · intro i j ki kj s Q' E' jj ⟨t, e1⟩ ⟨u, e2⟩ q
    subst e1 e2
    exact P.lt_int q
  · exact ⟨fun b o e => Heap.get?_push_of_some _ e, rfl, rfl, rfl⟩
  · intro hn s' j
    have : rows = [] := List.length_eq_zero_iff.mp (by rw [← lx, li]; simpa using hn)
    exact ⟨dv, H2, fin s' j, rd, q0 this⟩
  · intro hn v s' hv j
    have hv' : its[argBest (fun i j => decide (num i < num j)) (its.toArray.size - 1)]? = some v := by simpa using hv
    obtain ⟨t, row, rfl, hx, hr, ht⟩ := item _ v hv'
    obtain ⟨b1, b2⟩ := argBest_lt num (its.toArray.size - 1)
    refine ⟨.ref t, H2, fin s' j, rfl, qn _ row ⟨t, rfl, ht⟩ (List.mem_of_getElem? hr) fun r hr2 => ?_⟩
    obtain ⟨k, hk, ek⟩ := List.mem_iff_getElem.mp hr2
    have h3 := b2 k (by rw [List.size_toArray, ← li, lx]; omega)
    have f1 : num (argBest (fun i j => decide (num i < num j)) (its.toArray.size - 1)) = row.length := by
      show ((rows.getD _ []).length : Int) = _
      rw [List.getD_eq_getElem?_getD, hr] <;> rfl
    have f2 : num k = r.length := by
      show ((rows.getD k []).length : Int) = _
      rw [List.getD_eq_getElem?_getD, List.getElem?_eq_getElem hk, ek] <;> rfl
    rw [f1, f2] at h3
    omega
end
end Lk

/-! ## MxD -/
set_option Elab.async false
set_option linter.all false
set_option maxRecDepth 100000
set_option maxHeartbeats 2000000
/-! max(ints, default=d), min(ints, default=d); list(range(a, b)). -/
namespace Lk
open PySem PySem.Spec PyProof.Rows L2 Gx
variable [Own]
/-- the value where there is something to go over (ok says what is best), else the default -/
def tBestD (better : Int → Int → Prop) (ta td : TE) : TE := fun σ H Q => ta σ H fun x H1 => td σ H1 fun d H2 => ∃ (a : Addr) (ns : List Int), [x] = [.ref a] ∧ H2 a = some (.lst (iv ns)) ∧ (ns = [] → Q d H2) ∧ ∀ m : Int, m ∈ ns → (∀ y ∈ ns, better m y) → Q (.int m) H2
section
variable {X : Cx} {p pd pos : Pos} {e d : Expr} {ta td : TE}
theorem pe_maxD (hc : X.calm = true) (hg : Gl X "max") (hm : X.mg "max" = none) (ha : PE X e ta) (hd : PE X d td) (hall : (backToKw pos (keywordEach [⟨some "default", d, pd⟩] X.env)).all (·.1.isSome) = true := by rfl)
    (hnone : (backToKw pos (keywordEach [⟨some "default", d, pd⟩] X.env)).any (·.1.isNone) = false := by rfl)
    (he : backTo pos (starEach [e] X.env) = (false, eval e X.env) :: backTo pos (starEach [] X.env) := by rfl) (hpl : (backTo pos (starEach [e] X.env)).any (·.1) = false := by rfl)
    (hks : (backToKw pos (keywordEach [⟨some "default", d, pd⟩] X.env)).filterMap (·.1) = [Str.ofString "default"] := by rfl)
    (hs1 : starEach [e] X.env = (false, eval e X.env) :: starEach [] X.env := by rfl) :
    PE X (.Call (.Name "max" p) [e] [⟨some "default", d, pd⟩] pos) (tBestD (fun m y => y ≤ m) ta td) := by
  refine ⟨fun pins s σ H Q I h => ?_⟩
  refine wpAny_Call_Name_kw (ld_blt I hg hm boot_max ?_ (by decide) (by decide))
  refine PyProof.Rows.callWith_kw (thn ((pa_cons ha pa_nil hs1).run pos pins s σ H (fun vs H1 => td σ H1 fun d H2 => ∃ (a : Addr) (ns : List Int), vs = [.ref a] ∧ H2 a = some (.lst (iv ns)) ∧ (ns = [] → Q d H2) ∧ ∀ m : Int, m ∈ ns → (∀ y ∈ ns, y ≤ m) → Q (.int m) H2) I h) fun us s1 ⟨vs, H1, I1, r1, q1⟩ => ?_) he hpl hall hnone
  rw [hks]
  refine kwAll_cons (thn (hd.run pins s1 σ H1 _ I1 q1) fun ud s2 ⟨dv, H2, I2, rd, q2⟩ => ?_)
  refine kwAll_nil ?_
  obtain ⟨a, ns, rfl, ha2, q0, qn⟩ := q2
  obtain ⟨ux, rfl, rx⟩ := vals1 r1
  cases rx
  show wpAny (model X.prog X.w) X.A (call (.builtin "max") [.ref a] [(Str.ofString "default", ud)]) _ _ s2
  obtain ⟨its, rv, hl, hz⟩ := I2.list (SqL.of ha2)
  have li : ns.length = its.length := by rw [← iv_len ns]; exact rv.length
  have hval : ∀ (i : Nat) (v : Value), its.toArray[i]? = some v → ∃ t, v = Value.int (ns.getD i 0) t := fun i v hv => by
    have hv' : its[i]? = some v := by simpa using hv
    have hi := (List.getElem?_eq_some_iff.mp hv').1
    have hx : ns[i]? = some ns[i] := List.getElem?_eq_getElem (by omega)
    obtain ⟨u, hu, t, ru⟩ := rv.get (iv_at hx)
    rw [hv'] at hu
    cases hu
    exact ⟨t, by rw [ru, List.getD_eq_getElem?_getD, hx] <;> rfl⟩
  refine PySem.call_max_walkD (PySem.W.iter_listW (A := X.A.in1) (I2.ok.hd hc) hl.isList fun s₃ e W st hfp hw hk => ?_)
  refine ⟨_, _, _, _, _, _, _, s2.heap, (fun i j => decide (ns.getD i 0 > ns.getD j 0)), rfl, W, st, hfp, hw, hk, fun hz s' m => ?_, fun hp => ⟨fun i j vi vj s Q' E' hk' e1 e2 q => ?_, fun v s' hP m => ?_⟩⟩
  · obtain ⟨h', tk, rfl, hk'⟩ := PySem.W.moved_old e rfl m
    exact ⟨dv, H2, I2.kept (t' := tk) hk', rd, q0 (List.length_eq_zero_iff.mp (by rw [li]; simpa using hz))⟩
  · obtain ⟨t, rfl⟩ := hval i vi e1
    obtain ⟨u, rfl⟩ := hval j vj e2
    exact P.gt_int q
  · obtain ⟨h', tk, rfl, hk'⟩ := PySem.W.moved_old e rfl m
    obtain ⟨t, rfl⟩ := hval _ v hP
    obtain ⟨b1, b2⟩ := argBest_gt (fun i => ns.getD i 0) (its.toArray.size - 1)
    have hb : argBest (fun i j => decide (ns.getD i 0 > ns.getD j 0)) (its.toArray.size - 1) < ns.length := by
      rw [List.size_toArray] at b1 hp ⊢
      omega
    refine ⟨.int _, H2, I2.kept (t' := tk) hk', ⟨t, rfl⟩, qn _ ?_ fun y hy => ?_⟩
    · rw [List.getD_eq_getElem?_getD, List.getElem?_eq_getElem hb]
      exact List.getElem_mem hb
    · obtain ⟨i, hi, e⟩ := List.mem_iff_getElem.mp hy
      have e2 : ns.getD i 0 = y := by rw [List.getD_eq_getElem?_getD, List.getElem?_eq_getElem hi, ← e] <;> rfl
      rw [← e2]
      refine b2 i ?_
      rw [List.size_toArray]
      omega
theorem pe_minD (hc : X.calm = true) (hg : Gl X "min") (hm : X.mg "min" = none) (ha : PE X e ta) (hd : PE X d td) (hall : (backToKw pos (keywordEach [⟨some "default", d, pd⟩] X.env)).all (·.1.isSome) = true := by rfl)
    (hnone : (backToKw pos (keywordEach [⟨some "default", d, pd⟩] X.env)).any (·.1.isNone) = false := by rfl)
    (he : backTo pos (starEach [e] X.env) = (false, eval e X.env) :: backTo pos (starEach [] X.env) := by rfl) (hpl : (backTo pos (starEach [e] X.env)).any (·.1) = false := by rfl)
    (hks : (backToKw pos (keywordEach [⟨some "default", d, pd⟩] X.env)).filterMap (·.1) = [Str.ofString "default"] := by rfl)
    (hs1 : starEach [e] X.env = (false, eval e X.env) :: starEach [] X.env := by rfl) :
    PE X (.Call (.Name "min" p) [e] [⟨some "default", d, pd⟩] pos) (tBestD (fun m y => m ≤ y) ta td) := by
  refine ⟨fun pins s σ H Q I h => ?_⟩
  refine wpAny_Call_Name_kw (ld_blt I hg hm boot_min ?_ (by decide) (by decide))
  refine PyProof.Rows.callWith_kw (thn ((pa_cons ha pa_nil hs1).run pos pins s σ H (fun vs H1 => td σ H1 fun d H2 => ∃ (a : Addr) (ns : List Int), vs = [.ref a] ∧ H2 a = some (.lst (iv ns)) ∧ (ns = [] → Q d H2) ∧ ∀ m : Int, m ∈ ns → (∀ y ∈ ns, m ≤ y) → Q (.int m) H2) I h) fun us s1 ⟨vs, H1, I1, r1, q1⟩ => ?_) he hpl hall hnone
  rw [hks]
  refine kwAll_cons (thn (hd.run pins s1 σ H1 _ I1 q1) fun ud s2 ⟨dv, H2, I2, rd, q2⟩ => ?_)
  refine kwAll_nil ?_
  obtain ⟨a, ns, rfl, ha2, q0, qn⟩ := q2
  obtain ⟨ux, rfl, rx⟩ := vals1 r1
  cases rx
  show wpAny (model X.prog X.w) X.A (call (.builtin "min") [.ref a] [(Str.ofString "default", ud)]) _ _ s2
  obtain ⟨its, rv, hl, hz⟩ := I2.list (SqL.of ha2)
  have li : ns.length = its.length := by rw [← iv_len ns]; exact rv.length
  have hval : ∀ (i : Nat) (v : Value), its.toArray[i]? = some v → ∃ t, v = Value.int (ns.getD i 0) t := fun i v hv => by
    have hv' : its[i]? = some v := by simpa using hv
    have hi := (List.getElem?_eq_some_iff.mp hv').1
    have hx : ns[i]? = some ns[i] := List.getElem?_eq_getElem (by omega)
    obtain ⟨u, hu, t, ru⟩ := rv.get (iv_at hx)
    rw [hv'] at hu
    cases hu
    exact ⟨t, by rw [ru, List.getD_eq_getElem?_getD, hx] <;> rfl⟩
  refine PySem.call_min_walkD (PySem.W.iter_listW (A := X.A.in1) (I2.ok.hd hc) hl.isList fun s₃ e W st hfp hw hk => ?_)
  refine ⟨_, _, _, _, _, _, _, s2.heap, (fun i j => decide (ns.getD i 0 < ns.getD j 0)), rfl, W, st, hfp, hw, hk, fun hz s' m => ?_, fun hp => ⟨fun i j vi vj s Q' E' hk' e1 e2 q => ?_, fun v s' hP m => ?_⟩⟩
  · obtain ⟨h', tk, rfl, hk'⟩ := PySem.W.moved_old e rfl m
    exact ⟨dv, H2, I2.kept (t' := tk) hk', rd, q0 (List.length_eq_zero_iff.mp (by rw [li]; simpa using hz))⟩
  · obtain ⟨t, rfl⟩ := hval i vi e1
    obtain ⟨u, rfl⟩ := hval j vj e2
    exact P.lt_int q
  · obtain ⟨h', tk, rfl, hk'⟩ := PySem.W.moved_old e rfl m
    obtain ⟨t, rfl⟩ := hval _ v hP
    obtain ⟨b1, b2⟩ := argBest_lt (fun i => ns.getD i 0) (its.toArray.size - 1)
    have hb : argBest (fun i j => decide (ns.getD i 0 < ns.getD j 0)) (its.toArray.size - 1) < ns.length := by
      rw [List.size_toArray] at b1 hp ⊢
      omega
    refine ⟨.int _, H2, I2.kept (t' := tk) hk', ⟨t, rfl⟩, qn _ ?_ fun y hy => ?_⟩
    · rw [List.getD_eq_getElem?_getD, List.getElem?_eq_getElem hb]
      exact List.getElem_mem hb
    · obtain ⟨i, hi, e⟩ := List.mem_iff_getElem.mp hy
      have e2 : ns.getD i 0 = y := by rw [List.getD_eq_getElem?_getD, List.getElem?_eq_getElem hi, ← e] <;> rfl
      rw [← e2]
      refine b2 i ?_
      rw [List.size_toArray]
      omega
end
end Lk

/-! ## DcS -/
set_option Elab.async false
set_option linter.all false
set_option maxRecDepth 100000
set_option maxHeartbeats 2000000
/-! d[t] = v by a comprehension, t a tuple of ints. -/
namespace Lk
open PySem PySem.Spec PyProof.Rows L2
variable [Own]
theorem dT_dictSet {X : Cx} {pins : List (Addr × Obj)} {σ : L2.St} {H : Hp} {s : Shared} {E : Value → Shared → Prop} {D b : Addr} {kvs : List (List L2.Key × V)} {k : List L2.Key} {v : V} {u r : Value} {Q : Unit → Shared → Prop} (hu : X.A.units + 1 < cLine) (I : Inv X pins σ H s) (hD : H D = some (.dT kvs)) (hb : H b = some (.tup (k.map kV))) (hz : kvs.length < sizeLine)
    (ry : RelV (.ref b) u) (rv : RelV v r) (h : ∀ s', Inv X pins σ (upd H D (.dT (putK kvs k v))) s' → Q () s') : wpAny (model X.prog X.w) X.A (dictSet D u r) Q E s := by
  cases (show u = Value.ref b from ry)
  obtain ⟨_, hd, xs, rel, dd⟩ := dt_of I.hok hD
  have hl : (putK kvs k v).length ≤ sizeLine := by have := length_putK kvs k v; omega
  refine wpAny_dictSet_heap (hsz := by rw [← Paired.length rel]; omega) (show X.A.units < cLine by omega) (key_of I.hok hb) dd fun h' dd' hs => h _ ?_
  obtain ⟨q, es, ep, hq, h2, h3, h4, _, h5⟩ := dd'
  refine d_write I (by rw [hD]; exact True.intro) hs ⟨q, hq⟩ ⟨hl, hd, _, (rel.put k hb rv).keeps fun c ys ec => ?_, q, es, ep, hq, h2, h3, h4, h5⟩
  rw [upd_ne (L2.ne_of ec hD (fun z => nomatch z))]
  exact ec
end Lk

/-! ## Dct -/
set_option Elab.async false
set_option linter.all false
set_option maxRecDepth 100000
set_option maxHeartbeats 2000000
/-! {t: v for ..}, the keys tuples: the dict told as .dT. -/
namespace Lk
open PySem PySem.Spec PyProof.Rows L2
variable [Own]
/-- a block of names, its iterator's objects untracked, ahead of turn i -/
structure Ahead (Y : Cx) (tn : Nat → Heap → Prop) (τ : L2.St) (i : Nat) (H : Hp) (s : Shared) : Prop where
  inv : Inv Y [] τ H s
  at_ : tn i s.heap
  off : ∀ b ∈ Y.ex, H b = none
theorem Ahead.fps {Y : Cx} {tn : Nat → Heap → Prop} {τ : L2.St} {i : Nat} {H : Hp} {s : Shared} (a : Ahead Y tn τ i H s) (hp : Y.pn = []) : ∀ b ∈ Y.ex, FpOk Y [] H b := by
  intro b hb
  have e1 := a.inv.ok.exf b hb
  refine ⟨a.off b hb, e1.1, a.inv.ok.exfs b hb, Or.inl hb, fun x c q => e1.2 x c q, ?_⟩
  rw [hp]
  intro p hm
  simp at hm
/-- a turn is over: the slots that the block's names had are forgotten -/
theorem Ahead.next {Y : Cx} {K : PySem.W.Frag} {tg : Expr} {J : It} {it : Addr} {tn : Nat → Heap → Prop} {τ τ2 : L2.St} {vs : List Nat} {i : Nat} {H : Hp} {s0 s : Shared} (T : Turn Y.prog Y.w K tg J Y.ex it tn)
    (I : Inv Y ([] ++ pinsAt Y.ex s0.heap) τ2 H s) (at0 : tn (i + 1) s0.heap) (hw : wipe τ2 vs = wipe τ vs) : Ahead Y tn (wipe τ vs) (i + 1) H s := by
  have same : ∀ b ∈ Y.ex, ∀ o, s0.heap.get? b = some o → s.heap.get? b = some o ∧ H b = none := by
    intro b hb o e
    have h := I.pin (b, o) (List.mem_append.mpr (.inr (List.mem_append.mpr (.inr (mem_pinsAt hb e)))))
    exact ⟨h.1, h.2.1⟩
  have I0 : Inv Y [] τ2 H s := Inv.unpinned I
  refine ⟨I0.weak (by rw [← hw]; exact wipe_length τ2 vs) (fun j v e => ?_), T.keep (i + 1) s0.heap s.heap at0 (fun b hb o e => (same b hb o e).1), fun b hb => ?_⟩
  · rw [← hw] at e
    exact (wipe_some e).1
  · obtain ⟨o, e, _⟩ := T.obj (i + 1) s0.heap at0 b hb
    exact (same b hb o e).2
/-- keys tuples of ints or texts: D the new dict -/
def tDct (wi : L2.TI) (g : TG) (tt : TT) (tk tv : TE) (vs : List Nat) : TE := fun σ H Q => wi σ H fun J H1 => ∀ D, H1 D = none → ∃ W : Nat → Nat → Hp → Prop, (∃ m, W 0 m (upd H1 D (.dT []))) ∧ ∀ i m H, W i m H →
  J.stop i H ∧ Q (.ref D) H ∨ J.go i H ∧ ∃ N : Hp → Prop, (∀ H', N H' → ∃ m', m' < m ∧ W (i + 1) m' H') ∧ ∀ x H', J.yld i H x H' → g x (wipe σ vs) H' fun τ H2 => wipe τ vs = wipe σ vs ∧ tt τ H2 fun b H3 =>
    if b = true then tk τ H3 fun y H4 => tv τ H4 fun z H5 => ∃ b kvs k, y = .ref b ∧ H5 b = some (.tup (k.map kV)) ∧ H5 D = some (.dT kvs) ∧ kvs.length < sizeLine ∧ N (upd H5 D (.dT (putK kvs k z))) else N H3
section
variable {X : Cx} {kx vx tg iter : Expr} {ifs : List Expr} {scope : Scope} {own : List (Str × Nat)} {pos : Pos} {wi : L2.TI} {g : TG} {tt : TT} {tk tv : TE}
theorem dct_any {pins : List (Addr × Obj)} {s : Shared} {σ : L2.St} {H : Hp} {Q : VK} {pos' : Pos} {use : Option (Value → Sem Unit)} {Qf : Value → Shared → Prop} (hc : X.calm = true) (hu : X.A.units + 1 < cLine) (hN : X.N.Nodup) (I : Inv X pins σ H s) (hi : PI X tg iter wi) (ok : BlkOk X.N X.env.scope scope own)
    (hg : ∀ (s : Shared) (H : Hp) (C : Addr) (cl : List (Str × Addr)) (fp : List Addr), PG (X.blk s H scope (compEnvC scope cl C X.env) fp) tg g)
    (ht : ∀ (s : Shared) (H : Hp) (C : Addr) (cl : List (Str × Addr)) (fp : List Addr), PTs (X.blk s H scope (compEnvC scope cl C X.env) fp) ifs tt)
    (hk : ∀ (s : Shared) (H : Hp) (C : Addr) (cl : List (Str × Addr)) (fp : List Addr), PE (X.blk s H scope (compEnvC scope cl C X.env) fp) kx tk)
    (hv : ∀ (s : Shared) (H : Hp) (C : Addr) (cl : List (Str × Addr)) (fp : List Addr), PE (X.blk s H scope (compEnvC scope cl C X.env) fp) vx tv)
    (hs : ∀ x, foldedSetIterable iter X.env x = pure x) (h : tDct wi g tt tk tv (own.map (·.2)) σ H Q)
    (hEnd : ∀ (D C : Addr) (s' : Shared) (m : Str → Option Value) (H' : Hp), Inv X pins σ H' s' → Q (.ref D) H' → s'.heap.Ns C m → FpOk X pins H' C → compPost (model X.prog X.w) X.A X.xe use Qf (.ref D) C (.ok .next) s') :
    wpAny (model X.prog X.w) X.A (comprehension (.DictComp kx vx [⟨tg, iter, ifs, 0⟩] scope pos) scope X.env pos' newDict false (eval iter X.env) use) Qf X.xe s := by
  have hfr : ∀ y ∈ scope.names, y.2 = .free → ∃ c, X.env.cells.lookup y.1 = some c := by
    intro y hy e
    exact I.ok.has _ (ok.free y hy e)
  have loc : ∀ y ∈ scope.names, y.2 = .local → scope.names.lookup y.1 = some .local := by
    intro y hy e
    rw [ok.uniq y hy, e]
  refine wpAny_comprehension_free (use := use) rfl hs (closure_ok hfr) ok.kind loc ?_
  refine thn (hi.run pins s σ H _ I h) fun v s1 h1 => thn h1 fun itv s2 ⟨it, fp, tn, J, H2, hit, I2, T, at2, f2, q⟩ => ?_
  subst hit
  refine wpAny_newObj_type ?_
  refine newEnv_comp ?_
  have dn : H2 s2.heap.objs.size = none := I2.hok.fresh (Nat.le_refl _)
  obtain ⟨W, ⟨m0, w0⟩, turn⟩ := q _ dn
  have I3 := I2.laid (h' := s2.heap.push { cls := .type "dict", data := .dict #[] }) (o := .dT []) (t' := s2.toks) (fun b u e => Heap.get?_push_of_some _ e) (Nat.le_refl _) (dt_empty s2.heap I2.big)
  generalize eH : upd H2 s2.heap.objs.size (.dT []) = H3 at I3 w0
  generalize es : ({ s2 with heap := s2.heap.push { cls := .type "dict", data := .dict #[] }, toks := s2.toks } : Shared) = s3 at I3
  have es2 : s3.heap = s2.heap.push { cls := .type "dict", data := .dict #[] } := by rw [← es]
  generalize eD : s2.heap.objs.size = D at turn dn eH
  have lt2 : ∀ b ∈ fp, b < D := by
    intro b hb
    obtain ⟨o, e, _⟩ := T.obj 0 s2.heap at2 b hb
    rw [← eD]
    exact Heap.lt_size e
  have f3 : ∀ b ∈ fp, FpOk X pins H3 b ∧ b < s3.heap.objs.size := by
    intro b hb
    refine ⟨⟨?_, (f2 b hb).2⟩, ?_⟩
    · rw [← eH, upd_ne (Nat.ne_of_lt (lt2 b hb))]
      exact (f2 b hb).1
    · rw [es2, Heap.size_push, eD]
      exact Nat.lt_succ_of_lt (lt2 b hb)
  have I4 := block_start I3 ok hN f3
  have G := hg s3 H3 s3.heap.objs.size (cellsFrom (s3.heap.objs.size + 1) scope.names (cloFrom X.env.cells scope.names [])) fp
  have Ts := ht s3 H3 s3.heap.objs.size (cellsFrom (s3.heap.objs.size + 1) scope.names (cloFrom X.env.cells scope.names [])) fp
  have Ek := hk s3 H3 s3.heap.objs.size (cellsFrom (s3.heap.objs.size + 1) scope.names (cloFrom X.env.cells scope.names [])) fp
  have Ev := hv s3 H3 s3.heap.objs.size (cellsFrom (s3.heap.objs.size + 1) scope.names (cloFrom X.env.cells scope.names [])) fp
  have loc3 : (compEnvC scope (cellsFrom (s3.heap.objs.size + 1) scope.names (cloFrom X.env.cells scope.names [])) s3.heap.objs.size X.env).locals = s3.heap.objs.size := rfl
  have grown : ∀ b o, s2.heap.get? b = some o → (pushCells (s3.heap.push { cls := .type "dict", data := .dict #[] }) scope.names).get? b = some o := by
    intro b o e
    refine pushCells_keeps _ _ _ _ (Heap.get?_push_of_some _ ?_)
    rw [es2]
    exact Heap.get?_push_of_some _ e
  have at4 := T.keep 0 s2.heap _ at2 fun b _ o e => grown b o e
  generalize e4 : ({ s3 with heap := pushCells (s3.heap.push { cls := .type "dict", data := .dict #[] }) scope.names } : Shared) = s4 at I4
  have e4h : s4.heap = pushCells (s3.heap.push { cls := .type "dict", data := .dict #[] }) scope.names := by rw [← e4]
  rw [← e4h] at at4
  have a0 : Ahead (X.blk s3 H3 scope (compEnvC scope (cellsFrom (s3.heap.objs.size + 1) scope.names (cloFrom X.env.cells scope.names [])) s3.heap.objs.size X.env) fp) tn (wipe σ (own.map (·.2))) 0 H3 s4 := ⟨I4, at4, fun b hb => (f3 b hb).1.1⟩
  suffices L : codeAny (model X.prog X.w) X.A (.compLoop (.DictComp kx vx [⟨tg, iter, ifs, 0⟩] scope pos) 0 (.ref it) (.ref D) (compEnvC scope (cellsFrom (s3.heap.objs.size + 1) scope.names (cloFrom X.env.cells scope.names [])) s3.heap.objs.size X.env)) (compPost (model X.prog X.w) X.A X.xe use Qf (.ref D) s3.heap.objs.size) s4 by
    exact codeAny_compStart_dict L (T.self X.A 0 s4 _ _ at4 L)
  generalize eY : X.blk s3 H3 scope (compEnvC scope (cellsFrom (s3.heap.objs.size + 1) scope.names (cloFrom X.env.cells scope.names [])) s3.heap.objs.size X.env) fp = Y at a0 G Ts Ek Ev
  generalize ec : compEnvC scope (cellsFrom (s3.heap.objs.size + 1) scope.names (cloFrom X.env.cells scope.names [])) s3.heap.objs.size X.env = ce at eY loc3
  have y1 : Y.prog = X.prog := by rw [← eY]
  have y2 : Y.w = X.w := by rw [← eY]
  have y3 : Y.A = X.A := by rw [← eY]
  have y4 : Y.env = ce := by rw [← eY]
  have y5 : Y.ex = fp := by rw [← eY]
  have y6 : Y.pn = [] := by rw [← eY]
  have y7 : Y.K = X.K := by rw [← eY]
  have y8 : Y.calm = true := by rw [← eY]; exact hc
  have y9 : Y.xe = fun _ _ => False := by rw [← eY]
  have TY : Turn Y.prog Y.w X.K tg J Y.ex it tn := by rw [y1, y2, y5]; exact T
  refine compLoop_anyD (fun n s' => ∃ i H', Ahead Y tn (wipe σ (own.map (·.2))) i H' s' ∧ W i n H') ?_ m0 ⟨0, H3, a0, w0⟩
  rintro n s5 ⟨i, H5, a5, w5⟩
  have fps := a5.fps y6
  rcases turn i n H5 w5 with ⟨st, qq⟩ | ⟨go, N, hN', step⟩
  · have fin := TY.done Y rfl rfl y7 y8 i [] s5 _ H5 (fun _ _ => False) a5.inv fps a5.at_ st
    rw [y3] at fin
    rw [y1, y2] at fin
    refine thnF fin fun r s6 ⟨hr, I6⟩ => ?_
    subst hr
    have nC : H5 s3.heap.objs.size = none := by
      have z := I6.free
      rw [y4, loc3] at z
      exact z
    obtain ⟨m, hm, _⟩ := I6.loc
    rw [y4, loc3] at hm
    have u6 := I6.base
    have h6 := I6.hok
    have o6 := I6.os
    rw [← eY] at u6 h6 o6
    have I7 : Inv X pins σ H5 s6 := I3.call' (ch := fp) o6 u6 h6 I6.bare fun b hb => by
      have z := (f3 b hb).1.2
      exact ⟨z.2.2.1, z.1, z.2.2.2.1, z.2.2.2.2⟩
    have F := I3.fpOk (H' := H5) (Nat.le_refl _) nC
    exact hEnd D s3.heap.objs.size s6 m H5 I7 qq hm F
  · have one := TY.item Y rfl rfl y7 y8 i [] s5 _ H5 (fun _ _ => False) a5.inv fps a5.at_ go
    rw [y3] at one
    rw [y1, y2] at one
    refine thnF one fun r s6 ⟨u, hr, h6⟩ => ?_
    subst hr
    refine thnF h6 fun _ s7 ⟨x, H7, I7, r7, yy, at7, off7⟩ => ?_
    have p7 := I7.pinned (Ahead.fps ⟨I7, at7, off7⟩ y6) (TY.obj _ _ at7)
    have done : ∀ {τ : L2.St} {H' : Hp} {s' : Shared}, Inv Y ([] ++ pinsAt Y.ex s7.heap) τ H' s' → wipe τ (own.map (·.2)) = wipe σ (own.map (·.2)) → N H' → ∃ m, m < n ∧ ∃ i H', Ahead Y tn (wipe σ (own.map (·.2))) i H' s' ∧ W i m H' := by
      intro τ H' s' I' hw nx
      obtain ⟨m', hlt, w'⟩ := hN' H' nx
      exact ⟨m', hlt, i + 1, H', Ahead.next TY I' at7 hw, w'⟩
    have gg := G.run _ s7 _ H7 x u _ p7 r7 (step x H7 yy)
    rw [y1, y2, y3, y4, y9] at gg
    refine thnF gg fun _ s8 ⟨τ, H8, I8, hw, q8⟩ => ?_
    have tr := Ts.run _ s8 τ H8 _ I8 q8
    rw [y1, y2, y3, y4, y9] at tr
    refine thnF tr fun b s9 ⟨H9, I9, q9⟩ => ?_
    cases b with
    | false => exact done I9 hw q9
    | true =>
      have kr := Ek.run _ s9 τ H9 _ I9 q9
      rw [y1, y2, y3, y4, y9] at kr
      refine thnF kr fun kv s10 ⟨yk, H10, I10, r10, q10⟩ => ?_
      have vr := Ev.run _ s10 τ H10 _ I10 q10
      rw [y1, y2, y3, y4, y9] at vr
      refine thnF vr fun vv s11 ⟨yv, H11, I11, r11, bb, kvs, k, ek, hb, hD, hz, nx⟩ => ?_
      subst ek
      have set_ := dT_dictSet (X := Y) (E := notedBy (model X.prog X.w) X.A ce fun e s' => compPost (model X.prog X.w) X.A X.xe use Qf (.ref D) s3.heap.objs.size (.error e) s') (Q := fun _ s' => ∃ m, m < n ∧ ∃ i H', Ahead Y tn (wipe σ (own.map (·.2))) i H' s' ∧ W i m H') (by rw [y3]; exact hu) I11 hD hb hz r10 r11 fun s12 I12 => done I12 hw nx
      rw [y1, y2, y3] at set_
      exact set_
theorem pe_dct (hc : X.calm = true) (hu : X.A.units + 1 < cLine) (hN : X.N.Nodup) (hi : PI X tg iter wi) (ok : BlkOk X.N X.env.scope scope own)
    (hg : ∀ (s : Shared) (H : Hp) (C : Addr) (cl : List (Str × Addr)) (fp : List Addr), PG (X.blk s H scope (compEnvC scope cl C X.env) fp) tg g)
    (ht : ∀ (s : Shared) (H : Hp) (C : Addr) (cl : List (Str × Addr)) (fp : List Addr), PTs (X.blk s H scope (compEnvC scope cl C X.env) fp) ifs tt)
    (hk : ∀ (s : Shared) (H : Hp) (C : Addr) (cl : List (Str × Addr)) (fp : List Addr), PE (X.blk s H scope (compEnvC scope cl C X.env) fp) kx tk)
    (hv : ∀ (s : Shared) (H : Hp) (C : Addr) (cl : List (Str × Addr)) (fp : List Addr), PE (X.blk s H scope (compEnvC scope cl C X.env) fp) vx tv)
    (hs : ∀ x, foldedSetIterable iter X.env x = pure x := by intro _; rfl) : PE X (.DictComp kx vx [⟨tg, iter, ifs, 0⟩] scope pos) (tDct wi g tt tk tv (own.map (·.2))) := by
  constructor
  intro pins s σ H Q I h
  rw [arm_eval_DictComp]
  exact dct_any hc hu hN I hi ok hg ht hk hv hs h fun D C s' m H' I' q hn F => ⟨m, hn, fun h'' sb => ⟨.ref D, H', I'.turned (t' := s'.toks) (fun b o hb e => (sb.2 b hb).trans e) F.1 F.2.1 F.2.2.2.1 F.2.2.2.2.1 F.2.2.2.2.2, rfl, q⟩⟩
/-- the model's other statement for a dict that a name takes -/
theorem sw_dct {gs : List Comprehension} {py : Pos} {y : Str} {l : Nat} {env : Env} (hk : env.scope.kind = .function) (hy : env.scope.names.lookup y = some .local) (hl : (py.line == pos.line) = true)
    (ha : (scope.names.any fun (n, k) => n == y && (k == .local || k == .cell)) = false) : swapsWith (.DictComp kx vx gs scope pos) (some (.Name y py)) l env = pure true := by
  have h1 : env.blockKind = .function := by
    unfold Env.blockKind
    rw [hk]
    rfl
  have h2 : env.kindOf y = some .local := hy
  simp only [swapsWith, h1, h2, ha, Expr.pos, hl]
  rfl
/-- name = {..} -/
theorem ps_setDct {i : Nat} {y : Str} {py spos : Pos} (hc : X.calm = true) (hu : X.A.units + 1 < cLine) (hN : X.N.Nodup) (hy : X.N[i]? = some y) (hyl : X.env.scope.names.lookup y = some .local)
    (hsw : swapsWith (.DictComp kx vx [⟨tg, iter, ifs, 0⟩] scope pos) (some (.Name y py)) spos.line X.env = pure true) (hi : PI X tg iter wi) (ok : BlkOk X.N X.env.scope scope own)
    (hg : ∀ (s : Shared) (H : Hp) (C : Addr) (cl : List (Str × Addr)) (fp : List Addr), PG (X.blk s H scope (compEnvC scope cl C X.env) fp) tg g)
    (ht : ∀ (s : Shared) (H : Hp) (C : Addr) (cl : List (Str × Addr)) (fp : List Addr), PTs (X.blk s H scope (compEnvC scope cl C X.env) fp) ifs tt)
    (hk : ∀ (s : Shared) (H : Hp) (C : Addr) (cl : List (Str × Addr)) (fp : List Addr), PE (X.blk s H scope (compEnvC scope cl C X.env) fp) kx tk)
    (hv : ∀ (s : Shared) (H : Hp) (C : Addr) (cl : List (Str × Addr)) (fp : List Addr), PE (X.blk s H scope (compEnvC scope cl C X.env) fp) vx tv)
    (hs : ∀ x, foldedSetIterable iter X.env x = pure x := by intro _; rfl) : PS X (.Assign [.Name y py] (.DictComp kx vx [⟨tg, iter, ifs, 0⟩] scope pos) spos) (tAsg (tDct wi g tt tk tv (own.map (·.2))) (gName i)) := by
  constructor
  intro pins s σ H D I h
  rw [exec_Assign_Name_used _ _ _ _ hsw]
  apply wpAny_bind
  apply wpAny_standAt
  apply wpAny_bind
  show wpAny _ X.A (do let _ ← comprehension (.DictComp kx vx [⟨tg, iter, ifs, 0⟩] scope pos) scope X.env (firstIterPos [⟨tg, iter, ifs, 0⟩] pos) newDict false (eval iter X.env) (some (assign (.Name y py) X.env))) _ _ s
  apply wpAny_bind
  have run := dct_any (Q := fun x H1 => gName i x σ H1 D.nx) (use := some (assign (.Name y py) X.env)) (Qf := fun _ s' => SP X pins D .next s') (pos' := firstIterPos [⟨tg, iter, ifs, 0⟩] pos) (pos := pos) hc hu hN I hi ok hg ht hk hv hs h fun L C s' m H' I' q hn F => by
    show wpAny _ _ (assign (.Name y py) X.env (.ref L)) _ _ _
    apply wpAny_assign_Name
    refine store_ok2 (v := V.ref L) I' hN hy (Or.inl hyl) rfl (fun s2 I2 ⟨a, sb, ha⟩ => ?_) (Or.inr hyl)
    have ne : C ≠ a := by
      rcases ha with z | z
      · exact fun e => F.2.1 (e.trans z)
      · exact fun e => F.2.2.2.2.1 y a z e.symm
    exact ⟨m, hn.sameBut sb ne, fun h3 sb3 => ⟨_, H', I2.turned (t' := s2.toks) (fun b o hb e => (sb3.2 b hb).trans e) F.1 F.2.1 F.2.2.2.1 F.2.2.2.2.1 F.2.2.2.2.2, q⟩⟩
  exact thn run fun _ s' hq => wpAny_pure (wpAny_pure hq)
end
end Lk
namespace Lk
open PySem PySem.Spec PyProof.Rows L2
variable [Own]
/-- over any walk -/
theorem dct_walk {J : It} {n : Nat} {G : Hp → Prop} {Y : Nat → Hp → V → Hp → Prop} (w : Walk J n G Y) {g : TG} {tt : TT} {tk tv : TE} {vs : List Nat} {σ : L2.St} {H1 : Hp} {D : Addr} {Qd : Hp → Prop} (Pv : Nat → Hp → Prop) (h0 : Pv 0 (upd H1 D (.dT []))) (hG : ∀ i H, i ≤ n → Pv i H → G H)
    (hs : ∀ i x H H', i < n → Pv i H → Y i H x H' → g x (wipe σ vs) H' fun τ H2 => wipe τ vs = wipe σ vs ∧ tt τ H2 fun b H3 =>
      if b = true then tk τ H3 fun y H4 => tv τ H4 fun z H5 => ∃ b kvs k, y = .ref b ∧ H5 b = some (.tup (k.map kV)) ∧ H5 D = some (.dT kvs) ∧ kvs.length < sizeLine ∧ Pv (i + 1) (upd H5 D (.dT (putK kvs k z))) else Pv (i + 1) H3) (hd : ∀ H, Pv n H → Qd H) :
    ∃ W : Nat → Nat → Hp → Prop, (∃ m, W 0 m (upd H1 D (.dT []))) ∧ ∀ i m H, W i m H →
      J.stop i H ∧ Qd H ∨ J.go i H ∧ ∃ N : Hp → Prop, (∀ H', N H' → ∃ m', m' < m ∧ W (i + 1) m' H') ∧ ∀ x H', J.yld i H x H' → g x (wipe σ vs) H' fun τ H2 => wipe τ vs = wipe σ vs ∧ tt τ H2 fun b H3 =>
        if b = true then tk τ H3 fun y H4 => tv τ H4 fun z H5 => ∃ b kvs k, y = .ref b ∧ H5 b = some (.tup (k.map kV)) ∧ H5 D = some (.dT kvs) ∧ kvs.length < sizeLine ∧ N (upd H5 D (.dT (putK kvs k z))) else N H3 := by
  refine ⟨fun i m H => (m = n - i ∧ i ≤ n) ∧ Pv i H, ⟨n, ⟨by omega, Nat.zero_le n⟩, h0⟩, ?_⟩
  rintro i m H ⟨⟨hm, hi⟩, p⟩
  have q := hG i H hi p
  rcases Nat.lt_or_ge i n with lt | ge
  · exact .inr ⟨w.goes i H lt q, Pv (i + 1), fun H' p' => ⟨n - (i + 1), by omega, ⟨rfl, lt⟩, p'⟩, fun x H' y => hs i x H H' lt p (w.yields i H x H' lt q y)⟩
  · obtain rfl : i = n := Nat.le_antisymm hi ge
    exact .inl ⟨w.stops H q, hd H p⟩
end Lk

/-! ## KvF -/
set_option Elab.async false
set_option linter.all false
set_option maxRecDepth 100000
set_option maxHeartbeats 2000000
/-! Dicts with rows of ints as keys, told by a function. -/
namespace Lk
open PySem PySem.Spec PyProof.Rows L2 Gx
variable [Own]
def kR (r : List Int) : List Key := r.map Sum.inl
theorem kR_inj {a b : List Int} (h : kR a = kR b) : a = b := by
  unfold kR at h
  exact (List.map_inj_right (fun x y e => Sum.inl.inj e)).mp h
theorem kR_kV (r : List Int) : (kR r).map kV = iv r := by
  unfold kR iv
  rw [List.map_map]
  rfl
def kvF (rows : List (List Int)) (g : List Int → V) : List (List Key × V) := rows.map fun r => (kR r, g r)
theorem kvF_in {g : List Int → V} {k : List Int} : ∀ {rows : List (List Int)}, k ∈ rows → valV (kvF rows g) (kR k) = some (g k)
  | [], h => by cases h
  | r :: rows, h => by
    show valV ((kR r, g r) :: kvF rows g) (kR k) = _
    by_cases e : r = k
    · rw [valV_pos (p := (kR r, g r)) (by rw [e]), e]
    · rw [valV_neg (p := (kR r, g r)) (fun z => e (kR_inj z))]
      exact kvF_in ((List.mem_cons.mp h).resolve_left fun z => e z.symm)
theorem kvF_out {g : List Int → V} {k : List Int} : ∀ {rows : List (List Int)}, k ∉ rows → valV (kvF rows g) (kR k) = none
  | [], h => rfl
  | r :: rows, h => by
    show valV ((kR r, g r) :: kvF rows g) (kR k) = _
    rw [valV_neg (p := (kR r, g r)) (fun z => h (by rw [kR_inj z]; exact List.mem_cons_self ..))]
    exact kvF_out fun z => h (List.mem_cons_of_mem _ z)
theorem kvF_snoc {g : List Int → V} {rows : List (List Int)} {k : List Int} (h : k ∉ rows) : putK (kvF rows g) (kR k) (g k) = kvF (rows ++ [k]) g := by
  rw [putK_new _ (kvF_out h)]
  unfold kvF
  rw [List.map_append]
  rfl
theorem kvF_len (rows : List (List Int)) (g : List Int → V) : (kvF rows g).length = rows.length := List.length_map ..
theorem nodup_at {rows : List (List Int)} (nd : rows.Nodup) {i : Nat} {k : List Int} (h : rows[i]? = some k) : k ∉ rows.take i := by
  intro hm
  obtain ⟨j, hj⟩ := List.getElem?_of_mem hm
  have hlt : j < i := by
    have := (List.getElem?_eq_some_iff.mp hj).1
    rw [List.length_take] at this
    omega
  rw [List.getElem?_take, if_pos hlt] at hj
  have h1 := (List.getElem?_eq_some_iff.mp h).1
  have := (List.getElem?_inj h1 nd).mp (h.trans hj.symm)
  omega
theorem ud {k : Nat} {A : Around} (h : Room k A) : A.units + 1 < cLine := by
  have := h.un
  omega
theorem DGet.row {H : Hp} {a b : Addr} {rows : List (List Int)} {g : List Int → V} {k : List Int} (e : H a = some (.dT (kvF rows g))) (hb : H b = some (.tup (iv k))) (hm : k ∈ rows) : DGet H a (.ref b) (some (g k)) := by
  have := DGet.t (k := kR k) e (by rw [kR_kV]; exact hb)
  rw [kvF_in hm] at this
  exact this
theorem DGet.noRow {H : Hp} {a b : Addr} {rows : List (List Int)} {g : List Int → V} {k : List Int} (e : H a = some (.dT (kvF rows g))) (hb : H b = some (.tup (iv k))) (hm : k ∉ rows) : DGet H a (.ref b) none := by
  have := DGet.t (k := kR k) e (by rw [kR_kV]; exact hb)
  rw [kvF_out hm] at this
  exact this
end Lk

/-! ## Zip2 -/
set_option Elab.async false
set_option linter.all false
set_option maxRecDepth 100000
set_option maxHeartbeats 2000000
/-! zip of two, each a list or a tuple, of one length. -/
namespace Lk
open PySem PySem.Spec PyProof.Rows L2 Gx
variable [Own]
def At2 (k l : Bool) (a b : Addr) (H : Hp) (xs ys : List V) : Prop := (SqB k H a xs ∧ SqB l H b ys) ∧ ys.length = xs.length
def Itz2 (k l : Bool) (a b : Addr) : It where
  go i H := ∃ xs ys, At2 k l a b H xs ys ∧ i < xs.length
  yld i H v H' := ∃ T x y, v = .ref T ∧ H T = none ∧ H' = upd H T (.tup [x, y]) ∧ ∀ xs ys, At2 k l a b H xs ys → xs[i]? = some x ∧ ys[i]? = some y
  stop i H := ∃ xs ys, At2 k l a b H xs ys ∧ i = xs.length
/-- an iterator of either kind -/
def ItB (k : Bool) (h : Heap) (i a : Addr) (n : Nat) : Prop := if k = true then h.IsListIter i a n else h.IsTupleIter i a n
/-- what it walks, in the heap itself -/
def ArB (k : Bool) (h : Heap) (a : Addr) (arr : Array Value) : Prop := if k = true then h.IsList a arr else h.IsTuple a arr
theorem SqB.one {k : Bool} {H : Hp} {a : Addr} {xs ys : List V} (h : SqB k H a xs) (h' : SqB k H a ys) : xs = ys := by
  cases k with
  | true =>
    have h : H a = some (.lst xs) := h
    have h' : H a = some (.lst ys) := h'
    rw [h] at h'
    cases h'
    rfl
  | false =>
    have h : H a = some (.tup xs) := h
    have h' : H a = some (.tup ys) := h'
    rw [h] at h'
    cases h'
    rfl
section
variable {P : Program} {w : World} {K : PySem.W.Frag}
theorem inv_arr {X : Cx} {pins : List (Addr × Obj)} {σ : L2.St} {H : Hp} {s : Shared} {k : Bool} {a : Addr} {xs : List V} (I : Inv X pins σ H s) (h : SqB k H a xs) : ∃ its : List Value, Vals xs its ∧ ArB k s.heap a its.toArray ∧ a < s.heap.objs.size := by
  cases k with
  | true =>
    obtain ⟨its, m, v, g, z⟩ := I.lst (show H a = some (.lst xs) from h)
    exact ⟨its, v, ⟨_, g, rfl, _, rfl⟩, get_lt g⟩
  | false =>
    obtain ⟨its, v, g, z⟩ := I.tuple (SqT.of (show H a = some (.tup xs) from h))
    exact ⟨its, v, istup_is g, by obtain ⟨o, g, _⟩ := g; exact get_lt g⟩
theorem draws_b {prog : Program} {A : Around} (hA : A.handled = none) (k : Bool) (i a : Addr) (n : a ≠ i) (arr : Array Value) : Draws prog w A i [i, a] arr.size (fun j v => arr[j]? = some v) (fun j h => ItB k h i a j ∧ ArB k h a arr) := by
  cases k with
  | true => exact Draws.list hA i a n arr
  | false => exact Draws.tuple hA i a n arr
theorem begins_b (k : Bool) (a : Addr) (arr : Array Value) : ∃ o : Obj, Begins (.ref a) o (fun h => ArB k h a arr) ∧ ∀ (h : Heap) (i : Addr), h.get? i = some o → ItB k h i a 0 := by
  cases k with
  | true => exact ⟨_, begins_list a arr, fun h i e => ⟨_, e, rfl, rfl⟩⟩
  | false => exact ⟨_, begins_tuple a arr, fun h i e => ⟨_, e, rfl, rfl⟩⟩
end
end Lk
namespace Lk
open PySem PySem.Spec PyProof.Rows L2 Gx
variable [Own]
abbrev tn2 (k l : Bool) (z TI TO i1 i2 a b : Addr) : Nat → Heap → Prop := fun i h => IsZip h z TI TO .none ∧ IsTupOf2 h TI (.ref i1) (.ref i2) ∧ (∃ a1 a2, IsTupOf2 h TO a1 a2) ∧ ItB k h i1 a i ∧ ItB l h i2 b i
theorem ItB.obj {k : Bool} {h : Heap} {i a : Addr} {n : Nat} (q : ItB k h i a n) : ∃ o, h.get? i = some o ∧ ∀ v, o.data ≠ .cell v := by
  cases k with
  | true =>
    obtain ⟨o, e, _, d⟩ := q
    exact ⟨o, e, fun v z => by rw [d] at z; cases z⟩
  | false =>
    obtain ⟨o, e, _, d⟩ := q
    exact ⟨o, e, fun v z => by rw [d] at z; cases z⟩
theorem ItB.keep {k : Bool} {h h' : Heap} {i a : Addr} {n : Nat} (q : ItB k h i a n) (kp : ∀ o, h.get? i = some o → h'.get? i = some o) : ItB k h' i a n := by
  cases k with
  | true =>
    obtain ⟨o, e, c, d⟩ := q
    exact ⟨o, kp o e, c, d⟩
  | false =>
    obtain ⟨o, e, c, d⟩ := q
    exact ⟨o, kp o e, c, d⟩
section
variable {P : Program} {w : World} {K : PySem.W.Frag}
theorem turn_zip2 {k l : Bool} {elts : List Expr} {kk : Nat} {tpos : Pos} {a b z TI TO i1 i2 : Addr} (sep : ZipSep2 z TI TO i1 i2 [i1, a] [i2, b]) (n1 : a ≠ i1) (n2 : b ≠ i2) :
    Turn P w K (.Tuple elts kk tpos) (Itz2 k l a b) [z, TI, TO, i1, i2] z (tn2 k l z TI TO i1 i2 a b) := by
  refine ⟨List.mem_cons_self .., ?_, ?_, ?_, ?_, ?_⟩
  · rintro i h ⟨hz, hti, ⟨a1, a2, hto⟩, h1, h2⟩ q hq
    simp only [List.mem_cons, List.mem_nil_iff, or_false] at hq
    rcases hq with rfl | rfl | rfl | rfl | rfl
    · exact ⟨_, hz, fun v e => by cases e⟩
    · exact ⟨_, hti, fun v e => by cases e⟩
    · exact ⟨_, hto, fun v e => by cases e⟩
    · exact h1.obj
    · exact h2.obj
  · rintro i h h' ⟨hz, hti, ⟨a1, a2, hto⟩, h1, h2⟩ kp
    exact ⟨kp z (by simp) _ hz, kp TI (by simp) _ hti, ⟨a1, a2, kp TO (by simp) _ hto⟩, h1.keep (kp i1 (by simp)), h2.keep (kp i2 (by simp))⟩
  · rintro X rfl rfl rfl calm i pins s σ H E I hfp ⟨hz, hti, hto, h1, h2⟩ ⟨xs, ys, ⟨⟨ea, eb⟩, ly⟩, hi⟩
    obtain ⟨its1, v1, g1, s1⟩ := inv_arr I ea
    obtain ⟨its2, v2, g2, s2⟩ := inv_arr I eb
    have hA : X.A.in1.handled = none := I.ok.hd calm
    have G := GoesN.zip2 (prog := X.prog) (w := X.w) (A := X.A) (elts := elts) (x1 := kk) (pos := tpos) sep (draws_b hA k i1 a n1 its1.toArray) (draws_b hA l i2 b n2 its2.toArray)
    have l1 := paired_len v1
    have l2 := paired_len v2
    refine G.goes i s _ E (by simp only [List.size_toArray]; omega) ⟨hz, hti, hto, ⟨h1, g1⟩, ⟨h2, g2⟩⟩ ?_
    rintro v h' tk ⟨T, x, y, rfl, hT, p1, p2, hI⟩ ⟨qz, qti, qto, ⟨q1, _⟩, ⟨q2, _⟩⟩ kp ht
    obtain ⟨x', e1, r1⟩ := vals_arr v1 p1
    obtain ⟨y', e2, r2⟩ := vals_arr v2 p2
    have hT0 : H T = none := I.hok.fresh hT
    have I2 := I.turnedNew (h' := h') (t' := tk) (ch := [z, TO, i1, i2]) (T := T) (ob := .tup [x', y']) kp (fun q hq => hfp q (by
      simp only [List.mem_cons, List.mem_nil_iff, or_false] at hq ⊢
      rcases hq with h | h | h | h <;> simp [h])) hT (by
        unfold ObjOk
        exact ⟨by show 2 ≤ sizeLine; decide, [x, y], .cons r1 (.cons r2 .nil), hI⟩)
    refine ⟨.ref T, _, I2, rfl, ⟨T, x', y', rfl, hT0, rfl, ?_⟩, ⟨qz, qti, qto, q1, q2⟩, fun q hq => ?_⟩
    · rintro xs' ys' ⟨⟨fa, fb⟩, _⟩
      have f1 := ea.one fa
      have f2 := eb.one fb
      subst f1 f2
      exact ⟨e1, e2⟩
    · obtain ⟨hn, _⟩ := hfp q hq
      have hq2 : q < s.heap.objs.size := by
        obtain ⟨a1, a2, hto⟩ := hto
        obtain ⟨o1, f1, _⟩ := h1.obj
        obtain ⟨o2, f2, _⟩ := h2.obj
        simp only [List.mem_cons, List.mem_nil_iff, or_false] at hq
        rcases hq with rfl | rfl | rfl | rfl | rfl
        · exact get_lt hz
        · exact get_lt hti
        · exact get_lt hto
        · exact get_lt f1
        · exact get_lt f2
      rw [upd_ne (fun e => by rw [e] at hq2; exact absurd hq2 (Nat.not_lt.mpr hT))]
      exact hn
  · rintro X rfl rfl rfl calm i pins s σ H E I hfp ⟨hz, hti, hto, h1, h2⟩ ⟨xs, ys, ⟨⟨ea, eb⟩, ly⟩, hi⟩
    obtain ⟨its1, v1, g1, s1⟩ := inv_arr I ea
    obtain ⟨its2, v2, g2, s2⟩ := inv_arr I eb
    have hA : X.A.in1.handled = none := I.ok.hd calm
    have G := GoesN.zip2 (prog := X.prog) (w := X.w) (A := X.A) (elts := elts) (x1 := kk) (pos := tpos) sep (draws_b hA k i1 a n1 its1.toArray) (draws_b hA l i2 b n2 its2.toArray)
    have l1 := paired_len v1
    have l2 := paired_len v2
    have en : min its1.toArray.size its2.toArray.size = i := by simp only [List.size_toArray]; omega
    refine G.stops s _ E (by rw [en]; exact ⟨hz, hti, hto, ⟨h1, g1⟩, ⟨h2, g2⟩⟩) ?_
    intro h' tk kp ht
    exact I.turnedL (h' := h') (t' := tk) (ch := [z, TO, i1, i2]) kp (fun q hq => hfp q (by
      simp only [List.mem_cons, List.mem_nil_iff, or_false] at hq ⊢
      rcases hq with h | h | h | h <;> simp [h]))
  · rintro A i s Q E ⟨hz, _⟩ q
    exact wpAny_pyIter_zip hz q
def iZip2 (ta : TA) : L2.TI := fun σ H R => ta σ H fun vs H1 => ∃ (k l : Bool) (a b : Addr) (xs ys : List V), vs = [.ref a, .ref b] ∧ At2 k l a b H1 xs ys ∧ R (Itz2 k l a b) H1
theorem pi_zip2 {X : Cx} {e e2 : Expr} {ta : TA} {p pos tpos : Pos} {elts : List Expr} {kk : Nat} (hg : Gl X "zip") (hm : X.mg "zip" = none) (ha : PA X [e, e2] ta)
    (hs : starEach [e, e2] X.env = (false, eval e X.env) :: starEach [e2] X.env := by rfl) (hpl : (backTo pos (starEach [e2] X.env)).any (·.1) = false := by rfl) :
    PI X (.Tuple elts kk tpos) (.Call (.Name "zip" p) [e, e2] [] pos) (iZip2 ta) := by
  refine ⟨fun pins s σ H R I h => ?_⟩
  refine Call_ (ld_blt I hg hm boot_zip (PyProof.Rows.callWith_type1 (thn (ha.run pos pins s σ H _ I h) fun us s2 q => ?_) hs hpl))
  obtain ⟨vs, H2, I2, rv, k, l, a, b, xs, ys, rfl, hat, r⟩ := q
  obtain ⟨⟨ea, eb⟩, ly⟩ := id hat
  cases rv with
  | cons r1 rv =>
  cases rv with
  | cons r2 rv =>
  cases rv
  cases r1
  cases r2
  obtain ⟨its1, v1, g1, la⟩ := inv_arr I2 ea
  obtain ⟨its2, v2, g2, lb⟩ := inv_arr I2 eb
  obtain ⟨o1, b1, z1⟩ := begins_b k a its1.toArray
  obtain ⟨o2, b2, z2⟩ := begins_b l b its2.toArray
  refine zip_begins2 b1 b2 g1 g2 ?_
  intro h' hz hti hto e1 e2 hsz kp
  refine wpAny_pyIter_zip hz ?_
  have sep := zip_sep2 (N := s2.heap.objs.size) (fp1 := [a]) (fp2 := [b]) (by simpa using la) (by simpa using lb)
  have I3 : L2.Inv X pins σ H2 { heap := h', gens := s2.gens, drawn := s2.drawn, toks := s2.toks, os := s2.os } := I2.kept kp
  refine ⟨_, _, _, _, H2, rfl, I3, turn_zip2 (k := k) (l := l) sep (Nat.ne_of_lt la) (Nat.ne_of_lt (Nat.lt_succ_of_lt lb)), ⟨hz, hti, ⟨_, _, hto⟩, z1 _ _ e1, z2 _ _ e2⟩, fun q hq => ?_, r⟩
  have hq2 : s2.heap.objs.size ≤ q := by
    simp only [List.mem_cons, List.mem_nil_iff, or_false] at hq
    rcases hq with h | h | h | h | h <;> (rw [h]; simp)
  exact I2.fpOk hq2 (I2.hok.fresh hq2)
theorem walk_zip2 {k l : Bool} {a b : Addr} {xs ys : List V} : Walk (Itz2 k l a b) xs.length (fun H => At2 k l a b H xs ys) (fun i H v H' => ∃ T x y, v = .ref T ∧ H T = none ∧ H' = upd H T (.tup [x, y]) ∧ xs[i]? = some x ∧ ys[i]? = some y) := by
  refine ⟨fun i H hi h => ⟨xs, ys, h, hi⟩, fun H h => ⟨xs, ys, h, rfl⟩, fun i H x H' hi h y => ?_⟩
  obtain ⟨T, x', y', e, h0, e2, q⟩ := y
  exact ⟨T, x', y', e, h0, e2, q xs ys h⟩
end
end Lk

/-! ## LcI -/
set_option Elab.async false
set_option linter.all false
set_option maxRecDepth 100000
set_option maxHeartbeats 2000000
/-! Comprehensions without a test, told by a function. -/
namespace Lk
open PySem PySem.Spec PyProof.Rows L2 Gx
variable [Own]
section
variable {K : PySem.W.Frag} {a : Addr} {xs : List V} {α β : Type} {R : Hp → V → α → Prop} {S : Hp → V → β → Prop} {bs : List α} {g : TG} {te : TE} {vs : List Nat} {σ : L2.St} {H1 : Hp} {D : Addr} {Qd : Hp → Prop}
/-- ints of a list's items -/
theorem lc_toIL (sr : Stays R) (f : α → Int) (hD : H1 D = none) (hx : H1 a = some (.lst xs)) (hp : Paired (R H1) xs bs) (few : xs.length ≤ sizeLine)
    (hs : ∀ x b H' (Ky : V → Hp → Prop), Ext H1 H' → b ∈ bs → R H' x b → (∀ H4, Ext H' H4 → Ky (.int (f b)) H4) → g x (wipe σ vs) H' fun σ2 H2 => wipe σ2 vs = wipe σ vs ∧ te σ2 H2 Ky)
    (hd : ∀ H', Ext H1 H' → H' D = some (.lst (iv (bs.map f))) → Qd H') :
    ∃ W : Nat → Nat → Hp → Prop, (∃ m, W 0 m (upd H1 D (.lst []))) ∧ ∀ i m H, W i m H →
      ((Itl K a).stop i H ∧ Qd H) ∨ ((Itl K a).go i H ∧ ∃ Nx : Hp → Prop, (∀ H', Nx H' → ∃ m', m' < m ∧ W (i + 1) m' H') ∧ ∀ x H', (Itl K a).yld i H x H' → g x (wipe σ vs) H' fun σ2 H2 => wipe σ2 vs = wipe σ vs ∧ tYes σ2 H2 fun b H3 =>
        if b = true then te σ2 H3 fun y H4 => ∃ acc, H4 D = some (.lst acc) ∧ acc.length < sizeLine ∧ Nx (upd H4 D (.lst (acc ++ [y]))) else Nx H3) := by
  refine lc_fmL sr stVI (fun b => some (f b)) hD hx hp few (fun x b H' Ky Kn e hb hr k1 _ => ?_) fun H' acc e hacc hp' => ?_
  · exact hs x b H' Ky e hb hr fun H4 e4 => k1 _ _ H4 rfl e4 rfl
  · have ea := pVI hp'
    subst ea
    rw [List.filterMap_eq_map'] at hacc
    exact hd H' e hacc
/-- .. of a range -/
theorem lc_toIR {lo : Int} {n : Nat} (f : Int → Int) (hD : H1 D = none) (few : n ≤ sizeLine)
    (hs : ∀ b H' (Ky : V → Hp → Prop), Ext H1 H' → lo ≤ b → b < lo + n → (∀ H4, Ext H' H4 → Ky (.int (f b)) H4) → g (.int b) (wipe σ vs) H' fun σ2 H2 => wipe σ2 vs = wipe σ vs ∧ te σ2 H2 Ky)
    (hd : ∀ H', Ext H1 H' → H' D = some (.lst (iv ((nums lo (lo + n)).map f))) → Qd H') :
    ∃ W : Nat → Nat → Hp → Prop, (∃ m, W 0 m (upd H1 D (.lst []))) ∧ ∀ i m H, W i m H →
      ((Itr lo n).stop i H ∧ Qd H) ∨ ((Itr lo n).go i H ∧ ∃ Nx : Hp → Prop, (∀ H', Nx H' → ∃ m', m' < m ∧ W (i + 1) m' H') ∧ ∀ x H', (Itr lo n).yld i H x H' → g x (wipe σ vs) H' fun σ2 H2 => wipe σ2 vs = wipe σ vs ∧ tYes σ2 H2 fun b H3 =>
        if b = true then te σ2 H3 fun y H4 => ∃ acc, H4 D = some (.lst acc) ∧ acc.length < sizeLine ∧ Nx (upd H4 D (.lst (acc ++ [y]))) else Nx H3) := by
  refine lc_fmR stVI (fun b => some (f b)) hD few (fun b H' Ky Kn e h0 h1 k1 _ => ?_) fun H' acc e hacc hp' => ?_
  · exact hs b H' Ky e h0 h1 fun H4 e4 => k1 _ _ H4 rfl e4 rfl
  · have ea := pVI hp'
    subst ea
    rw [List.filterMap_eq_map'] at hacc
    exact hd H' e hacc
end
section
variable {K : PySem.W.Frag} {a : Addr} {xs : List V} {rows : List (List Int)} {gf : List Int → V} {g : TG} {tk tv : TE} {vs : List Nat} {σ : L2.St} {H1 : Hp} {D : Addr} {Qd : Hp → Prop}
/-- {row: .. for row in rows} over a list of rows, none of them twice -/
theorem dct_rows (nd : rows.Nodup) (hD : H1 D = none) (hx : H1 a = some (.lst xs)) (hp : Paired (TI H1) xs rows) (few : xs.length ≤ sizeLine)
    (hs : ∀ x b H' (Ky : V → V → Hp → Prop), Ext H1 H' → b ∈ rows → TI H' x b → (∀ y H4, Ext H' H4 → TI H4 y b → Ky y (gf b) H4) → g x (wipe σ vs) H' fun σ2 H2 => wipe σ2 vs = wipe σ vs ∧ tk σ2 H2 fun y H3 => tv σ2 H3 fun z H4 => Ky y z H4)
    (hd : ∀ H', Ext H1 H' → H' D = some (.dT (kvF rows gf)) → Qd H') :
    ∃ W : Nat → Nat → Hp → Prop, (∃ m, W 0 m (upd H1 D (.dT []))) ∧ ∀ i m H, W i m H →
      (Itl K a).stop i H ∧ Qd H ∨ (Itl K a).go i H ∧ ∃ N : Hp → Prop, (∀ H', N H' → ∃ m', m' < m ∧ W (i + 1) m' H') ∧ ∀ x H', (Itl K a).yld i H x H' → g x (wipe σ vs) H' fun τ H2 => wipe τ vs = wipe σ vs ∧ tYes τ H2 fun b H3 =>
        if b = true then tk τ H3 fun y H4 => tv τ H4 fun z H5 => ∃ b kvs k, y = .ref b ∧ H5 b = some (.tup (k.map kV)) ∧ H5 D = some (.dT kvs) ∧ kvs.length < sizeLine ∧ N (upd H5 D (.dT (putK kvs k z))) else N H3 := by
  refine dct_walk (walk_list (K := K) (a := a) (xs := xs)) (fun i H' => H' D = some (.dT (kvF (rows.take i) gf)) ∧ Ext H1 H') ⟨upd_same, Ext.new hD _⟩ (fun i H' _ ⟨_, e⟩ => SqL.of (e.lst hx)) (fun i x H' H2 hi ⟨h1, e⟩ y => ?_) fun H' ⟨h1, e⟩ => ?_
  · obtain ⟨rfl, hx2⟩ := y
    obtain ⟨b, hb, hr⟩ := paired_get' hp hx2
    have hst := hs x b _ (fun y z H4 => ∃ bb kvs k, y = .ref bb ∧ H4 bb = some (.tup (k.map kV)) ∧ H4 D = some (.dT kvs) ∧ kvs.length < sizeLine ∧ ((upd H4 D (.dT (putK kvs k z))) D = some (.dT (kvF (rows.take (i + 1)) gf)) ∧ Ext H1 (upd H4 D (.dT (putK kvs k z))))) e (List.mem_of_getElem? hb) (hr.ext e) fun y H4 e4 hy => ?_
    · exact hst
    · obtain ⟨bb, rfl, hbb⟩ := hy
      have hd4 := e4.keep _ _ h1 rfl
      refine ⟨bb, _, kR b, rfl, by rw [kR_kV]; exact hbb, hd4, ?_, ?_, (e.trans e4).put hD _⟩
      · rw [kvF_len, List.length_take]
        have := paired_len hp
        omega
      · rw [upd_same, kvF_snoc (nodup_at nd hb), take_snoc hb]
  · have := paired_len hp
    rw [this, List.take_length] at h1
    exact hd H' e h1
end
end Lk
namespace Lk
open PySem PySem.Spec PyProof.Rows L2 Gx
variable [Own]
theorem At2.ext {k l : Bool} {a b : Addr} {H H' : Hp} {xs ys : List V} (e : Ext H H') (h : At2 k l a b H xs ys) : At2 k l a b H' xs ys := ⟨⟨h.1.1.ext e, h.1.2.ext e⟩, h.2⟩
theorem zip_take {α β : Type} : ∀ {xs : List α} {ys : List β} {i : Nat} {x : α} {y : β}, xs[i]? = some x → ys[i]? = some y → (xs.zip ys)[i]? = some (x, y)
  | x :: xs, y :: ys, 0, _, _, h1, h2 => by
    cases h1
    cases h2
    rfl
  | x :: xs, y :: ys, i + 1, _, _, h1, h2 => by
    show (xs.zip ys)[i]? = _
    exact zip_take (by simpa using h1) (by simpa using h2)
  | [], _, _, _, _, h1, _ => by simp at h1
  | _ :: _, [], _, _, _, _, h2 => by simp at h2
/-- ints by a function of two rows' ints -/
theorem lc_toIZ {k l : Bool} {a b : Addr} {xs ys : List Int} {g : TG} {te : TE} {vs : List Nat} {σ : L2.St} {H1 : Hp} {D : Addr} {Qd : Hp → Prop} (f : Int → Int → Int) (hD : H1 D = none) (h : At2 k l a b H1 (iv xs) (iv ys)) (few : xs.length ≤ 1000000)
    (hs : ∀ (T : Addr) (i : Nat) (x y : Int) (H' : Hp) (Ky : V → Hp → Prop), Ext H1 H' → xs[i]? = some x → ys[i]? = some y → H' T = some (.tup [.int x, .int y]) → (∀ H4, Ext H' H4 → Ky (.int (f x y)) H4) → g (.ref T) (wipe σ vs) H' fun σ2 H2 => wipe σ2 vs = wipe σ vs ∧ te σ2 H2 Ky)
    (hd : ∀ H', Ext H1 H' → H' D = some (.lst (iv ((xs.zip ys).map fun p => f p.1 p.2))) → Qd H') :
    ∃ W : Nat → Nat → Hp → Prop, (∃ m, W 0 m (upd H1 D (.lst []))) ∧ ∀ i m H, W i m H →
      ((Itz2 k l a b).stop i H ∧ Qd H) ∨ ((Itz2 k l a b).go i H ∧ ∃ Nx : Hp → Prop, (∀ H', Nx H' → ∃ m', m' < m ∧ W (i + 1) m' H') ∧ ∀ x H', (Itz2 k l a b).yld i H x H' → g x (wipe σ vs) H' fun σ2 H2 => wipe σ2 vs = wipe σ vs ∧ tYes σ2 H2 fun b H3 =>
        if b = true then te σ2 H3 fun y H4 => ∃ acc, H4 D = some (.lst acc) ∧ acc.length < sizeLine ∧ Nx (upd H4 D (.lst (acc ++ [y]))) else Nx H3) := by
  have hl : ys.length = xs.length := by
    have := h.2
    rw [iv_len, iv_len] at this
    exact this
  refine lc_walk (walk_zip2 (k := k) (l := l) (a := a) (b := b) (xs := iv xs) (ys := iv ys)) (fun i H' => H' D = some (.lst (iv (((xs.zip ys).take i).map fun p => f p.1 p.2))) ∧ Ext H1 H') ⟨by rw [upd_same]; rfl, Ext.new hD _⟩ (fun i H' _ ⟨_, e⟩ => h.ext e) (fun i x H' H2 hi ⟨h1, e⟩ y => ?_) fun H' ⟨h1, e⟩ => ?_
  · obtain ⟨T, x1, y1, rfl, hT, rfl, hx1, hy1⟩ := y
    obtain ⟨n, hn, rfl⟩ := iv_get hx1
    obtain ⟨m, hm, rfl⟩ := iv_get hy1
    have eT := Ext.new hT (.tup [V.int n, V.int m])
    have st := hs T i n m _ (fun y H4 => ∃ acc, H4 D = some (.lst acc) ∧ acc.length < sizeLine ∧ ((upd H4 D (.lst (acc ++ [y]))) D = some (.lst (iv (((xs.zip ys).take (i + 1)).map fun p => f p.1 p.2))) ∧ Ext H1 (upd H4 D (.lst (acc ++ [y]))))) (e.trans eT) hn hm upd_same fun H4 e4 => ?_
    · exact st
    · have h4 := (eT.trans e4).lst h1
      refine ⟨_, h4, ?_, ?_, ((e.trans eT).trans e4).put hD _⟩
      · rw [iv_len, List.length_map, List.length_take]
        have : i < (iv xs).length := hi
        rw [iv_len] at this
        exact Nat.lt_of_le_of_lt (Nat.min_le_left _ _) (Nat.lt_of_lt_of_le (show i < 1000000 by omega) (by decide))
      · rw [upd_same, take_snoc (zip_take hn hm), List.map_append]
        unfold iv
        rw [List.map_append]
        rfl
  · rw [List.take_of_length_le (by rw [List.length_zip, iv_len]; omega)] at h1
    exact hd H' e h1
end Lk

/-! ## D90 -/
set_option Elab.async false
set_option linter.all false
set_option maxRecDepth 100000
set_option maxHeartbeats 2000000
namespace Lk
open PySem PySem.Spec PyProof.Rows L2 Gx
open GxR (TabG Tabbed TabB)
variable [Own]
abbrev s_next_moods : Stmt := top 26
theorem sc_next_moods : FnScope ["top", "ways", "table", "place", "step", "size", "sign", "below", "mood", "least", "greatest"] ["top", "ways", "table"] (defScope s_next_moods) := ⟨rfl, rfl, rfl, by decide +kernel, rfl, by decide +kernel, by decide +kernel⟩
/-- a way as a row -/
def wRow (w : Nat × Nat × Int) : List Int := [(w.1 : Int), (w.2.1 : Int), w.2.2]
theorem ways_rows {W : Web} (ok : W.Ok) (f : Int) : waysOf W f = (waysN W f).map wRow := by
  unfold waysOf waysN
  rw [List.map_map]
  refine List.map_congr_left fun i hi => ?_
  have hi := List.mem_range.mp hi
  have h : (looksOf W f).reverse[i]? = some ((looksOf W f).reverse.getD i (0, 0)) := by
    rw [List.getD_eq_getElem?_getD, List.getElem?_eq_getElem (by rw [List.length_reverse]; exact hi)] <;> rfl
  have lo := looksOf_ok ok _ (List.mem_reverse.mp (List.mem_of_getElem? h))
  have ht := topAt_ok ok lo.1.1 lo.1.2
  show wayRow W (looksOf W f).reverse i = [_, (((topAt W ((looksOf W f).reverse.getD i (0, 0)).1 + 1).toNat : Nat) : Int), _]
  unfold wayRow
  rw [show (((topAt W ((looksOf W f).reverse.getD i (0, 0)).1 + 1).toNat : Nat) : Int) = topAt W ((looksOf W f).reverse.getD i (0, 0)).1 + 1 by omega]
theorem maxFrom_cons {a n : Int} (h : a ≤ n) (r : List Int) : maxFrom a (n :: r) = maxFrom n r := by
  unfold maxFrom
  rw [List.foldl_cons]
  congr 1
  split <;> omega
theorem minFrom_cons {a n : Int} (h : n ≤ a) (r : List Int) : minFrom a (n :: r) = minFrom n r := by
  unfold minFrom
  rw [List.foldl_cons]
  congr 1
  split <;> omega
theorem maxFrom_of {a : Int} {l : List Int} (hn : ∀ y ∈ l, a ≤ y) {m : Int} (h : m ∈ l) (hm : ∀ y ∈ l, y ≤ m) : m = maxFrom a l :=
  Int.le_antisymm (((maxFrom_le l a (maxFrom a l)).mp (Int.le_refl _)).2 m h) ((maxFrom_le l a m).mpr ⟨hn m h, hm⟩)
theorem minFrom_of {a : Int} {l : List Int} (hn : ∀ y ∈ l, y ≤ a) {m : Int} (h : m ∈ l) (hm : ∀ y ∈ l, m ≤ y) : m = minFrom a l :=
  Int.le_antisymm ((le_minFrom l a m).mpr ⟨hn m h, hm⟩) (((le_minFrom l a (minFrom a l)).mp (Int.le_refl _)).2 m h)
theorem rgV_nums (a b : Int) : rgV a b = iv (nums a b) := by
  unfold rgV nums iv
  rw [List.map_map]
  rfl
def spNextMoods : Sp := fun vs H Q _ => ∃ (p : Addr) (v : V) (us : List V) (W : Web) (f : Int) (t : List Int), vs = [.int (topAt W f), .ref p, v] ∧ H p = some (.lst us) ∧ W.Ok ∧ (0 ≤ f ∧ f < W.tops.length) ∧ Paired (TI H) us ((waysN W f).map wRow) ∧ TI H v t ∧ t.length ≤ 256 ∧ (∀ m ∈ t, 0 ≤ m ∧ m ≤ topAt W f) ∧
  ∀ H' q, Ext H H' → H q = none → H' q = some (.lst (iv (nums (lowN W f t) (highN W f t + 1)))) → Q (.ref q) H'
theorem bestMax {σ : L2.St} {ns : List Int} {Q : V → Hp → Prop} {H2 : Hp} {a : Addr} (h : H2 a = some (.lst (iv ns))) (hn : ∀ y ∈ ns, 0 ≤ y) (q : Q (.int (maxFrom 0 ns)) H2) :
    tC (.int 0) σ H2 fun d H3 => ∃ (a' : Addr) (ns' : List Int), [V.ref a] = [V.ref a'] ∧ H3 a' = some (.lst (iv ns')) ∧ (ns' = [] → Q d H3) ∧ ∀ m : Int, m ∈ ns' → (∀ y ∈ ns', y ≤ m) → Q (.int m) H3 := by
  refine ⟨a, ns, rfl, h, fun e => ?_, fun m h1 h2 => ?_⟩
  · rw [e] at q; exact q
  · rw [maxFrom_of hn h1 h2]; exact q
theorem bestMin {σ : L2.St} {i : Nat} {top : Int} {ns : List Int} {Q : V → Hp → Prop} {H2 : Hp} {a : Addr} (h : H2 a = some (.lst (iv ns))) (hn : ∀ y ∈ ns, y ≤ top) (hv : σ[i]? = some (some (V.int top))) (q : Q (.int (minFrom top ns)) H2) :
    tVar i σ H2 fun d H3 => ∃ (a' : Addr) (ns' : List Int), [V.ref a] = [V.ref a'] ∧ H3 a' = some (.lst (iv ns')) ∧ (ns' = [] → Q d H3) ∧ ∀ m : Int, m ∈ ns' → (∀ y ∈ ns', m ≤ y) → Q (.int m) H3 := by
  refine ⟨_, hv, a, ns, rfl, h, fun e => ?_, fun m h1 h2 => ?_⟩
  · rw [e] at q; exact q
  · rw [minFrom_of hn h1 h2]; exact q
theorem stOf {α : Type} (g : α → List Int) : Stays fun H v a => TI H v (g a) := ⟨fun e h => stTI.ext e h, fun hD h => stTI.put hD h⟩
theorem paired_of {α : Type} {H : Hp} {g : α → List Int} : ∀ {us : List V} {l : List α}, Paired (TI H) us (l.map g) ↔ Paired (fun v a => TI H v (g a)) us l
  | [], [] => ⟨fun _ => .nil, fun _ => .nil⟩
  | [], _ :: _ => ⟨fun h => by have := paired_len h; simp at this, fun h => by have := paired_len h; simp at this⟩
  | _ :: _, [] => ⟨fun h => by have := paired_len h; simp at this, fun h => by have := paired_len h; simp at this⟩
  | _ :: _, _ :: _ => ⟨fun h => by
      cases h with
      | cons a b => exact .cons a (paired_of.mp b), fun h => by
      cases h with
      | cons a b => exact .cons a (paired_of.mpr b)⟩
theorem fmIfM {α β : Type} (c : α → Bool) (g : α → β) : ∀ l : List α, l.filterMap (fun x => if c x = true then some (g x) else none) = (l.filter c).map g
  | [] => rfl
  | x :: l => by
    rw [List.filterMap_cons, List.filter_cons]
    cases h : c x with
    | true => rw [if_pos rfl, if_pos rfl, List.map_cons, fmIfM c g l]
    | false => rw [if_neg (by decide), if_neg (by decide), fmIfM c g l]
section
variable {P : Program} {w : World} {K : PySem.W.Frag} {mg : Str → Option Value} {base : Heap} {Ps : List Addr}
theorem ok_next_moods {f : Addr} {fd : FuncData} (F : Fun K "next_moods" "next_moods" s_next_moods f fd) (B : Blt mg) (bmin : mg "min" = none) : FnOk P w K mg base CX0 1 f fd ["top", "ways", "table"] spNextMoods := by
  refine F.ok sc_next_moods (fun vs H Q E h => ?_) (fun cdv A outer s0 H vs Q E hr h => ?_)
  · obtain ⟨p, v, us, W, n, t, rfl, _⟩ := h
    rfl
  · obtain ⟨p, v, us, W, n, t, rfl, hp, ok, hn, hus, ⟨z, rfl, hz⟩, lt, bt, k⟩ := h
    refine ⟨_, (pss_cons (ps_set (i := 3) sc_next_moods.nd rfl (by first | exact Or.inl rfl | exact Or.inr rfl) (pe_callB call_lenT (by rfl) B.len PySem.boot_len (pa_cons (pv 2) pa_nil)))
      (pss_cons (ps_setLc (i := 7) (own := [("step", 4), ("size", 5), ("sign", 6)]) rfl sc_next_moods.nd rfl rfl (sw_true rfl rfl rfl (by decide +kernel)) (pi_list (pv 1)) (blkOk_by (N := ["top", "ways", "table", "place", "step", "size", "sign", "below", "mood", "least", "greatest"]) (sc := defScope s_next_moods) (by decide +kernel)) (fun _ _ _ _ _ => (pg_tupT (n := 3) rfl (pgs_cons (pg_name (i := 4) sc_next_moods.nd rfl (by first | exact Or.inl rfl | exact Or.inr rfl)) (pgs_cons (pg_name (i := 5) sc_next_moods.nd rfl (by first | exact Or.inl rfl | exact Or.inr rfl)) (pgs_cons (pg_name (i := 6) sc_next_moods.nd rfl (by first | exact Or.inl rfl | exact Or.inr rfl)) pgs_nil))))) (fun _ _ _ _ _ => (pts_one (pt_cmpR op_gt (pe_op op_mod (pe_op op_fdiv (pv 3) (pv 4)) (pv 5)) pe_int (nomark _)))) (fun _ _ _ _ _ => (pe_tup (pa_cons (pe_ix ix_tT (pv 2) (pe_op op_sub (pv 3) (pv 4)) (fun _ _ => rfl)) (pa_cons (pv 6) pa_nil)))))
      (pss_cons (ps_set (i := 9) sc_next_moods.nd rfl (by first | exact Or.inl rfl | exact Or.inr rfl) (pe_maxD rfl (by rfl) B.max (pe_lc (own := [("mood", 8), ("sign", 6)]) rfl sc_next_moods.nd (pi_list (pv 7)) (blkOk_by (N := ["top", "ways", "table", "place", "step", "size", "sign", "below", "mood", "least", "greatest"]) (sc := defScope s_next_moods) (by decide +kernel)) (fun _ _ _ _ _ => (pg_tupT (n := 2) rfl (pgs_cons (pg_name (i := 8) sc_next_moods.nd rfl (by first | exact Or.inl rfl | exact Or.inr rfl)) (pgs_cons (pg_name (i := 6) sc_next_moods.nd rfl (by first | exact Or.inl rfl | exact Or.inr rfl)) pgs_nil)))) (fun _ _ _ _ _ => (pts_one (pt_cmpR op_eq (pv 6) pe_int (nomark _)))) (fun _ _ _ _ _ => (pv 8))) pe_int))
      (pss_cons (ps_set (i := 10) sc_next_moods.nd rfl (by first | exact Or.inl rfl | exact Or.inr rfl) (pe_minD rfl (by rfl) bmin (pe_lc (own := [("mood", 8), ("sign", 6)]) rfl sc_next_moods.nd (pi_list (pv 7)) (blkOk_by (N := ["top", "ways", "table", "place", "step", "size", "sign", "below", "mood", "least", "greatest"]) (sc := defScope s_next_moods) (by decide +kernel)) (fun _ _ _ _ _ => (pg_tupT (n := 2) rfl (pgs_cons (pg_name (i := 8) sc_next_moods.nd rfl (by first | exact Or.inl rfl | exact Or.inr rfl)) (pgs_cons (pg_name (i := 6) sc_next_moods.nd rfl (by first | exact Or.inl rfl | exact Or.inr rfl)) pgs_nil)))) (fun _ _ _ _ _ => (pts_one (pt_cmpR op_eq (pv 6) (pe_un un_neg pe_int) (nomark _)))) (fun _ _ _ _ _ => (pv 8))) (pv 0)))
      (pss_one (ps_ret (pe_listRg rfl (by rfl) B.list (prg_2 (by rfl) B.range (pv 9) (pe_op op_add (pv 10) pe_int))))))))), ?_⟩
    refine ⟨_, rfl, _, _, rfl, .inr hz, ?_⟩
    rw [iv_len]
    have wl : us.length ≤ 4 := by
      rw [paired_len hus, List.length_map]
      unfold waysN
      rw [List.length_map, List.length_range]
      exact looks_len ok n
    refine ⟨_, rfl, p, rfl, ⟨_, SqL.of hp⟩, fun D hD => ?_⟩
    refine lc_fmL (R := fun H v a => TI H v (wRow a)) (S := fun H v a => TI H v (row2 a)) (stOf wRow) (stOf row2) (fun w => if (decide (0 < t.length / w.1 % w.2.1)) = true then some (t.getD (t.length - w.1) 0, w.2.2) else none) hD hp (paired_of.mp hus) (Nat.le_of_lt (small1000 (by omega))) (fun x w_ H1 Ky Kn e1 hmem hx k1 k2 => ?_) fun H1 acc e1 hacc hpa => ?_
    · obtain ⟨y, rfl, hy⟩ := hx
      obtain ⟨w1, w2, w3, r, wr⟩ := way_ok ok hmem
      have b1 : (w_.1 : Int) < 1073741824 ∧ (w_.2.1 : Int) < 1073741824 := by
        have h1 := rowsAt_len ok n
        have r0 : 0 < r := by
          rcases Nat.eq_zero_or_pos r with h | h
          · rw [h, Nat.mul_zero] at wr; omega
          · exact h
        have h2 : w_.1 * w_.2.1 ≤ 256 := by
          have := Nat.le_mul_of_pos_right (w_.1 * w_.2.1) r0
          omega
        have h3 : w_.1 ≤ w_.1 * w_.2.1 := Nat.le_mul_of_pos_right _ w2
        have h4 : w_.2.1 ≤ w_.1 * w_.2.1 := Nat.le_mul_of_pos_left _ w1
        omega
      have ed : decide ((0 : Int) < (t.length : Int) / (w_.1 : Int) % (w_.2.1 : Int)) = decide (0 < t.length / w_.1 % w_.2.1) := by
        refine decide_eq_decide.mpr ?_
        have e1 : (t.length : Int) / (w_.1 : Int) % (w_.2.1 : Int) = ((t.length / w_.1 % w_.2.1 : Nat) : Int) := by norm_cast
        rw [e1]
        omega
      refine ⟨y, _, rfl, hy, rfl, _, _, rfl, _, _, rfl, _, _, rfl, rfl, rfl, ?_⟩
      refine ⟨_, rfl, _, rfl, _, _, rfl, rfl, ⟨by omega, b1.1⟩, _, rfl, _, _, rfl, rfl, by omega, _, _, rfl, rfl, _, rfl, ?_⟩
      rw [ed]
      refine ite_of (fun hc => ?_) fun hc => ?_
      · have hle := way_le (of_decide_eq_true hc)
        refine ⟨_, rfl, _, rfl, _, rfl, _, _, rfl, rfl, z, _, _, _, rfl, rfl, e1.tup hz, at_of (j := t.length - w_.1) (by omega) (iv_at (getD_get (by omega))), _, rfl, by show 2 ≤ sizeLine; decide, fun u hu => ?_⟩
        exact k1 _ _ _ (if_pos hc) (Ext.new hu _) ⟨u, rfl, upd_same⟩
      · exact k2 _ (if_neg (by rw [hc]; simp)) (Ext.refl _)
    rw [fmIfM] at hpa
    have hbelow : Paired (fun v a => TI H1 v (row2 a)) acc (belowN W n t) := hpa
    have al : acc.length ≤ 4 := by
      rw [paired_len hbelow]
      unfold belowN
      rw [List.length_map]
      refine Nat.le_trans (List.length_filter_le _ _) ?_
      rw [← List.length_map (f := wRow), ← paired_len hus]
      exact wl
    have bb : ∀ p ∈ belowN W n t, 0 ≤ p.1 ∧ p.1 ≤ topAt W n := by
      intro q hq
      unfold belowN at hq
      obtain ⟨w_, hw, rfl⟩ := List.mem_map.mp hq
      obtain ⟨hw1, hw2⟩ := List.mem_filter.mp hw
      have hle := way_le (of_decide_eq_true hw2)
      have := (way_ok ok hw1).1
      exact bt _ (List.mem_of_getElem? (getD_get (i := t.length - w_.1) (by omega)))
    have tk := topAt_ok ok hn.1 hn.2
    have least : ∀ y ∈ ((belowN W n t).filter fun p => p.2 == 1).map (·.1), 0 ≤ y := by
      intro y hy
      obtain ⟨q, hq, rfl⟩ := List.mem_map.mp hy
      exact (bb q (List.mem_filter.mp hq).1).1
    have great : ∀ y ∈ ((belowN W n t).filter fun p => p.2 == -1).map (·.1), y ≤ topAt W n := by
      intro y hy
      obtain ⟨q, hq, rfl⟩ := List.mem_map.mp hy
      exact (bb q (List.mem_filter.mp hq).1).2
    have hi3 : highN W n t ≤ 3 := by
      have := ((le_minFrom (((belowN W n t).filter fun p => p.2 == -1).map (·.1)) (topAt W n) (highN W n t)).mp (Int.le_refl _)).1
      omega
    have hi0 : 0 ≤ highN W n t := by
      refine (le_minFrom _ (topAt W n) 0).mpr ⟨by omega, fun y hy => ?_⟩
      obtain ⟨q, hq, rfl⟩ := List.mem_map.mp hy
      exact (bb q (List.mem_filter.mp hq).1).1
    have lo0 : 0 ≤ lowN W n t := ((maxFrom_le (((belowN W n t).filter fun p => p.2 == 1).map (·.1)) 0 (lowN W n t)).mp (Int.le_refl _)).1
    have lo3 : lowN W n t ≤ 3 := by
      refine (maxFrom_le _ 0 3).mpr ⟨by omega, fun y hy => ?_⟩
      obtain ⟨q, hq, rfl⟩ := List.mem_map.mp hy
      have := (bb q (List.mem_filter.mp hq).1).2
      omega
    have ending : ∀ H4 : Hp, Ext H H4 → ∀ q, H4 q = none → Q (.ref q) (upd H4 q (.lst (rgV (lowN W n t) (highN W n t + 1)))) := fun H4 e4 q hq => by
      refine k _ q (e4.trans (Ext.new hq _)) (e4.free hq) ?_
      rw [upd_same, rgV_nums]
    refine ⟨_, rfl, D, rfl, ⟨_, SqL.of hacc⟩, fun D2 hD2 => ?_⟩
    refine lc_fmL (R := fun H v a => TI H v (row2 a)) (S := VI) (stOf row2) stVI (fun q => if (q.2 == 1) = true then some q.1 else none) hD2 hacc hbelow (Nat.le_of_lt (small1000 (by omega))) (fun x q H2 Ky Kn e2 hmem hx k1 k2 => ?_) fun H2 acc2 e2 hacc2 hp2 => ?_
    · obtain ⟨y, rfl, hy⟩ := hx
      refine ⟨y, _, rfl, hy, rfl, _, _, rfl, _, _, rfl, rfl, rfl, ?_⟩
      refine ⟨_, rfl, rfl, _, rfl, ?_⟩
      rw [dec_int]
      refine ite_of (fun hc => ?_) fun hc => ?_
      · exact ⟨_, rfl, k1 _ _ _ (if_pos hc) (Ext.refl _) rfl⟩
      · exact k2 _ (if_neg (by rw [hc]; simp)) (Ext.refl _)
    rw [fmIfM] at hp2
    have ea := pVI hp2
    subst ea
    have E2 := e1.trans e2
    refine bestMax hacc2 least ?_
    show gName 9 (.int (lowN W n t)) _ _ _
    refine ⟨_, rfl, D, rfl, ⟨_, SqL.of (e2.lst hacc)⟩, fun D3 hD3 => ?_⟩
    have hb2 : Paired (fun v a => TI H2 v (row2 a)) acc (belowN W n t) := paired_mono (fun _ _ r => r.ext e2) hbelow
    refine lc_fmL (R := fun H v a => TI H v (row2 a)) (S := VI) (stOf row2) stVI (fun q => if (q.2 == -1) = true then some q.1 else none) hD3 (e2.lst hacc) hb2 (Nat.le_of_lt (small1000 (by omega))) (fun x q H3 Ky Kn e3 hmem hx k1 k2 => ?_) fun H3 acc3 e3 hacc3 hp3 => ?_
    · obtain ⟨y, rfl, hy⟩ := hx
      refine ⟨y, _, rfl, hy, rfl, _, _, rfl, _, _, rfl, rfl, rfl, ?_⟩
      refine ⟨_, rfl, _, rfl, rfl, _, rfl, ?_⟩
      rw [dec_int]
      refine ite_of (fun hc => ?_) fun hc => ?_
      · exact ⟨_, rfl, k1 _ _ _ (if_pos hc) (Ext.refl _) rfl⟩
      · exact k2 _ (if_neg (by rw [hc]; simp)) (Ext.refl _)
    rw [fmIfM] at hp3
    have ea := pVI hp3
    subst ea
    refine bestMin hacc3 great rfl ?_
    show gName 10 (.int (highN W n t)) _ _ _
    refine ⟨_, rfl, _, rfl, _, _, rfl, rfl, _, _, rfl, rfl, ?_⟩
    exact ⟨RgOk.of_le lo0 (by omega) (by omega) (by omega), ending H3 (E2.trans e3)⟩
end
end Lk


/-! ## D91 -/
set_option Elab.async false
set_option linter.all false
set_option maxRecDepth 100000
set_option maxHeartbeats 2000000
namespace Lk
open PySem PySem.Spec PyProof.Rows L2 Gx
open GxR (TabG Tabbed TabB)
variable [Own]
/-- a list to go over within a comprehension -/
theorem pi_listK {X : Cx} {K : PySem.W.Frag} {tg e : Expr} {t : TE} (hk : X.K = K) (he : PE X e t) : PI X tg e (iList K t) := by
  subst hk
  exact pi_list he
/-- the written numbers of counts -/
structure NumsC (mg : Str → Option Value) : Prop where
  MOST_TABLES : Num mg "MOST_TABLES" 3000
  MOST_RULES : Num mg "MOST_RULES" 20000
abbrev s_all_tables : Stmt := top 27
theorem sc_all_tables : FnScope ["web", "folk", "tops", "_", "ways", "found", "table", "mood"] ["web", "folk"] (defScope s_all_tables) := ⟨rfl, rfl, rfl, by decide +kernel, rfl, by decide +kernel, by decide +kernel⟩
abbrev s_tables_of_all : Stmt := top 28
theorem sc_tables_of_all : FnScope ["web", "tops", "_", "folk"] ["web"] (defScope s_tables_of_all) := ⟨rfl, rfl, rfl, by decide +kernel, rfl, by decide +kernel, by decide +kernel⟩
abbrev s_many_choices : Stmt := top 29
theorem sc_many_choices : FnScope ["choices", "many", "choice"] ["choices"] (defScope s_many_choices) := ⟨rfl, rfl, rfl, by decide +kernel, rfl, by decide +kernel, by decide +kernel⟩
def spAllTables : Sp := fun vs H Q _ => ∃ (v : V) (W : Web) (f : Int), vs = [v, .int f] ∧ WebAt H v W ∧ W.Ok ∧ (0 ≤ f ∧ f < W.tops.length) ∧ (tablesOf W f).length ≤ 3000 ∧ ∀ H' q, Ext H H' → TT2 H' (.ref q) (tablesOf W f) → Q (.ref q) H'
theorem cat_long {H : Hp} {z u : Addr} {row : List Int} {n : Int} {Q : VK} (hz : H z = some (.tup (iv row))) (hu : H u = none) (hl : row.length ≤ 10000) (k : ∀ H7 y, Ext H H7 → TI H7 y (row ++ [n]) → Q y H7) :
    rCatT (.ref z) (.ref u) (upd H u (.tup [.int n])) Q := by
  have hzu : z ≠ u := ne_of_none hz hu
  refine ⟨z, u, iv row, _, rfl, rfl, by rw [upd_ne hzu]; exact hz, upd_same, by rw [iv_len]; show row.length + 1 ≤ sizeLine; exact Nat.le_trans (show row.length + 1 ≤ 10001 by omega) (by decide), fun e0 => ?_, (fun _ e0 => by cases e0), fun e0 _ v hv => ?_⟩
  · refine k _ _ (Ext.new hu _) ⟨u, rfl, ?_⟩
    have r0 : row = [] := by
      cases row with
      | nil => rfl
      | cons a b => cases e0
    rw [upd_same, r0]
    rfl
  · refine k _ _ ((Ext.new hu _).trans (Ext.new hv _)) ⟨v, rfl, ?_⟩
    rw [upd_same]
    show some (HO.tup (iv row ++ [V.int n])) = _
    unfold iv
    rw [List.map_append]
    rfl
theorem rows_many {W : Web} (ok : W.Ok) (f : Int) : manyRows W f = ((rowsAt W f).length : Int) := by rw [many_eq ok, rowsAt_rws, rws_len, pr_prod]
theorem lowN_ge (W : Web) (f : Int) (t : List Int) : 0 ≤ lowN W f t := ((maxFrom_le (((belowN W f t).filter fun p => p.2 == 1).map (·.1)) 0 (lowN W f t)).mp (Int.le_refl _)).1
theorem highN_le (W : Web) (f : Int) (t : List Int) : highN W f t ≤ topAt W f := ((le_minFrom (((belowN W f t).filter fun p => p.2 == -1).map (·.1)) (topAt W f) (highN W f t)).mp (Int.le_refl _)).1
theorem grown_bd {W : Web} {f : Int} {k : Nat} {t : List Int} (h : t ∈ grow (lowN W f) (highN W f) k) : t.length = k ∧ ∀ m ∈ t, 0 ≤ m ∧ m ≤ topAt W f := by
  obtain ⟨h1, h2⟩ := (grow_mem k).mp h
  refine ⟨h1, fun m hm => ?_⟩
  obtain ⟨i, hi, rfl⟩ := List.mem_iff_getElem.mp hm
  have e : t.getD i 0 = t[i] := by rw [List.getD_eq_getElem?_getD, List.getElem?_eq_getElem hi]; rfl
  have h3 := h2 i (by omega)
  have h4 := lowN_ge W f (t.take i)
  have h5 := highN_le W f (t.take i)
  omega
theorem stTT2 : Stays TT2 := ⟨fun e h => h.ext e, fun {H D acc o v a} hD h => by
  obtain ⟨z, vs, rfl, hz, hv⟩ := h
  exact ⟨z, vs, rfl, by rw [upd_ne (ne_of hD hz (by intro q; cases q)).symm]; exact hz, paired_mono (fun v a h => stTI.put hD h) hv⟩⟩
def spTablesOfAll : Sp := fun vs H Q _ => ∃ (v : V) (W : Web), vs = [v] ∧ WebAt H v W ∧ W.Ok ∧ (∀ f : Int, 0 ≤ f → f < W.tops.length → (tablesOf W f).length ≤ 3000) ∧ ∀ H' p us, Ext H H' → H' p = some (.lst us) → Paired (TT2 H') us ((nums 0 W.tops.length).map (tablesOf W)) → Q (.ref p) H'
/-- the product of the lengths -/
def lensOf {α : Type} (cs : List (List α)) : Nat := cs.foldl (fun m c => m * c.length) 1
def spManyChoices : Sp := fun vs H Q _ => ∃ (p : Addr) (us : List V) (cs : List (List (List Int))), vs = [.ref p] ∧ H p = some (.lst us) ∧ Paired (TT2 H) us cs ∧ (∀ c ∈ cs, c.length ≤ 1000000) ∧ Q (.int ((lensOf cs : Nat) : Int)) H
section
variable {P : Program} {w : World} {K : PySem.W.Frag} {mg : Str → Option Value} {base : Heap} {Ps : List Addr}
theorem ok_all_tables {f : Addr} {fd : FuncData} (F : Fun K "all_tables" "all_tables" s_all_tables f fd) (B : Blt mg) (M : NumsC mg)
    (c_ways_of : Cal P w K mg base CX0 2 "ways_of" ["web", "folk"] spWaysOf) (c_many_rows : Cal P w K mg base CX0 2 "many_rows" ["web", "folk"] spManyRows) (c_next_moods : Cal P w K mg base CX0 1 "next_moods" ["top", "ways", "table"] spNextMoods) : FnOk P w K mg base CX0 3 f fd ["web", "folk"] spAllTables := by
  refine F.ok sc_all_tables (fun vs H Q E h => ?_) (fun cdv A outer s0 H vs Q E hr h => ?_)
  · obtain ⟨v, W, n, rfl, _⟩ := h
    rfl
  · obtain ⟨v, W, n, rfl, hW, ok, hn, hfew, k⟩ := h
    obtain ⟨a, t, l, rfl, ha, ⟨b, rfl, hb⟩, hl⟩ := id hW
    refine ⟨_, (pss_cons (ps_asg (pv 0) (pg_tupT (n := 2) rfl (pgs_cons (pg_name (i := 2) sc_all_tables.nd rfl (by first | exact Or.inl rfl | exact Or.inr rfl)) (pgs_cons (pg_name (i := 3) sc_all_tables.nd rfl (by first | exact Or.inl rfl | exact Or.inr rfl)) pgs_nil))))
      (pss_cons (ps_set (i := 4) sc_all_tables.nd rfl (by first | exact Or.inl rfl | exact Or.inr rfl) (pe_c0 c_ways_of (hr.mono (by decide)) (by rfl) (pa_cons (pv 0) (pa_cons (pv 1) pa_nil))))
      (pss_cons (ps_set (i := 5) sc_all_tables.nd rfl (by first | exact Or.inl rfl | exact Or.inr rfl) (pe_lst (pa_cons (pe_tup pa_nil) pa_nil)))
      (pss_cons (ps_for PassesOwn.never rfl (pi_range1 (by rfl) B.range (pa_cons (pe_c0 c_many_rows (hr.mono (by decide)) (by rfl) (pa_cons (pv 0) (pa_cons (pv 1) pa_nil))) pa_nil)) (pg_name (i := 3) sc_all_tables.nd rfl (by first | exact Or.inl rfl | exact Or.inr rfl))
        (pss_cons (ps_setLc2 (i := 5) (own := [("table", 6), ("mood", 7)]) (vs1 := [7]) rfl sc_all_tables.nd rfl rfl (sw_true rfl rfl rfl (by decide +kernel)) (pi_list (pv 5)) (blkOk_by (N := ["web", "folk", "tops", "_", "ways", "found", "table", "mood"]) (sc := defScope s_all_tables) (by decide +kernel)) (by decide) (fun _ _ _ _ _ => (pg_name (i := 6) sc_all_tables.nd rfl (by first | exact Or.inl rfl | exact Or.inr rfl))) (fun _ _ _ _ _ => pts_nil) (fun _ _ _ _ _ => (pi_listK (K := K) rfl (pe_c0 c_next_moods (hr.mono (by decide)) (by rfl) (pa_cons (pe_ix ix_tT (pv 2) (pv 1) (fun _ _ => rfl)) (pa_cons (pv 4) (pa_cons (pv 6) pa_nil)))))) (fun _ _ _ _ _ => (pg_name (i := 7) sc_all_tables.nd rfl (by first | exact Or.inl rfl | exact Or.inr rfl))) (fun _ _ _ _ _ => pts_nil) (fun _ _ _ _ _ => (pe_op op_catTT (pv 6) (pe_tup (pa_cons (pv 7) pa_nil)))))
        (pss_one (ps_if (pt_cmpR op_gt (pe_callB call_lenT (by rfl) B.len PySem.boot_len (pa_cons (pv 5) pa_nil)) (pe_num M.MOST_TABLES (by rfl)) (nomark _))
          (pss_one ps_never) pss_nil))))
      (pss_one (ps_ret (pe_tupleL (by rfl) B.tuple (pv 5)))))))), ?_⟩
    refine ⟨_, rfl, a, _, rfl, ha, rfl, _, _, rfl, _, _, rfl, rfl, ?_⟩
    refine ⟨_, rfl, _, rfl, _, W, n, rfl, hW, ok, fun H1 p us E1 hp0 hp hus => ?_⟩
    rw [ways_rows ok] at hus
    have tk := topAt_ok ok hn.1 hn.2
    have more : ∀ j, j ≤ (rowsAt W n).length → (grow (lowN W n) (highN W n) j).length ≤ 3000 := fun j hj => by
      refine Nat.le_trans (below_more ok (by omega) hj) ?_
      rw [tables_below ok]
      exact hfew
    have r256 := (rowsAt_len ok n).2
    refine ⟨(by show 0 ≤ sizeLine; decide), fun q0 hq0 => ⟨(by show 1 ≤ sizeLine; decide), fun L0 hL0 => ?_⟩⟩
    have hLq : L0 ≠ q0 := fun z => by rw [z, upd_same] at hL0; cases hL0
    have EL : Ext H1 (upd (upd H1 q0 (.tup [])) L0 (.lst [.ref q0])) := (Ext.new hq0 _).trans (Ext.new hL0 _)
    refine ⟨_, rfl, _, rfl, _, W, n, rfl, hW.ext (E1.trans EL), ok, fun H2 E2 => ?_⟩
    rw [rows_many ok]
    refine ⟨_, rfl, by omega, by omega, ?_⟩
    rw [Int.toNat_natCast]
    have E02 := EL.trans E2
    refine for_range (lo := 0) (n := (rowsAt W n).length) (fun i σ H' => ∃ (L : Addr) (fv : List V) (o3 o6 o7 : Option V), σ = [some (.ref a), some (.int n), some (.ref b), o3, some (.ref p), some (.ref L), o6, o7] ∧ Ext H1 H' ∧ H' L = some (.lst fv) ∧ Paired (TI H') fv (grow (lowN W n) (highN W n) i))
      ⟨L0, _, _, _, _, rfl, E02, E2.lst upd_same, .cons ⟨q0, rfl, E2.tup (by rw [upd_ne hLq.symm]; exact upd_same)⟩ .nil⟩ ?_ ?_
    · rintro i σ H3 hi ⟨L, fv, o3, o6, o7, rfl, E3, hL, hfv⟩
      have lf := paired_len hfv
      have m0 := more i (by omega)
      have m1 := more (i + 1) (by omega)
      refine ⟨_, rfl, L, rfl, ⟨_, SqL.of hL⟩, fun D hD => ?_⟩
      refine lc2_out (walk_list (K := K) (a := L) (xs := fv)) (fun j H4 => ∃ acc, H4 D = some (.lst acc) ∧ Ext H3 H4 ∧ Paired (TI H4) acc (((grow (lowN W n) (highN W n) i).take j).flatMap fun t => (nums (lowN W n t) (highN W n t + 1)).map fun m => t ++ [m])) ⟨[], upd_same, Ext.new hD _, .nil⟩ (fun j H4 _ ⟨_, _, e4, _⟩ => SqL.of (e4.lst hL)) (fun j x H4 H5 hj ⟨acc, hacc, e4, hp4⟩ y => ?_) fun H4 ⟨acc, hacc, e4, hp4⟩ => ?_
      · obtain ⟨rfl, hx⟩ := y
        obtain ⟨tb, htb, z, rfl, hz⟩ := paired_get' (pTI.ext e4 hfv) hx
        obtain ⟨tl, tbd⟩ := grown_bd (List.mem_of_getElem? htb)
        have E4 := E3.trans e4
        refine ⟨rfl, yes ?_⟩
        refine ⟨_, rfl, _, rfl, b, _, _, _, rfl, rfl, (E1.trans E4).tup hb, at_of (j := n.toNat) (by omega) (iv_at (topAt_get hn.1 hn.2)), _, rfl, _, rfl, p, _, us, W, n, tb, rfl, E4.lst hp, ok, hn, pTI.ext E4 hus, ⟨z, rfl, hz⟩, by omega, tbd, fun H6 q e6 hq0 hq => ?_⟩
        refine ⟨q, rfl, ⟨_, SqL.of hq⟩, ?_⟩
        have part : ∀ c, (((grow (lowN W n) (highN W n) i).take j).flatMap fun t => (nums (lowN W n t) (highN W n t + 1)).map fun m => t ++ [m]).length + (((nums (lowN W n tb) (highN W n tb + 1)).take c).map fun m => tb ++ [m]).length ≤ 3000 := fun c => by
          have h1 : (((grow (lowN W n) (highN W n) i).take (j + 1)).flatMap fun t => (nums (lowN W n t) (highN W n t + 1)).map fun m => t ++ [m]).length ≤ (grow (lowN W n) (highN W n) (i + 1)).length := flatMap_take_le _ _ _
          rw [flatMap_take htb, List.length_append, List.length_map] at h1
          rw [List.length_map, List.length_take]
          omega
        have hD6 := e6.lst hacc
        have EH6 := e4.trans e6
        refine lc2_in (walk_list (K := K) (a := q) (xs := iv (nums (lowN W n tb) (highN W n tb + 1)))) (fun c H7 => ∃ acc2, H7 D = some (.lst acc2) ∧ H7 q = some (.lst (iv (nums (lowN W n tb) (highN W n tb + 1)))) ∧ H7 z = some (.tup (iv tb)) ∧ Ext H3 H7 ∧ Paired (TI H7) acc2 ((((grow (lowN W n) (highN W n) i).take j).flatMap fun t => (nums (lowN W n t) (highN W n t + 1)).map fun m => t ++ [m]) ++ ((nums (lowN W n tb) (highN W n tb + 1)).take c).map fun m => tb ++ [m])) ⟨acc, hD6, hq, e6.tup hz, EH6, by simpa using pTI.ext e6 hp4⟩ (fun c H7 _ ⟨_, _, h, _⟩ => SqL.of h) (fun c x H7 H8 hc ⟨acc2, hacc2, hq7, hz7, e7, hp7⟩ y => ?_) fun H7 ⟨acc2, hacc2, hq7, hz7, e7, hp7⟩ => ?_
        · obtain ⟨rfl, hx7⟩ := y
          obtain ⟨m, hm, rfl⟩ := iv_get hx7
          refine ⟨rfl, yes ?_⟩
          refine ⟨_, rfl, _, rfl, (by show 1 ≤ sizeLine; decide), fun u hu => ?_⟩
          refine cat_long hz7 hu (by omega) fun H9 y e9 hy => ?_
          have h9 := e9.lst hacc2
          have la := part c
          rw [← List.length_append, ← paired_len hp7] at la
          have hqD : q ≠ D := fun e => by rw [e, hacc] at hq0; cases hq0
          refine ⟨acc2, h9, Nat.lt_of_le_of_lt (show acc2.length ≤ 3000 by omega) (by decide), acc2 ++ [y], upd_same, ?_, ?_, (e7.trans e9).put hD _, ?_⟩
          · rw [upd_ne hqD]
            exact e9.lst hq7
          · rw [upd_ne (ne_of h9 (e9.tup hz7) (by intro q; cases q)).symm]
            exact e9.tup hz7
          · rw [take_snoc hm, List.map_append, ← List.append_assoc]
            exact paired_snoc (stTI.put h9 hy) (paired_mono (fun v a h => stTI.put h9 (h.ext e9)) hp7)
        · rw [iv_len, List.take_length] at hp7
          refine ⟨acc2, hacc2, e7, ?_⟩
          rw [flatMap_take htb]
          exact hp7
      · rw [lf, List.take_length] at hp4
        have la : acc.length ≤ 3000 := by
          rw [paired_len hp4]
          exact m1
        refine ⟨_, rfl, _, _, rfl, .inl hacc, _, _, rfl, rfl, _, rfl, ?_⟩
        rw [decide_eq_false (by omega)]
        refine iteF ?_
        exact ⟨D, acc, _, _, _, rfl, E3.trans e4, hacc, hp4⟩
    · rintro σ H3 ⟨L, fv, o3, o6, o7, rfl, E3, hL, hfv⟩
      rw [tables_below ok] at hfv
      refine ⟨_, rfl, L, _, rfl, hL, fun q hq => ?_⟩
      exact k _ q ((E1.trans E3).trans (Ext.new hq _)) ⟨q, fv, rfl, upd_same, pTI.ext (Ext.new hq _) hfv⟩
theorem ok_tables_of_all {f : Addr} {fd : FuncData} (F : Fun K "tables_of_all" "tables_of_all" s_tables_of_all f fd) (B : Blt mg)
    (c_all_tables : Cal P w K mg base CX0 3 "all_tables" ["web", "folk"] spAllTables) : FnOk P w K mg base CX0 4 f fd ["web"] spTablesOfAll := by
  refine F.ok sc_tables_of_all (fun vs H Q E h => ?_) (fun cdv A outer s0 H vs Q E hr h => ?_)
  · obtain ⟨v, W, rfl, _⟩ := h
    rfl
  · obtain ⟨v, W, rfl, hW, ok, hfew, k⟩ := h
    obtain ⟨a, t, l, rfl, ha, ⟨b, rfl, hb⟩, hl⟩ := id hW
    refine ⟨_, (pss_cons (ps_asg (pv 0) (pg_tupT (n := 2) rfl (pgs_cons (pg_name (i := 1) sc_tables_of_all.nd rfl (by first | exact Or.inl rfl | exact Or.inr rfl)) (pgs_cons (pg_name (i := 2) sc_tables_of_all.nd rfl (by first | exact Or.inl rfl | exact Or.inr rfl)) pgs_nil))))
      (pss_one (ps_ret (pe_lc (own := [("folk", 3)]) rfl sc_tables_of_all.nd (pi_range1 (by rfl) B.range (pa_cons (pe_callB call_lenT (by rfl) B.len PySem.boot_len (pa_cons (pv 1) pa_nil)) pa_nil)) (blkOk_by (N := ["web", "tops", "_", "folk"]) (sc := defScope s_tables_of_all) (by decide +kernel)) (fun _ _ _ _ _ => (pg_name (i := 3) sc_tables_of_all.nd rfl (by first | exact Or.inl rfl | exact Or.inr rfl))) (fun _ _ _ _ _ => pts_nil) (fun _ _ _ _ _ => (pe_c0 c_all_tables (hr.mono (by decide)) (by rfl) (pa_cons (pv 0) (pa_cons (pv 3) pa_nil)))))))), ?_⟩
    have l6 := ok.few
    refine ⟨_, rfl, a, _, rfl, ha, rfl, _, _, rfl, _, _, rfl, rfl, ?_⟩
    refine ⟨_, rfl, _, _, rfl, .inr hb, _, rfl, by omega, by rw [iv_len]; omega, fun D hD => ?_⟩
    have en : ((iv W.tops).length : Int).toNat = W.tops.length := by rw [iv_len]; omega
    rw [en]
    refine lc_fmR (lo := 0) (n := W.tops.length) (S := TT2) stTT2 (fun m => some (tablesOf W m)) hD (Nat.le_of_lt (small1000 (by omega))) (fun m H' Ky Kn e h1 h2 k1 k2 => ?_) fun H' acc e hacc hp => ?_
    · refine ⟨rfl, yes ⟨_, rfl, _, rfl, _, W, m, rfl, hW.ext e, ok, ⟨h1, by omega⟩, hfew m h1 (by omega), fun H3 q e3 hq => ?_⟩⟩
      exact k1 _ _ _ rfl e3 hq
    · rw [List.filterMap_eq_map', Int.zero_add] at hp
      exact k H' D acc e hacc hp
theorem ok_many_choices {f : Addr} {fd : FuncData} (F : Fun K "many_choices" "many_choices" s_many_choices f fd) (B : Blt mg) : FnOk P w K mg base CX0 1 f fd ["choices"] spManyChoices := by
  refine F.ok sc_many_choices (fun vs H Q E h => ?_) (fun cdv A outer s0 H vs Q E hr h => ?_)
  · obtain ⟨p, us, cs, rfl, _⟩ := h
    rfl
  · obtain ⟨p, us, cs, rfl, hp, hus, hsm, k⟩ := h
    refine ⟨_, (pss_cons (ps_set (i := 1) sc_many_choices.nd rfl (by first | exact Or.inl rfl | exact Or.inr rfl) pe_int)
      (pss_cons (ps_for PassesOwn.never rfl (pi_list (pv 0)) (pg_name (i := 2) sc_many_choices.nd rfl (by first | exact Or.inl rfl | exact Or.inr rfl))
        (pss_one (ps_set (i := 1) sc_many_choices.nd rfl (by first | exact Or.inl rfl | exact Or.inr rfl) (pe_op op_mul (pv 1) (pe_callB call_lenT (by rfl) B.len PySem.boot_len (pa_cons (pv 2) pa_nil))))))
      (pss_one (ps_ret (pv 1))))), ?_⟩
    refine ⟨_, rfl, p, rfl, ⟨_, SqL.of hp⟩, for_list (K := K) (a := p) (xs := us) (fun i σ H' => ∃ (o2 : Option V), σ = [some (.ref p), some (.int ((lensOf (cs.take i) : Nat) : Int)), o2] ∧ H' = H) ⟨_, rfl, rfl⟩ (fun i σ H' _ ⟨_, _, e⟩ => by rw [e]; exact SqL.of hp) ?_ ?_⟩
    · rintro i x σ H' hi ⟨o2, rfl, rfl⟩
      obtain ⟨c, hc, z, vs, rfl, hz, hv⟩ := paired_get' hus hi
      have hb := hsm c (List.mem_of_getElem? hc)
      have lv := paired_len hv
      refine ⟨_, rfl, _, rfl, _, _, rfl, .inr hz, _, _, rfl, rfl, .inr ⟨by omega, by omega⟩, ?_⟩
      refine ⟨some (.ref z), ?_, rfl⟩
      have e : lensOf (cs.take (i + 1)) = lensOf (cs.take i) * c.length := by
        rw [take_snoc hc]
        unfold lensOf
        rw [List.foldl_append]
        rfl
      rw [e, Int.natCast_mul, ← lv]
      rfl
    · rintro σ H' ⟨o2, rfl, rfl⟩
      rw [paired_len hus, List.take_length]
      exact ⟨_, rfl, k⟩
end
end Lk


/-! ## ForW -/
set_option Elab.async false
set_option linter.all false
set_option maxRecDepth 100000
set_option maxHeartbeats 2000000
namespace Lk
open PySem PySem.Spec PyProof.Rows L2 Gx
variable [Own]
/-- a for over any walk -/
theorem for_walk {J : It} {n : Nat} {G : Hp → Prop} {Y : Nat → Hp → V → Hp → Prop} (w : Walk J n G Y) {g : TG} {tb : TS} {D : Ends} {σ : L2.St} {H : Hp} (Pv : Nat → L2.St → Hp → Prop) (h0 : Pv 0 σ H) (hG : ∀ i σ H, i ≤ n → Pv i σ H → G H)
    (hs : ∀ i x σ H H', i < n → Pv i σ H → Y i H x H' → g x σ H' fun σ2 H2 => tb { nx := Pv (i + 1), rt := D.rt, bk := D.nx, ct := Pv (i + 1) } σ2 H2) (hd : ∀ σ H, Pv n σ H → D.nx σ H) :
    ∃ W : Nat → Nat → L2.St → Hp → Prop, (∃ m, W 0 m σ H) ∧ ∀ i m σ H, W i m σ H → J.stop i H ∧ D.nx σ H ∨ J.go i H ∧
      ∃ N : L2.St → Hp → Prop, (∀ σ' H', N σ' H' → ∃ m', m' < m ∧ W (i + 1) m' σ' H') ∧ ∀ x H', J.yld i H x H' → g x σ H' fun σ2 H2 => tb { nx := N, rt := D.rt, bk := D.nx, ct := N } σ2 H2 := by
  refine ⟨fun i m σ H => m = n - i ∧ i ≤ n ∧ Pv i σ H, ⟨n, by simp, Nat.zero_le _, h0⟩, ?_⟩
  rintro i m σ H ⟨rfl, hi, p⟩
  have q := hG i σ H hi p
  by_cases hlt : i < n
  · exact .inr ⟨w.goes i H hlt q, Pv (i + 1), fun σ' H' p' => ⟨n - (i + 1), by omega, rfl, hlt, p'⟩, fun x H' y => hs i x σ H H' hlt p (w.yields i H x H' hlt q y)⟩
  · have e : i = n := by omega
    subst e
    exact .inl ⟨w.stops H q, hd σ H p⟩
end Lk

/-! ## D92 -/
set_option Elab.async false
set_option linter.all false
set_option maxRecDepth 100000
set_option maxHeartbeats 2000000
namespace Lk
open PySem PySem.Spec PyProof.Rows L2 Gx
open GxR (TabG Tabbed TabB)
variable [Own]
abbrev s_settled_by_choices : Stmt := top 30
theorem sc_settled_by_choices : FnScope ["web", "choices", "tops", "_", "states", "found", "folk", "choice", "state", "places", "left", "table"] ["web", "choices"] (defScope s_settled_by_choices) := ⟨rfl, rfl, rfl, by decide +kernel, rfl, by decide +kernel, by decide +kernel⟩
/-- a tuple to go over within a comprehension -/
theorem pi_tupK {X : Cx} {K : PySem.W.Frag} {tg e : Expr} {t : TE} (hk : X.K = K) (he : PE X e t) : PI X tg e (iTup K t) := by
  subst hk
  exact pi_tup he
/-- the outer comprehension's names -/
def scO : Scope := { kind := .function, names := [(".0", .local), ("left", .local), ("table", .cell), ("choice", .cell), ("folk", .cell), ("places", .cell)], isGenerator := false, isCoroutine := false }
/-- a step: each left with each table, those told so -/
def stepC (W : Web) (f : Nat) (tbs : List (List Int)) (lefts : List (List (List Int))) : List (List (List Int)) := lefts.flatMap fun left => tbs.map fun tb => left.filter fun st => tb.getD (placeOf W st f).toNat 0 == stAt st f
def leftsOf (W : Web) (cs : List (List (List Int))) : Nat → List (List (List Int))
  | 0 => [rowsOf W.tops]
  | i + 1 => stepC W i (cs.getD i []) (leftsOf W cs i)
theorem flat_len {α β : Type} {l : List α} {g : α → List β} {m : Nat} (h : ∀ x ∈ l, (g x).length = m) : (l.flatMap g).length = l.length * m := by
  induction l with
  | nil => simp
  | cons x l ih => rw [List.flatMap_cons, List.length_append, h x (List.mem_cons_self ..), ih fun y hy => h y (List.mem_cons_of_mem _ hy), List.length_cons, Nat.add_mul, Nat.one_mul, Nat.add_comm]
theorem all_same {α : Type} {p q : α → Bool} : ∀ {l : List α}, (∀ a ∈ l, p a = q a) → l.all p = l.all q
  | [], _ => rfl
  | x :: l, h => by rw [List.all_cons, List.all_cons, h x (List.mem_cons_self ..), all_same fun a ha => h a (List.mem_cons_of_mem _ ha)]
theorem flat_same {α β : Type} {p q : α → List β} : ∀ {l : List α}, (∀ a ∈ l, p a = q a) → l.flatMap p = l.flatMap q
  | [], _ => rfl
  | x :: l, h => by rw [List.flatMap_cons, List.flatMap_cons, h x (List.mem_cons_self ..), flat_same fun a ha => h a (List.mem_cons_of_mem _ ha)]
theorem lens_snoc {α : Type} {cs : List (List α)} {i : Nat} {c : List α} (h : cs[i]? = some c) : lensOf (cs.take (i + 1)) = lensOf (cs.take i) * c.length := by
  rw [take_snoc h]
  unfold lensOf
  rw [List.foldl_append]
  rfl
theorem lefts_len (W : Web) (cs : List (List (List Int))) : ∀ i, i ≤ cs.length → (leftsOf W cs i).length = lensOf (cs.take i)
  | 0, _ => rfl
  | i + 1, h => by
    have hc : cs[i]? = some cs[i] := List.getElem?_eq_getElem (by omega)
    rw [lens_snoc hc, ← lefts_len W cs i (by omega)]
    show (stepC W i (cs.getD i []) (leftsOf W cs i)).length = _
    unfold stepC
    rw [flat_len (m := cs[i].length) fun l _ => by rw [List.length_map, List.getD_eq_getElem?_getD, hc] <;> rfl]
theorem lefts_sub (W : Web) (cs : List (List (List Int))) : ∀ i, ∀ left ∈ leftsOf W cs i, left.Sublist (rowsOf W.tops)
  | 0, left, h => by
    rw [List.mem_singleton.mp h]
    exact List.Sublist.refl _
  | i + 1, left, h => by
    obtain ⟨l0, h0, h⟩ := List.mem_flatMap.mp h
    obtain ⟨tb, _, rfl⟩ := List.mem_map.mp h
    exact (List.filter_sublist ..).trans (lefts_sub W cs i l0 h0)
/-- all rules of these tables -/
def rulesAll (cs : List (List (List Int))) : List (List (List Int)) := cs.foldl (fun found tbs => found.flatMap fun r => tbs.map fun t => r ++ [t]) [[]]
theorem rules_snoc {cs : List (List (List Int))} {i : Nat} {c : List (List Int)} (h : cs[i]? = some c) : rulesAll (cs.take (i + 1)) = (rulesAll (cs.take i)).flatMap fun r => c.map fun t => r ++ [t] := by
  rw [take_snoc h]
  unfold rulesAll
  rw [List.foldl_append]
  rfl
theorem rules_mem : ∀ {cs : List (List (List Int))} {i : Nat} {r : List (List Int)}, i ≤ cs.length → r ∈ rulesAll (cs.take i) → r.length = i ∧ ∀ j, j < i → r.getD j [] ∈ cs.getD j []
  | cs, 0, r, _, h => by
    rw [List.mem_singleton.mp h]
    exact ⟨rfl, fun j hj => by omega⟩
  | cs, i + 1, r, hi, h => by
    have hc : cs[i]? = some cs[i] := List.getElem?_eq_getElem (by omega)
    rw [rules_snoc hc] at h
    obtain ⟨r0, h0, h⟩ := List.mem_flatMap.mp h
    obtain ⟨t, ht, rfl⟩ := List.mem_map.mp h
    obtain ⟨l0, m0⟩ := rules_mem (by omega) h0
    refine ⟨by rw [List.length_append, l0]; rfl, fun j hj => ?_⟩
    rw [List.getD_eq_getElem?_getD (l := r0 ++ [t])]
    by_cases h2 : j < i
    · rw [List.getElem?_append_left (by omega)]
      have := m0 j h2
      rw [List.getD_eq_getElem?_getD (l := r0)] at this
      exact this
    · have e : j = i := by omega
      subst e
      rw [List.getElem?_append_right (by omega), l0, Nat.sub_self]
      show t ∈ cs.getD j []
      rw [List.getD_eq_getElem?_getD, hc]
      exact ht
theorem mem_rules : ∀ {cs : List (List (List Int))} {i : Nat} {r : List (List Int)}, i ≤ cs.length → r.length = i → (∀ j, j < i → r.getD j [] ∈ cs.getD j []) → r ∈ rulesAll (cs.take i)
  | cs, 0, r, _, h, _ => by
    rw [List.length_eq_zero_iff.mp h]
    exact List.mem_singleton.mpr rfl
  | cs, i + 1, r, hi, h, hm => by
    have hc : cs[i]? = some cs[i] := List.getElem?_eq_getElem (by omega)
    rw [rules_snoc hc]
    have hr : r[i]? = some r[i] := List.getElem?_eq_getElem (by omega)
    have er : r = r.take i ++ [r[i]] := by
      rw [← take_snoc hr, List.take_of_length_le (by omega)]
    refine List.mem_flatMap.mpr ⟨r.take i, mem_rules (by omega) (by rw [List.length_take]; omega) fun j hj => ?_, List.mem_map.mpr ⟨r[i], ?_, er.symm⟩⟩
    · rw [List.getD_eq_getElem?_getD (l := r.take i), List.getElem?_take_of_lt hj, ← List.getD_eq_getElem?_getD]
      exact hm j (by omega)
    · have := hm i (by omega)
      rw [List.getD_eq_getElem?_getD (l := r), hr, List.getD_eq_getElem?_getD (l := cs), hc] at this
      exact this
def selR (W : Web) (ru : List (List Int)) : List (List Int) := (rowsOf W.tops).filter fun st => (List.range ru.length).all fun f => (ru.getD f []).getD (placeOf W st (f : Int)).toNat 0 == stAt st (f : Int)
theorem sel_snoc (W : Web) (r : List (List Int)) (t : List Int) : selR W (r ++ [t]) = (selR W r).filter fun st => t.getD (placeOf W st (r.length : Int)).toNat 0 == stAt st (r.length : Int) := by
  unfold selR
  rw [List.filter_filter]
  refine List.filter_congr fun st _ => ?_
  rw [List.length_append, List.length_singleton, List.range_succ, List.all_append, Bool.and_comm]
  congr 1
  · show ((((r ++ [t]).getD r.length []).getD _ 0 == _) && true) = _
    rw [Bool.and_true, List.getD_eq_getElem?_getD (l := r ++ [t]), List.getElem?_append_right (by omega), Nat.sub_self]
    rfl
  · refine all_same fun f hf => ?_
    have hf := List.mem_range.mp hf
    rw [List.getD_eq_getElem?_getD (l := r ++ [t]), List.getElem?_append_left hf, ← List.getD_eq_getElem?_getD]
theorem lefts_rules (W : Web) (cs : List (List (List Int))) : ∀ i, i ≤ cs.length → leftsOf W cs i = (rulesAll (cs.take i)).map (selR W)
  | 0, _ => by
    show [rowsOf W.tops] = [selR W []]
    unfold selR
    exact congrArg (fun x => [x]) (List.filter_eq_self.mpr fun _ _ => rfl).symm
  | i + 1, h => by
    have hc : cs[i]? = some cs[i] := List.getElem?_eq_getElem (by omega)
    rw [rules_snoc hc, List.map_flatMap]
    show stepC W i (cs.getD i []) (leftsOf W cs i) = _
    rw [lefts_rules W cs i (by omega)]
    unfold stepC
    rw [List.flatMap_map]
    refine flat_same fun r hr => ?_
    have hl := (rules_mem (by omega) hr).1
    rw [List.map_map, List.getD_eq_getElem?_getD, hc]
    refine List.map_congr_left fun t _ => ?_
    show _ = selR W (r ++ [t])
    rw [sel_snoc, hl]
theorem sel_settled {W : Web} {ru : List (List Int)} (h : ru.length = W.tops.length) : selR W ru = settledStates W ru := by
  unfold selR settledStates
  refine List.filter_congr fun st hst => ?_
  have so := rows_st (W := W) hst
  rw [Bool.eq_iff_iff, List.all_eq_true, decide_eq_true_iff]
  constructor
  · intro ha
    unfold stateTold
    refine List.ext_getElem? fun j => ?_
    rw [List.getElem?_map]
    by_cases hj : j < st.length
    · rw [List.getElem?_range hj]
      have h1 := ha j (List.mem_range.mpr (by rw [h, ← so.len]; exact hj))
      have h2 := eq_of_beq h1
      show some (moodTold W ru st (j : Int)) = _
      have h3 := stAt_get (st := st) (i := (j : Int)) (by omega) (by omega)
      rw [Int.toNat_natCast] at h3
      rw [h3, ← h2]
      rfl
    · rw [List.getElem?_eq_none (l := List.range _) (by rw [List.length_range]; omega), List.getElem?_eq_none (by omega)]
      rfl
  · intro he f hf
    have hf := List.mem_range.mp hf
    have h1 := told_at (W := W) (ru := ru) (st := st) (f := (f : Int)) (by omega) (by rw [so.len, ← h]; omega)
    rw [he] at h1
    rw [h1]
    exact beq_self_eq_true _
theorem LT2.ext' {H H' : Hp} {v : V} {rows : List (List Int)} (e : Ext H H') (h : LT2 H v rows) : LT2 H' v rows := by
  obtain ⟨a, vs, q, h1, h2⟩ := h
  exact ⟨a, vs, q, e.lst h1, pTI.ext e h2⟩
theorem LT2.put {H : Hp} {D : Addr} {acc : List V} {o : HO} {v : V} {rows : List (List Int)} (hD : H D = some (.lst acc)) (hn : v ≠ .ref D) (h : LT2 H v rows) : LT2 (upd H D o) v rows := by
  obtain ⟨a, vs, rfl, h1, h2⟩ := h
  exact ⟨a, vs, rfl, by rw [upd_ne (fun e => hn (by rw [e]))]; exact h1, paired_mono (fun _ _ r => stTI.put hD r) h2⟩
theorem paired_memL {α β : Type} {R S : α → β → Prop} : ∀ {l : List α} {m : List β}, Paired R l m → (∀ a b, a ∈ l → R a b → S a b) → Paired S l m
  | _, _, .nil, _ => .nil
  | _, _, .cons r t, h => .cons (h _ _ (List.mem_cons_self ..) r) (paired_memL t fun a b ha => h a b (List.mem_cons_of_mem _ ha))
def spSettledByC : Sp := fun vs H Q _ => ∃ (v : V) (p : Addr) (us : List V) (W : Web) (cs : List (List (List Int))), vs = [v, .ref p] ∧ WebAt H v W ∧ W.Ok ∧ H p = some (.lst us) ∧ Paired (TT2 H) us cs ∧ cs.length = W.tops.length ∧
  (∀ (f : Nat) (tbs : List (List Int)), cs[f]? = some tbs → ∀ tb ∈ tbs, (tb.length : Int) = manyRows W f) ∧ (∀ i, lensOf (cs.take i) ≤ 20000) ∧
  ∀ H' q ls, Ext H H' → H' q = some (.lst ls) → Paired (LT2 H') ls (leftsOf W cs W.tops.length) → Q (.ref q) H'
section
variable {P : Program} {w : World} {K : PySem.W.Frag} {mg : Str → Option Value} {base : Heap} {Ps : List Addr}
theorem ok_settled_by_choices {f : Addr} {fd : FuncData} (F : Fun K "settled_by_choices" "settled_by_choices" s_settled_by_choices f fd) (B : Blt mg)
    (c_rows_of : Cal P w K mg base CX0 1 "rows_of" ["tops"] spRowsOf) (c_place_seen : Cal P w K mg base CX0 2 "place_seen" ["web", "state", "folk"] spPlaceSeen) : FnOk P w K mg base CX0 3 f fd ["web", "choices"] spSettledByC := by
  refine F.ok sc_settled_by_choices (fun vs H Q E h => ?_) (fun cdv A outer s0 H vs Q E hr h => ?_)
  · obtain ⟨v, p, us, W, cs, rfl, _⟩ := h
    rfl
  · obtain ⟨v, p, us, W, cs, rfl, hW, ok, hp, hus, lcs, htb, hsm, k⟩ := h
    obtain ⟨a, t, l, rfl, ha, ⟨b, rfl, hb⟩, hl⟩ := id hW
    refine ⟨_, (pss_cons (ps_asg (pv 0) (pg_tupT (n := 2) rfl (pgs_cons (pg_name (i := 2) sc_settled_by_choices.nd rfl (by first | exact Or.inl rfl | exact Or.inr rfl)) (pgs_cons (pg_name (i := 3) sc_settled_by_choices.nd rfl (by first | exact Or.inl rfl | exact Or.inr rfl)) pgs_nil))))
      (pss_cons (ps_set (i := 4) sc_settled_by_choices.nd rfl (by first | exact Or.inl rfl | exact Or.inr rfl) (pe_c0 c_rows_of (hr.mono (by decide)) (by rfl) (pa_cons (pv 2) pa_nil)))
      (pss_cons (ps_set (i := 5) sc_settled_by_choices.nd rfl (by first | exact Or.inl rfl | exact Or.inr rfl) (pe_lst (pa_cons (pv 4) pa_nil)))
      (pss_cons (ps_for PassesOwn.never rfl (pi_enum (by rfl) B.enum (pa_cons (pv 1) pa_nil)) (pg_tupT (n := 2) rfl (pgs_cons (pg_name (i := 6) sc_settled_by_choices.nd rfl (by first | exact Or.inl rfl | exact Or.inr rfl)) (pgs_cons (pg_name (i := 7) sc_settled_by_choices.nd rfl (by first | exact Or.inl rfl | exact Or.inr rfl)) pgs_nil)))
        (pss_cons (ps_set (i := 9) sc_settled_by_choices.nd rfl (by first | exact Or.inl rfl | exact Or.inr rfl) (pe_dct (own := [("state", 8)]) rfl (ud hr) sc_settled_by_choices.nd (pi_list (pv 4)) (blkOk_by (N := ["web", "choices", "tops", "_", "states", "found", "folk", "choice", "state", "places", "left", "table"]) (sc := defScope s_settled_by_choices) (by decide +kernel)) (fun _ _ _ _ _ => (pg_name (i := 8) sc_settled_by_choices.nd rfl (by first | exact Or.inl rfl | exact Or.inr rfl))) (fun _ _ _ _ _ => pts_nil) (fun _ _ _ _ _ => (pv 8)) (fun _ _ _ _ _ => (pe_c0 c_place_seen (hr.mono (by decide)) (by rfl) (pa_cons (pv 0) (pa_cons (pv 8) (pa_cons (pv 6) pa_nil)))))))
        (pss_one (ps_setLc2 (i := 5) (own := [("left", 10), ("table", 11)]) (vs1 := [11]) rfl sc_settled_by_choices.nd rfl rfl (sw_true rfl rfl rfl (by decide +kernel)) (pi_list (pv 5)) (blkOk_by (N := ["web", "choices", "tops", "_", "states", "found", "folk", "choice", "state", "places", "left", "table"]) (sc := defScope s_settled_by_choices) (by decide +kernel)) (by decide) (fun _ _ _ _ _ => (pg_name (i := 10) sc_settled_by_choices.nd rfl (by first | exact Or.inl rfl | exact Or.inr rfl))) (fun _ _ _ _ _ => pts_nil) (fun _ _ _ _ _ => (pi_tupK (K := K) rfl (pv 7))) (fun _ _ _ _ _ => (pg_name (i := 11) sc_settled_by_choices.nd rfl (by first | exact Or.inl rfl | exact Or.inr rfl))) (fun _ _ _ _ _ => pts_nil) (fun _ _ _ _ _ => (pe_lc (own := [("state", 8)]) rfl sc_settled_by_choices.nd (pi_listK (K := K) rfl (pv 10)) (blkOk_by (N := ["web", "choices", "tops", "_", "states", "found", "folk", "choice", "state", "places", "left", "table"]) (sc := scO) (by decide +kernel)) (fun _ _ _ _ _ => (pg_name (i := 8) sc_settled_by_choices.nd rfl (by first | exact Or.inl rfl | exact Or.inr rfl))) (fun _ _ _ _ _ => (pts_one (pt_cmpR op_eq (pe_ix ix_tT (pv 11) (pe_dget (ud hr) (pv 9) (pv 8) (fun _ _ => rfl)) (fun _ _ => rfl)) (pe_ix ix_tT (pv 8) (pv 6) (fun _ _ => rfl)) (nomark _)))) (fun _ _ _ _ _ => (pv 8))))))))
      (pss_one (ps_ret (pv 5))))))), ?_⟩
    refine ⟨_, rfl, a, _, rfl, ha, rfl, _, _, rfl, _, _, rfl, rfl, ?_⟩
    refine ⟨_, rfl, _, _, rfl, ⟨b, rfl, hb⟩, ok.few, fun t ht => ⟨by have := ok.tops t ht; omega, (ok.tops t ht).2⟩, fun H1 q sv E1 hq0 hq hsv => ?_⟩
    have hsv : Paired (TI H1) sv (rowsOf W.tops) := hsv
    have rl : (rowsOf W.tops).length ≤ 4096 := by
      have h1 := rows_len4 (tops := W.tops) (fun t ht => (ok.tops t ht).2) [[]]
      have h2 : 4 ^ W.tops.length ≤ 4 ^ 6 := Nat.pow_le_pow_right (by decide) ok.few
      simp only [List.length_singleton, Nat.one_mul] at h1
      exact Nat.le_trans h1 h2
    have nd : (rowsOf W.tops).Nodup := asc_nodup (rows_asc _)
    have lsv := paired_len hsv
    refine ⟨_, rfl, (by show 1 ≤ sizeLine; decide), fun L0 hL0 => ?_⟩
    have EL := Ext.new hL0 (.lst [.ref q])
    have hpx := (E1.trans EL).lst hp
    refine ⟨_, rfl, p, us, rfl, SqL.of hpx, for_walk (walk_enum (K := K) (a := p) (xs := us)) (fun i σ H' => ∃ (L : Addr) (fv : List V) (o6 o7 o8 o9 o10 o11 : Option V), σ = [some (.ref a), some (.ref p), some (.ref b), some l, some (.ref q), some (.ref L), o6, o7, o8, o9, o10, o11] ∧ Ext H1 H' ∧ H' L = some (.lst fv) ∧ Paired (LT2 H') fv (leftsOf W cs i))
      ⟨L0, _, _, _, _, _, _, _, rfl, EL, upd_same, .cons ⟨q, sv, rfl, EL.lst hq, pTI.ext EL hsv⟩ .nil⟩ (fun i σ H' _ ⟨_, _, _, _, _, _, _, _, _, e, _⟩ => SqL.of ((E1.trans e).lst hp)) ?_ ?_⟩
    · rintro i x σ H2 H3 hi ⟨L, fv, o6, o7, o8, o9, o10, o11, rfl, E2, hL, hfv⟩ ⟨T, y0, y, rfl, hT, rfl, hy0, hy⟩
      cases hy0
      have ET := Ext.new hT (.tup [.int (i : Nat), y])
      have E3 := E2.trans ET
      obtain ⟨tbs, htbs, z, tvs, rfl, hz, htv⟩ := paired_get' (paired_mono (fun _ _ r => r.ext (E1.trans E3)) hus) hy
      have hif : i < W.tops.length := by
        have := (List.getElem?_eq_some_iff.mp htbs).1
        omega
      have hL3 := ET.lst hL
      have hfv3 := paired_mono (fun _ _ r => LT2.ext' ET r) hfv
      have hTx : (upd H2 T (.tup [.int (i : Nat), V.ref z])) T = some (.tup [.int (i : Nat), V.ref z]) := upd_same
      generalize upd H2 T (.tup [.int (i : Nat), V.ref z]) = H3 at *
      have E13 := E1.trans E3
      refine ⟨T, _, rfl, hTx, rfl, _, _, rfl, _, _, rfl, rfl, ?_⟩
      have hq3 := E3.lst hq
      have hsv3 : Paired (TI H3) sv (rowsOf W.tops) := pTI.ext E3 hsv
      refine ⟨_, rfl, q, rfl, ⟨_, SqL.of hq3⟩, fun Dp hDp => ?_⟩
      refine dct_rows (gf := fun st => .int (placeOf W st (i : Int))) nd hDp hq3 hsv3 (Nat.le_trans (show sv.length ≤ 4096 by omega) (by decide)) (fun x st H4 Ky e4 hmem hx k1 => ?_) fun H4 e4 hp4 => ?_
      · exact ⟨rfl, _, rfl, _, rfl, _, rfl, _, rfl, _, _, W, st, (i : Int), rfl, hW.ext (E13.trans e4), ok, hx, rows_st hmem, fun H5 e5 => k1 _ _ e5 (hx.ext e5)⟩
      have hL4 := e4.lst hL3
      have hfv4 : Paired (LT2 H4) fv (leftsOf W cs i) := paired_mono (fun _ _ r => LT2.ext' e4 r) hfv3
      have hz4 := e4.tup hz
      have htv4 : Paired (TI H4) tvs tbs := pTI.ext e4 htv
      have E4 := E3.trans e4
      have ei : cs.getD i [] = tbs := by rw [List.getD_eq_getElem?_getD, htbs]; rfl
      have li := lefts_len W cs i (by omega)
      have si := hsm i
      have si1 := hsm (i + 1)
      rw [lens_snoc htbs, ← li] at si1
      have lfv := paired_len hfv4
      have ltv := paired_len htv4
      refine ⟨_, rfl, L, rfl, ⟨_, SqL.of hL4⟩, fun D hD => ?_⟩
      refine lc2_out (walk_list (K := K) (a := L) (xs := fv)) (fun j H5 => ∃ acc, H5 D = some (.lst acc) ∧ Ext H4 H5 ∧ (∀ v ∈ acc, v ≠ .ref D) ∧ acc.length = j * tbs.length ∧ Paired (LT2 H5) acc (stepC W i tbs ((leftsOf W cs i).take j))) ⟨[], upd_same, Ext.new hD _, (fun v h => by cases h), by simp, .nil⟩ (fun j H5 _ ⟨_, _, e5, _⟩ => SqL.of (e5.lst hL4)) (fun j x H5 H6 hj ⟨acc, hacc, e5, hne, hlen, hp5⟩ y => ?_) fun H5 ⟨acc, hacc, e5, hne, hlen, hp5⟩ => ?_
      · obtain ⟨rfl, hx⟩ := y
        obtain ⟨left, hleft, la, lvs, rfl, hla, hlv⟩ := paired_get' hfv4 hx
        have hsub := lefts_sub W cs i left (List.mem_of_getElem? hleft)
        have llv := paired_len hlv
        have lsub := hsub.length_le
        have hj1 : (j + 1) * tbs.length ≤ 20000 := by
          have : (j + 1) * tbs.length ≤ (leftsOf W cs i).length * tbs.length := Nat.mul_le_mul_right _ (by have : j < fv.length := hj; omega)
          omega
        refine ⟨rfl, yes ?_⟩
        refine ⟨_, rfl, z, rfl, ⟨_, SqT.of (e5.tup hz4)⟩, ?_⟩
        refine lc2_in (walk_tup (K := K) (a := z) (xs := tvs)) (fun c H7 => ∃ acc, H7 D = some (.lst acc) ∧ Ext H4 H7 ∧ (∀ v ∈ acc, v ≠ .ref D) ∧ acc.length = j * tbs.length + c ∧ Paired (LT2 H7) acc (stepC W i tbs ((leftsOf W cs i).take j) ++ (tbs.take c).map fun tb => left.filter fun st => tb.getD (placeOf W st i).toNat 0 == stAt st i)) ⟨acc, hacc, e5, hne, hlen, by simpa using hp5⟩ (fun c H7 _ ⟨_, _, e7, _⟩ => SqT.of (e7.tup hz4)) (fun c x H7 H8 hc ⟨acc, hacc, e7, hne, hlen, hp7⟩ y => ?_) fun H7 ⟨acc, hacc, e7, hne, hlen, hp7⟩ => ?_
        · obtain ⟨rfl, hx7⟩ := y
          obtain ⟨tb, htb', w, rfl, hw⟩ := paired_get' (pTI.ext e7 htv4) hx7
          have tlen := htb i tbs htbs tb (List.mem_of_getElem? htb')
          have E7 := E4.trans e7
          have hcl : c < tbs.length := by have : c < tvs.length := hc; omega
          refine ⟨rfl, yes ?_⟩
          refine ⟨_, rfl, la, rfl, ⟨_, SqL.of (e7.lst hla)⟩, fun D2 hD2 => ?_⟩
          refine lc_fmL (R := TI) (S := TI) stTI stTI (fun st => if (tb.getD (placeOf W st i).toNat 0 == stAt st i) = true then some st else none) hD2 (e7.lst hla) (pTI.ext e7 hlv) (Nat.le_trans (show lvs.length ≤ 4096 by omega) (by decide)) (fun x st H9 Ky Kn e9 hmem hx9 k1 k2 => ?_) fun H9 acc2 e9 hacc2 hp9 => ?_
          · have hst := hsub.subset hmem
            have so := rows_st (W := W) hst
            have pb := place_bd ok so (looksOf W i) 1 0 (fun l hl => (looksOf_ok ok l hl).1) (by decide) (by decide)
            obtain ⟨y, rfl, hy9⟩ := hx9
            have hp9 := (e7.trans e9).keep _ _ hp4 rfl
            have hb0 : 0 ≤ placeOf W st (i : Int) := pb.1
            have hb1 : placeOf W st (i : Int) < manyRows W (i : Int) := pb.2
            have h9 := stAt_get (st := st) (i := (i : Int)) (by omega) (by rw [so.len]; omega)
            refine ⟨rfl, _, rfl, _, rfl, _, rfl, Dp, _, rfl, DGet.row hp9 hy9 hst, w, _, _, _, rfl, rfl, e9.tup hw, at_of (j := (placeOf W st i).toNat) (by omega) (iv_at (getD_get (by omega))), _, rfl, _, rfl, y, _, _, _, rfl, rfl, hy9, at_of (j := i) rfl (iv_at h9), rfl, _, rfl, ?_⟩
            rw [dec_int]
            refine ite_of (fun hc => ?_) fun hc => ?_
            · exact ⟨_, rfl, k1 _ _ _ (if_pos hc) (Ext.refl _) ⟨y, rfl, hy9⟩⟩
            · exact k2 _ (if_neg (by rw [hc]; simp)) (Ext.refl _)
          rw [fmIf] at hp9
          have hD9 := e9.lst hacc
          have hDD : V.ref D2 ≠ V.ref D := fun e => by
            cases e
            rw [hacc] at hD2
            cases hD2
          refine ⟨acc, hD9, Nat.lt_of_le_of_lt (show acc.length ≤ 20000 by rw [hlen]; rw [Nat.add_mul] at hj1; omega) (by decide), acc ++ [.ref D2], upd_same, (e7.trans e9).put hD _, ?_, by rw [List.length_append, hlen]; simp; omega, ?_⟩
          · intro v hv
            rcases List.mem_append.mp hv with h | h
            · exact hne v h
            · rw [List.mem_singleton.mp h]
              exact hDD
          · rw [take_snoc htb', List.map_append, ← List.append_assoc]
            refine paired_snoc (LT2.put hD9 hDD ⟨D2, acc2, rfl, hacc2, hp9⟩) ?_
            exact paired_memL hp7 fun v a hv r => LT2.put hD9 (hne v hv) (LT2.ext' e9 r)
        · rw [ltv, List.take_length] at hp7
          refine ⟨acc, hacc, e7, hne, by rw [hlen, ltv, Nat.add_mul, Nat.one_mul], ?_⟩
          unfold stepC at hp7 ⊢
          rw [flatMap_take hleft]
          exact hp7
      · rw [lfv, List.take_length] at hp5
        refine ⟨D, acc, _, _, _, _, _, _, rfl, E4.trans e5, hacc, ?_⟩
        show Paired (LT2 H5) acc (stepC W i (cs.getD i []) (leftsOf W cs i))
        rw [ei]
        exact hp5
    · rintro σ H2 ⟨L, fv, o6, o7, o8, o9, o10, o11, rfl, E2, hL, hfv⟩
      rw [paired_len hus, lcs] at hfv
      exact ⟨_, rfl, k H2 L fv (E1.trans E2) hL hfv⟩
end
end Lk


/-! ## AugL -/
set_option Elab.async false
set_option linter.all false
set_option maxRecDepth 100000
set_option maxHeartbeats 2000000
/-! xs[i] += e of a list. -/
namespace Lk
open PySem PySem.Spec PyProof.Rows L2 Gx
variable [Own]
def rGetLI : V → V → Hp → VK → Prop := fun o i H Q => ∃ (p : Addr) (xs : List V) (j : Nat) (v : V), o = .ref p ∧ i = .int (j : Int) ∧ H p = some (.lst xs) ∧ xs[j]? = some v ∧ Q v H
theorem pget_listI {X : Cx} : PGet X rGetLI := by
  intro pins s σ H o i ov iv Q I ro ri h
  obtain ⟨p, xs, j, v, rfl, rfl, hp, hx, q⟩ := h
  cases ro
  obtain ⟨t, rfl⟩ := ri
  obtain ⟨its, r, pl, hz⟩ := I.list (SqL.of hp)
  obtain ⟨w, ew, rw'⟩ := r.get hx
  have hl := r.length
  have hj : j < xs.length := (List.getElem?_eq_some_iff.mp hx).1
  have hn := line63
  exact wpAny_getItem_list pl.isList (by omega) (by omega) (by rw [Int.toNat_natCast]; simpa using ew) ⟨v, H, I, rw', q⟩
end Lk

/-! ## RevT -/
set_option Elab.async false
set_option linter.all false
set_option maxRecDepth 100000
set_option maxHeartbeats 2000000
namespace HT
open PySem PySem.Calls PyProof.Rows PySem.Spec
theorem adjust_rev (n : Nat) : Builtin.Slice.sliceAdjust none none (-1) (n : Int) = ((n : Int) - 1, -1) := by
  unfold Builtin.Slice.sliceAdjust
  have h1 : ((-1 : Int) < 0) := by omega
  simp only [h1, if_true]
theorem places_rev (n : Nat) : Builtin.Slice.slicePlaces ((n : Int) - 1) (-1) (-1) = n := by
  unfold Builtin.Slice.slicePlaces
  have h1 : ¬ ((-1 : Int) > 0) := by omega
  have h2 : (- (-1 : Int)) = 1 := by decide
  simp only [h1, if_false, h2, Int.ediv_one]
  split <;> omega
theorem fm_some {α β : Type} {f : α → Option β} {g : α → β} : ∀ {l : List α}, (∀ m ∈ l, f m = some (g m)) → l.filterMap f = l.map g
  | [], _ => rfl
  | x :: l, h => by
    rw [List.filterMap_cons, h x (List.mem_cons_self ..), List.map_cons, fm_some fun m hm => h m (List.mem_cons_of_mem _ hm)]
theorem pick_rev (xs : Array Value) : ((List.range xs.size).filterMap fun (m : Nat) => xs[(((xs.size : Int) - 1) + (m : Int) * (-1)).toNat]?).toArray = xs.toList.reverse.toArray := by
  congr 1
  apply List.ext_getElem?
  intro i
  have e : ((List.range xs.size).filterMap fun (m : Nat) => xs[(((xs.size : Int) - 1) + (m : Int) * (-1)).toNat]?) = (List.range xs.size).map fun (m : Nat) => xs.getD (xs.size - 1 - m) Value.none := by
    refine fm_some fun m hm => ?_
    have hm := List.mem_range.mp hm
    have e1 : (((xs.size : Int) - 1) + (m : Int) * (-1)).toNat = xs.size - 1 - m := by omega
    rw [e1]
    have hlt : xs.size - 1 - m < xs.size := by omega
    simp [Array.getD, hlt]
  rw [e, List.getElem?_map]
  by_cases hi : i < xs.size
  · have hlt : xs.size - 1 - i < xs.size := by omega
    rw [List.getElem?_range hi, List.getElem?_reverse (by rw [Array.length_toList]; exact hi), Array.length_toList]
    simp [Array.getD, hlt]
  · rw [List.getElem?_eq_none (by rw [List.length_range]; omega), List.getElem?_eq_none (by rw [List.length_reverse, Array.length_toList]; omega)]
    rfl
section
variable {prog : Program} {w : World} {A : Around} {E : Value → Shared → Prop} {s : Shared}
theorem sliceApplied_rev {sl : Addr} {t : Tok} {n : Nat} {Q : Int × Int × Nat → Shared → Prop} (hs : s.heap.IsSliceOf sl .none .none (.int (-1) t))
    (h : Q ((n : Int) - 1, -1, n) s) : wpAny (model prog w) A (Builtin.Slice.sliceApplied (.ref sl) (pure (n : Int))) Q E s := by
  obtain ⟨os, hos, hcs, hds⟩ := id hs
  unfold Builtin.Slice.sliceApplied Builtin.Slice.sliceFields
  refine wpAny_bind (wpAny_bind (wpAny_field hos hds (x := .none) rfl (wpAny_bind (wpAny_field hos hds (x := .none) rfl (wpAny_bind (wpAny_field hos hds (x := .int (-1) t) rfl (wpAny_pure ?_)))))))
  refine wpAny_bind (slicePart_int ?_)
  show wpAny _ _ (if ((-1 : Int) == 0) = true then _ else _) _ _ s
  rw [if_neg (by decide)]
  refine wpAny_bind (slicePart_none (wpAny_bind (slicePart_none (wpAny_bind (wpAny_pure ?_)))))
  show wpAny _ _ (match Builtin.Slice.sliceAdjust none none (-1) (n : Int) with | (lo, hi) => pure (lo, (-1 : Int), Builtin.Slice.slicePlaces lo hi (-1))) _ _ s
  rw [adjust_rev n]
  show wpAny _ _ (pure ((n : Int) - 1, (-1 : Int), Builtin.Slice.slicePlaces ((n : Int) - 1) (-1) (-1))) _ _ s
  rw [places_rev]
  exact wpAny_pure h
theorem getItem_tuple_rev {t sl : Addr} {items : Array Value} {tk : Tok} {Q : Value → Shared → Prop} (ht : IsTup s.heap t items) (hs : s.heap.IsSliceOf sl .none .none (.int (-1) tk))
    (h : Q (.ref s.heap.objs.size) { s with heap := s.heap.push { cls := .type "tuple", data := .seq items.toList.reverse.toArray } })
    (hsz : items.size ≤ sizeLine) : wpAny (model prog w) A (getItem (.ref t) (.ref sl)) Q E s := by
  have htake : sizeOk (.seq items.toList.reverse.toArray) := by
    show items.toList.reverse.toArray.size ≤ sizeLine
    rw [List.size_toArray, List.length_reverse, Array.length_toList]
    omega
  obtain ⟨os, hos, hcs, hds⟩ := id hs
  have hTs : s.TypeIs (.ref sl) "slice" := ⟨os, hos, hcs⟩
  unfold getItem
  try with_reducible refine wpAny_holding ?_
  first | refine wpAny_bind (wpAny_pure ?_) | skip
  refine wpAny_bind (wpAny_sequenceKey ht.typeIs (by decide) ?_)
  refine wpAny_bind (wpAny_callSpecial?_slot (name := Str.ofString "__getitem__") ht.typeIs PyProof.Rows.slot_tuple_getitem
    (wpAny_call_entry PyProof.Rows.slot_tuple_getitem ht.typeIs entry_tuple_getitem ?_ (args_tuple_getitem _ _)))
  show wpAny _ _ (Builtin.Tuple.tupleItemsOf (.ref t) >>= _) _ _ s
  refine wpAny_bind (tupleItemsOf_ ht ?_)
  refine wpAny_bind (wpAny_typeOf hTs ?_)
  rw [if_pos (by decide)]
  refine wpAny_bind (sliceApplied_rev hs ?_)
  have hno : ¬ ((((items.size : Int) - 1) == 0 && (-1 : Int) == 1 && items.size == items.size) = true) := by
    intro q
    rw [Bool.and_eq_true, Bool.and_eq_true] at q
    exact absurd q.1.2 (by decide)
  show wpAny _ _ (if (((items.size : Int) - 1) == 0 && (-1 : Int) == 1 && items.size == items.size) = true then _ else _) _ _ s
  rw [if_neg hno, pick_rev]
  first
    | exact wpAny_bind (m := Builtin.Tuple.tupleExact _) (wpAny_newObj_type (wpAny_pure ⟨_, rfl, wpAny_pure h⟩) htake)
    | exact wpAny_bind (m := Builtin.Tuple.tupleExact _) (wpAny_newObj_type (wpAny_bind (wpAny_pure (wpAny_pure ⟨_, rfl, wpAny_pure h⟩))) htake)
    | exact wpAny_bind (wpAny_bind (m := Builtin.Tuple.tupleExact _) (wpAny_newObj_type (wpAny_pure (wpAny_pure ⟨_, rfl, wpAny_pure h⟩)) htake))
    | exact wpAny_bind (wpAny_bind (m := Builtin.Tuple.tupleExact _) (wpAny_newObj_type (wpAny_pure ⟨_, rfl, wpAny_pure h⟩) htake))
end
end HT
namespace Lk
open PySem PySem.Spec PyProof.Rows L2 Gx
variable [Own]
/-- t[::-1] of a tuple -/
def tRevT (te : TE) : TE := fun σ H Q => te σ H fun x H1 => ∃ a xs, x = .ref a ∧ H1 a = some (.tup xs) ∧ ∀ p, H1 p = none → Q (.ref p) (upd H1 p (.tup xs.reverse))
section
variable {X : Cx}
theorem pe_revT {e : Expr} {te : TE} {k : Nat} {p1 p2 p3 pos : Pos} (he : PE X e te) : PE X (.Subscript e (.Slice none none (some (.UnaryOp .USub (.Constant (.int 1) k p1) p2)) p3) pos) (tRevT te) := by
  refine ⟨fun pins s σ H Q I h => ?_⟩
  refine Subscript_ (thn (he.run pins s σ H _ I h) fun v s1 ⟨x, H1, I1, r1, q1⟩ => ?_)
  obtain ⟨a, xs, ex, hx, q⟩ := q1
  subst ex
  cases r1
  have hst : PO X (some (.UnaryOp .USub (.Constant (.int 1) k p1) p2)) (tPart (tUn (rU fun i => .int (-i)) (tC (.int 1)))) := po_some (pe_un un_neg pe_int)
  refine wpAny_Slice (thn (po_none.run pins s1 σ H1 (fun o H2 => o = none ∧ H2 = H1) I1 ⟨rfl, rfl⟩) fun vl s2 ⟨l, H2, I2, pl, el, e2⟩ => ?_)
  subst el e2
  refine thn (po_none.run pins s2 σ H2 (fun o H3 => o = none ∧ H3 = H2) I2 ⟨rfl, rfl⟩) fun vu s3 ⟨u, H3, I3, pu, eu, e3⟩ => ?_
  subst eu e3
  refine thn (hst.run pins s3 σ H3 (fun o H4 => o = some (-1) ∧ H4 = H3) I3 ⟨1, rfl, -1, rfl, rfl, rfl⟩) fun vs s4 ⟨o, H4, I4, ps, eo, e4⟩ => ?_
  subst eo e4
  have I5 : Inv X pins σ H4 { s4 with heap := s4.heap.push { cls := .type "slice", data := .fields #[vl, vu, vs] } } := I4.kept (t' := s4.toks) fun b ob q => Heap.get?_push_of_some _ q
  obtain ⟨its, r, ht, hz⟩ := I5.tuple (SqT.of hx)
  have hlen := r.length
  show wpAny (model X.prog X.w) X.A (subscriptTail e (.Slice none none (some (.UnaryOp .USub (.Constant (.int 1) k p1) p2)) p3) (.ref a) (.ref s4.heap.objs.size)) (EP X pins σ Q) X.xe { s4 with heap := s4.heap.push { cls := .type "slice", data := .fields #[vl, vu, vs] } }
  refine tail_any (ops := [.ref a, .ref s4.heap.objs.size]) ht.typeIs (PySem.F.slot_tuple_getitem.lookup) ?_ (by with_unfolding_all rfl)
  cases pl
  cases pu
  cases ps with
  | int i t =>
    refine HT.getItem_tuple_rev ht (Heap.IsSliceOf.new _ .none .none _) ?_ (by rw [List.size_toArray]; omega)
    refine ⟨.ref _, _, I5.laid (t' := s4.toks) (o := .tup xs.reverse) (fun b ob q => Heap.get?_push_of_some _ q) (Nat.le_refl _) ?_, rfl, q _ (I5.hok.fresh (Nat.le_refl _))⟩
    exact ⟨by rw [List.length_reverse]; exact hz, _, r.reverse, _, Heap.get?_push_size _ rfl, rfl, 0, rfl⟩
/-- value in rows, rows a tuple or a list of tuples of ints -/
def rInTT : R2 := fun x y H Q => ∃ (a : List Int) (b : List (List Int)), TI H x a ∧ TT2 H y b ∧ Q (.bl (decide (a ∈ b))) H
theorem op_inTT (hu : X.A.units + 65 < cLine) : OpR X (compareOp .In) rInTT := by
  intro pins s σ H x y v u Q I rx ry h
  obtain ⟨a, b, h1, h2, q⟩ := h
  obtain ⟨as, r1⟩ := Dp.reads I _ x v h1.dp rx
  obtain ⟨bs, r2⟩ := Dp.reads I _ y u h2.dp ry
  have sd := shaped_t a
  refine SeqAt.in_tuple_reads r2 r1 (canLay_rows b) (SeqAt.canLay_of_shaped sd) ?_ ⟨.bl _, H, I, rfl, by rw [any_rows]; exact q⟩
  have := depth_rows b
  omega
def rNotInTI : R2 := fun x y H Q => ∃ (a : List Int) (b : List (List Int)), TI H x a ∧ LT2 H y b ∧ Q (.bl (!decide (a ∈ b))) H
theorem op_notInTI (hu : X.A.units + 65 < cLine) : OpR X (compareOp .NotIn) rNotInTI := by
  intro pins s σ H x y v u Q I rx ry h
  obtain ⟨a, b, h1, h2, q⟩ := h
  exact op_notInD hu pins s σ H x y v u Q I rx ry ⟨_, _, h1.dp, h2.dp, shaped_t a, shaped_l b, by rw [any_rows]; exact q⟩
def rEqLT2 : R2 := fun x y H Q => ∃ a b : List (List Int), LT2 H x a ∧ LT2 H y b ∧ Q (.bl (decide (a = b))) H
theorem op_eqLT2 (hu : X.A.units + 64 < cLine) : OpR X (compareOp .Eq) rEqLT2 := by
  intro pins s σ H x y v u Q I rx ry h
  obtain ⟨a, b, h1, h2, q⟩ := h
  exact op_eqD hu pins s σ H x y v u Q I rx ry ⟨_, _, h1.dp, h2.dp, shaped_l a, shaped_l b, by rw [eqv_ll]; exact q⟩
end
end Lk

/-! ## D52 -/
set_option Elab.async false
set_option linter.all false
set_option maxRecDepth 100000
set_option maxHeartbeats 4000000
namespace Lk
open PySem PySem.Spec PyProof.Rows L2 Gx
open GxR (TabG Tabbed TabB)
variable [Own]
theorem un1 {k : Nat} {A : Around} (h : Room k A) : A.units + 65 < cLine := by
  have := h.un
  omega
/-- any value, an int or not -/
def spIsWholeG : Sp := fun vs H Q _ => ∃ (x : V) (lo hi : Int), vs = [x, .int lo, .int hi] ∧ ((∃ i, x = .int i ∧ Q (.bl (isWhole i lo hi)) H) ∨ (((∃ b, x = .bl b) ∨ x = .non) ∧ Q (.bl false) H))
/-- values that are no tuples -/
inductive Odd (H : Hp) : V → Prop where
  | non : Odd H .non
  | bl (b : Bool) : Odd H (.bl b)
  | int (i : Int) : Odd H (.int i)
  | str (s : Str) : Odd H (.str s)
  | lst {a : Addr} {xs : List V} (h : H a = some (.lst xs)) : Odd H (.ref a)
  | dT {a : Addr} {kvs : List (List Key × V)} (h : H a = some (.dT kvs)) : Odd H (.ref a)
theorem Odd.ext {H H' : Hp} {x : V} (e : Ext H H') (o : Odd H x) : Odd H' x := by
  cases o with
  | non => exact .non
  | bl b => exact .bl b
  | int i => exact .int i
  | str s => exact .str s
  | lst h => exact .lst (e.lst h)
  | dT h => exact .dT (e.keep _ _ h rfl)
theorem Odd.ty {K : PySem.W.Frag} {H : Hp} {x : V} (o : Odd H x) : ∃ T, TyX K H x (.type T) ∧ kitB T "tuple" = some false := by
  cases o with
  | non => exact ⟨_, .base .non, by decide +kernel⟩
  | bl b => exact ⟨_, .base (.bl b), by decide +kernel⟩
  | int i => exact ⟨_, .base (.int i), by decide +kernel⟩
  | str s => exact ⟨_, .base (.str s), by decide +kernel⟩
  | lst h => exact ⟨_, .base (.lst h), by decide +kernel⟩
  | dT h => exact ⟨_, .base (.dT h), by decide +kernel⟩
/-- what may be asked whether it is a ring: a tuple of ints, a tuple of one other thing, no tuple -/
def NoRing (H : Hp) (x : V) : Prop := Odd H x ∨ ∃ a y, x = .ref a ∧ H a = some (.tup [y]) ∧ (y = .non ∨ ∃ b, y = .bl b)
theorem NoRing.ext {H H' : Hp} {x : V} (e : Ext H H') (h : NoRing H x) : NoRing H' x := by
  rcases h with h | ⟨a, y, e1, h, hy⟩
  · exact .inl (h.ext e)
  · exact .inr ⟨a, y, e1, e.tup h, hy⟩
/-- the even ones (b = true), the odd ones -/
def kindOf (W : Web) (b : Bool) : List (List Int) := (ringsOf W).filter fun p => evenP W.looks p == b
def spKind (b : Bool) : Sp := fun vs H Q _ => ∃ (v : V) (W : Web), vs = [v] ∧ WebAt H v W ∧ W.Few ∧ ∀ H' p us, Ext H H' → H p = none → H' p = some (.lst us) → Paired (TI H') us (kindOf W b) → Q (.ref p) H'
def spIsRing (Ps : List Addr) : Sp := fun vs H Q _ => ∃ (v x : V) (W : Web), vs = [v, x] ∧ WebAt H v W ∧ W.Few ∧ Tabs Ps H ∧ ((∃ ring, TI H x ring ∧ ring.length ≤ 100 ∧ ∀ H', Ext H H' → Q (.bl (decide (ring ∈ ringsOf W))) H') ∨ (NoRing H x ∧ ∀ H', Ext H H' → Q (.bl false) H'))
theorem ring_ok {W : Web} {p : List Int} (h : p ∈ ringsOf W) : PathOk W.looks p ∧ closesP W.looks p = true ∧ p.length ≤ 7 := raw_ok (sortT_mem.mp h)
theorem rings_len {W : Web} (fw : W.Few) : (ringsOf W).length ≤ 8108730 := by
  unfold ringsOf
  rw [sortT_len]
  exact found_small fw.most fw.six 7
section
variable {P : Program} {w : World} {K : PySem.W.Frag} {mg : Str → Option Value} {base : Heap} {Ps : List Addr}
theorem ok_is_wholeG {f : Addr} {fd : FuncData} (F : Fun K "is_whole" "is_whole" sIsWhole f fd) (B : Blt mg) : FnOk P w K mg base CX0 1 f fd ["value", "least", "most"] spIsWholeG := by
  refine F.ok scIsWhole (fun vs H Q E h => ?_) (fun cdv A outer s H vs Q E hr h => ?_)
  · obtain ⟨i, lo, hi, rfl, _⟩ := h
    rfl
  · obtain ⟨x, lo, hi, rfl, h⟩ := h
    refine ⟨_, pss_one (ps_ret (pe_and (pe_callB call_isi (by rfl) B.isi boot_isinstance (pa_cons (pv 0) (pa_cons (pe_bltn (v := .ty "int") (by rfl) B.int boot_tyInt rfl) pa_nil)))
      (pe_and (pe_not (pe_callB call_isi (by rfl) B.isi boot_isinstance (pa_cons (pv 0) (pa_cons (pe_bltn (v := .ty "bool") (by rfl) B.bool boot_tyBool rfl) pa_nil))))
      (pe_one (pe_chain op_le op_le (pv 1) (pv 0) (pv 2)))))), ?_⟩
    rcases h with ⟨i, rfl, k⟩ | ⟨⟨b, rfl⟩ | rfl, k⟩
    · refine ⟨_, rfl, _, _, _, _, true, rfl, .ty "int", isi_int i, kit_ty (by decide +kernel), _, rfl, iteT ?_⟩
      refine ⟨_, rfl, _, _, _, _, false, rfl, .ty "bool", isi_int i, kit_ty (by decide +kernel), _, rfl, _, rfl, iteT ?_⟩
      refine ⟨_, rfl, _, rfl, _, _, rfl, rfl, _, rfl, ?_⟩
      unfold isWhole at k
      by_cases h : lo ≤ i
      · rw [decide_eq_true h, Bool.true_and] at k
        rw [decide_eq_true h]
        refine iteT ?_
        refine ⟨_, rfl, _, _, rfl, rfl, ?_⟩
        exact k
      · rw [decide_eq_false h, Bool.false_and] at k
        rw [decide_eq_false h]
        exact iteF k
    · refine ⟨_, rfl, _, _, _, _, true, rfl, .ty "int", .base (.bl b), kit_ty (by decide +kernel), _, rfl, iteT ?_⟩
      refine ⟨_, rfl, _, _, _, _, true, rfl, .ty "bool", .base (.bl b), kit_ty (by decide +kernel), _, rfl, _, rfl, iteF ?_⟩
      exact k
    · refine ⟨_, rfl, _, _, _, _, false, rfl, .ty "int", .base .non, kit_ty (by decide +kernel), _, rfl, iteF ?_⟩
      exact k
end
end Lk


/-! ## D93 -/
set_option Elab.async false
set_option linter.all false
set_option maxRecDepth 100000
set_option maxHeartbeats 2000000
namespace Lk
open PySem PySem.Spec PyProof.Rows L2 Gx
open GxR (TabG Tabbed TabB)
variable [Own]
abbrev s_settled_counts : Stmt := top 33
theorem sc_settled_counts : FnScope ["web", "choices", "states", "numbers", "found", "number"] ["web"] (defScope s_settled_counts) := ⟨rfl, rfl, rfl, by decide +kernel, rfl, by decide +kernel, by decide +kernel⟩
def natInts (ns : List Nat) : List Int := ns.map fun n : Nat => (n : Int)
def cntTo (m : Nat) (ns : List Nat) : List Int := (List.range m).map fun k => ((ns.count k : Nat) : Int)
theorem cntTo_len (m : Nat) (ns : List Nat) : (cntTo m ns).length = m := by unfold cntTo; rw [List.length_map, List.length_range]
theorem cntTo_get {m : Nat} {ns : List Nat} {x : Nat} (h : x < m) : (cntTo m ns)[x]? = some ((ns.count x : Nat) : Int) := by
  unfold cntTo
  rw [List.getElem?_map, List.getElem?_range h]
  rfl
theorem cntTo_snoc {m : Nat} {ns : List Nat} {x : Nat} (h : x < m) : (cntTo m ns).set x (((ns.count x : Nat) : Int) + 1) = cntTo m (ns ++ [x]) := by
  refine List.ext_getElem? fun j => ?_
  rw [List.getElem?_set, cntTo_len]
  by_cases hj : j < m
  · rw [cntTo_get (ns := ns ++ [x]) hj, List.count_append]
    by_cases e : x = j
    · subst e
      rw [if_pos rfl, if_pos h, List.count_singleton_self]
      rfl
    · rw [if_neg e, cntTo_get hj, List.count_singleton, if_neg (by simpa using e)]
      rfl
  · by_cases e : x = j
    · omega
    · rw [if_neg e, List.getElem?_eq_none (by rw [cntTo_len]; omega), List.getElem?_eq_none (by rw [cntTo_len]; omega)]
/-- how many of these are 0, 1 and so on -/
def countsOf (ns : List Nat) : List Int := cntTo (maxFrom 0 (natInts ns) + 1).toNat ns
def casesOf (W : Web) : List (List (List Int)) := (nums 0 W.tops.length).map (tablesOf W)
def numbersOf (W : Web) : List Nat := (leftsOf W (casesOf W) W.tops.length).map List.length
theorem tru_tup {K : PySem.W.Frag} {H : Hp} {a : Addr} {xs : List V} (h : H a = some (.tup xs)) : TruV K (.ref a) H (!xs.isEmpty) := .inr (.inl ⟨xs, SqT.of h, rfl⟩)
theorem emp_len {α β : Type} {l : List α} {m : List β} (h : l.length = m.length) : l.isEmpty = m.isEmpty := by
  cases l <;> cases m <;> simp at h ⊢
def spOneOf (Ps : List Addr) (g : Web → Bool) : Sp := fun vs H Q _ => ∃ (v : V) (W : Web), vs = [v] ∧ WebAt H v W ∧ W.Ok ∧ Tabs Ps H ∧ ∀ H', Ext H H' → Q (.bl (g W)) H'
structure FewR (W : Web) : Prop where
  one : ∀ f : Int, 0 ≤ f → f < W.tops.length → (tablesOf W f).length ≤ 3000
  all : ∀ i, lensOf ((casesOf W).take i) ≤ 20000
  some : numbersOf W ≠ []
def spSettledCounts (Ps : List Addr) : Sp := fun vs H Q _ => ∃ (v : V) (W : Web), vs = [v] ∧ WebAt H v W ∧ W.Ok ∧ FewR W ∧ Tabs Ps H ∧ ∀ H' q, Ext H H' → H' q = some (.tup (iv (countsOf (numbersOf W)))) → Q (.ref q) H'
section
variable {P : Program} {w : World} {K : PySem.W.Frag} {mg : Str → Option Value} {base : Heap} {Ps : List Addr}
theorem ok_settled_counts {f : Addr} {fd : FuncData} (F : Fun K "settled_counts" "settled_counts" s_settled_counts f fd) (B : Blt mg) (M : NumsC mg)
    (c_check_web : Cal P w K mg base CX0 6 "check_web" ["web"] (spCheckWeb Ps)) (c_tables_of_all : Cal P w K mg base CX0 4 "tables_of_all" ["web"] spTablesOfAll) (c_many_choices : Cal P w K mg base CX0 1 "many_choices" ["choices"] spManyChoices)
    (c_settled_by_choices : Cal P w K mg base CX0 3 "settled_by_choices" ["web", "choices"] spSettledByC) : FnOk P w K mg base CX0 7 f fd ["web"] (spSettledCounts Ps) := by
  refine F.ok sc_settled_counts (fun vs H Q E h => ?_) (fun cdv A outer s0 H vs Q E hr h => ?_)
  · obtain ⟨v, W, rfl, _⟩ := h
    rfl
  · obtain ⟨v, W, rfl, hW, ok, few, hTb, k⟩ := h
    refine ⟨_, (pss_cons (ps_expr (pe_c0 c_check_web (hr.mono (by decide)) (by rfl) (pa_cons (pv 0) pa_nil)))
      (pss_cons (ps_set (i := 1) sc_settled_counts.nd rfl (by first | exact Or.inl rfl | exact Or.inr rfl) (pe_c0 c_tables_of_all (hr.mono (by decide)) (by rfl) (pa_cons (pv 0) pa_nil)))
      (pss_cons (ps_if (pt_cmpR op_gt (pe_c0 c_many_choices (hr.mono (by decide)) (by rfl) (pa_cons (pv 1) pa_nil)) (pe_num M.MOST_RULES (by rfl)) (nomark _))
        (pss_one ps_never) pss_nil)
      (pss_cons (ps_setLc (i := 3) (own := [("states", 2)]) rfl sc_settled_counts.nd rfl rfl (sw_true rfl rfl rfl (by decide +kernel)) (pi_list (pe_c0 c_settled_by_choices (hr.mono (by decide)) (by rfl) (pa_cons (pv 0) (pa_cons (pv 1) pa_nil)))) (blkOk_by (N := ["web", "choices", "states", "numbers", "found", "number"]) (sc := defScope s_settled_counts) (by decide +kernel)) (fun _ _ _ _ _ => (pg_name (i := 2) sc_settled_counts.nd rfl (by first | exact Or.inl rfl | exact Or.inr rfl))) (fun _ _ _ _ _ => pts_nil) (fun _ _ _ _ _ => (pe_callB call_lenT (by rfl) B.len PySem.boot_len (pa_cons (pv 2) pa_nil))))
      (pss_cons (ps_set (i := 4) sc_settled_counts.nd rfl (by first | exact Or.inl rfl | exact Or.inr rfl) (pe_op op_rep (pe_lst (pa_cons pe_int pa_nil)) (pe_op op_add (pe_callB (cr_max rfl) (by rfl) B.max boot_max (pa_cons (pv 3) pa_nil)) pe_int)))
      (pss_cons (ps_for PassesOwn.never rfl (pi_list (pv 3)) (pg_name (i := 5) sc_settled_counts.nd rfl (by first | exact Or.inl rfl | exact Or.inr rfl))
        (pss_one (ps_augS (pv 4) (pv 5) pget_listI pe_int ip_add set_list)))
      (pss_one (ps_ret (pe_tupleL (by rfl) B.tuple (pv 4)))))))))), ?_⟩
    refine ⟨_, rfl, _, W, rfl, hW, ok, hTb, fun H1 e1 => ?_⟩
    refine ⟨_, rfl, _, W, rfl, hW.ext e1, ok, few.one, fun H2 p us e2 hp hus => ?_⟩
    have l6 := ok.few
    have lcs : (casesOf W).length = W.tops.length := by
      unfold casesOf
      rw [List.length_map, nums_len]
      omega
    have E2 := e1.trans e2
    have cget : ∀ (f : Nat) (tbs : List (List Int)), (casesOf W)[f]? = some tbs → f < W.tops.length ∧ tbs = tablesOf W (f : Int) := fun f tbs h => by
      have hf : f < W.tops.length := by
        have := (List.getElem?_eq_some_iff.mp h).1
        omega
      refine ⟨hf, ?_⟩
      unfold casesOf at h
      rw [List.getElem?_map, nums_get (by omega)] at h
      have := Option.some.inj h
      rw [← this, Int.zero_add]
    refine ⟨_, rfl, p, us, casesOf W, rfl, hp, hus, fun c hc => ?_, ?_⟩
    · obtain ⟨i, hi⟩ := List.mem_iff_getElem?.mp hc
      obtain ⟨h1, rfl⟩ := cget i c hi
      have := few.one (i : Int) (by omega) (by omega)
      omega
    have la := few.all (casesOf W).length
    rw [List.take_length] at la
    refine ⟨_, _, rfl, rfl, _, rfl, ?_⟩
    rw [decide_eq_false (by omega)]
    refine iteF ?_
    refine ⟨_, rfl, _, rfl, _, p, us, W, casesOf W, rfl, hW.ext E2, ok, hp, hus, lcs, fun f tbs h tb hm => ?_, few.all, fun H3 q ls e3 hq hls => ?_⟩
    · obtain ⟨h1, rfl⟩ := cget f tbs h
      exact table_len ok ((mem_tables ok).mp hm)
    have E3 := E2.trans e3
    have lls := paired_len hls
    have ll := lefts_len W (casesOf W) W.tops.length (by omega)
    have la2 := few.all W.tops.length
    have rl : (rowsOf W.tops).length ≤ 4096 := by
      have h1 := rows_len4 (tops := W.tops) (fun t ht => (ok.tops t ht).2) [[]]
      have h2 : 4 ^ W.tops.length ≤ 4 ^ 6 := Nat.pow_le_pow_right (by decide) ok.few
      simp only [List.length_singleton, Nat.one_mul] at h1
      exact Nat.le_trans h1 h2
    refine ⟨q, rfl, ⟨_, SqL.of hq⟩, fun D hD => ?_⟩
    refine lc_list (K := K) (a := q) (xs := ls) (fun i H' => H' D = some (.lst (iv (natInts (((leftsOf W (casesOf W) W.tops.length).take i).map List.length)))) ∧ Ext H3 H') ⟨by rw [upd_same]; rfl, Ext.new hD _⟩ (fun i H' _ ⟨_, e⟩ => SqL.of (e.lst hq)) (fun i x H' hi ⟨h1, e⟩ => ?_) fun H4 ⟨h4, e4⟩ => ?_
    · obtain ⟨left, hleft, la, lvs, rfl, hla, hlv⟩ := paired_get' hls hi
      have hi2 := (List.getElem?_eq_some_iff.mp hi).1
      refine ⟨rfl, yes ⟨_, rfl, _, _, rfl, .inl (e.lst hla), _, h1, ?_, ?_, e.put hD _⟩⟩
      · unfold natInts
        rw [iv_len, List.length_map, List.length_map, List.length_take]
        exact Nat.lt_of_le_of_lt (Nat.le_trans (Nat.min_le_left _ _) (show i ≤ 20000 by omega)) (by decide)
      · rw [upd_same, take_snoc hleft, List.map_append, paired_len hlv]
        unfold natInts iv
        rw [List.map_append, List.map_append]
        rfl
    rw [lls, List.take_length] at h4
    have h4 : H4 D = some (.lst (iv (natInts (numbersOf W)))) := h4
    have E4 := E3.trans e4
    have nb : ∀ y ∈ natInts (numbersOf W), 0 ≤ y ∧ y ≤ 4096 := fun y hy => by
      obtain ⟨n, hn, rfl⟩ := List.mem_map.mp hy
      obtain ⟨left, hl, rfl⟩ := List.mem_map.mp hn
      have := (lefts_sub W (casesOf W) _ left hl).length_le
      omega
    have nne : 0 < (natInts (numbersOf W)).length := by
      have := few.some
      unfold natInts
      rw [List.length_map]
      exact List.length_pos_iff.mpr this
    refine ⟨(by show 1 ≤ sizeLine; decide), fun L0 hL0 => ?_⟩
    have eL0 := Ext.new hL0 (.lst [.int 0])
    refine ⟨_, rfl, D, _, rfl, SqL.of (eL0.lst h4), nne, fun m hm hmax => ?_⟩
    have em : m = maxFrom 0 (natInts (numbersOf W)) := maxFrom_of (fun y hy => (nb y hy).1) hm hmax
    have mb := nb m hm
    refine ⟨_, _, rfl, rfl, L0, _, _, rfl, rfl, upd_same, by omega, by omega, Nat.le_trans (show [V.int 0].length * (m + 1).toNat ≤ 5000 by simp only [List.length_singleton]; omega) (by decide), fun F0 hF0 => ?_⟩
    have erep : (List.replicate (m + 1).toNat [V.int 0]).flatten = iv (cntTo (m + 1).toNat []) := by
      refine List.ext_getElem? fun j => ?_
      unfold iv cntTo
      rw [List.flatten_replicate_singleton, List.getElem?_map, List.getElem?_map, List.getElem?_replicate]
      by_cases hj : j < (m + 1).toNat
      · rw [if_pos hj, List.getElem?_range hj]
        rfl
      · rw [if_neg hj, List.getElem?_eq_none (by rw [List.length_range]; omega)]
        rfl
    have hF0' : H4 F0 = none := eL0.free hF0
    have eF := eL0.trans (Ext.new hF0 (.lst (iv (cntTo (m + 1).toNat []))))
    rw [erep]
    have hDF := eF.lst h4
    refine ⟨_, rfl, D, rfl, ⟨_, SqL.of hDF⟩, for_list (K := K) (a := D) (xs := iv (natInts (numbersOf W))) (fun i σ H' => ∃ (o5 : Option V), σ = [some v, some (.ref p), none, some (.ref D), some (.ref F0), o5] ∧ Ext H4 H' ∧ H' F0 = some (.lst (iv (cntTo (m + 1).toNat ((numbersOf W).take i))))) ⟨_, rfl, eF, by rw [upd_same]; rfl⟩ (fun i σ H' _ ⟨_, _, e, _⟩ => SqL.of (e.lst h4)) ?_ ?_⟩
    · rintro i x σ H5 hi ⟨o5, rfl, e5, h5⟩
      obtain ⟨y, hy, rfl⟩ := iv_get hi
      unfold natInts at hy
      rw [List.getElem?_map] at hy
      cases hn : (numbersOf W)[i]? with
      | none => rw [hn] at hy; cases hy
      | some n =>
        rw [hn] at hy
        obtain rfl := Option.some.inj hy
        have hnm : (n : Int) ≤ m := hmax _ (List.mem_map.mpr ⟨n, List.mem_of_getElem? hn, rfl⟩)
        have hlt : n < (m + 1).toNat := by omega
        refine ⟨_, rfl, _, rfl, F0, _, n, _, rfl, rfl, h5, iv_at (cntTo_get hlt), _, _, rfl, rfl, F0, _, _, n, rfl, rfl, h5, ?_, ?_⟩
        · show ixN _ ((n : Nat) : Int) = _
          unfold ixN
          rw [iv_len, cntTo_len]
          simp
          omega
        · refine ⟨some (.int (n : Int)), rfl, e5.put hF0' _, ?_⟩
          rw [upd_same, take_snoc hn, ← cntTo_snoc hlt]
          unfold iv
          rw [List.map_set]
    · rintro σ H5 ⟨o5, rfl, e5, h5⟩
      unfold natInts at h5
      rw [iv_len, List.length_map, List.take_length] at h5
      refine ⟨_, rfl, F0, _, rfl, h5, fun r hr => ?_⟩
      refine k _ r ((E4.trans e5).trans (Ext.new hr _)) ?_
      rw [upd_same]
      unfold countsOf
      rw [← em]
end
end Lk


/-! ## AT4 -/
set_option Elab.async false
set_option linter.all false
set_option maxRecDepth 100000
set_option maxHeartbeats 2000000
/-! The law's way to all tables: what is begun can be gone on with. -/
namespace Lk
open PySem PySem.Spec PyProof.Rows L2 Gx
variable [Own]
section
variable {W : Web} {f : Int}
theorem take_getD {t : List Int} {i j : Nat} (h : j < i) : (t.take i).getD j 0 = t.getD j 0 := by
  rw [List.getD_eq_getElem?_getD, List.getElem?_take_of_lt h, ← List.getD_eq_getElem?_getD]
theorem low_has {t : List Int} {k : Nat} (hk : k < t.length) (h : lawGoes (signsAt W f) ((rowsAt W f).getD k []) ((rowsAt W f).getD t.length []) = true) : t.getD k 0 ≤ lowAt W f t :=
  ((maxFrom_le _ 0 (lowAt W f t)).mp (Int.le_refl _)).2 _ (List.mem_map.mpr ⟨k, List.mem_filter.mpr ⟨List.mem_range.mpr hk, h⟩, rfl⟩)
theorem high_has {t : List Int} {k : Nat} (hk : k < t.length) (h : lawGoes (signsAt W f) ((rowsAt W f).getD t.length []) ((rowsAt W f).getD k []) = true) : highAt W f t ≤ t.getD k 0 :=
  ((le_minFrom _ (topAt W f) (highAt W f t)).mp (Int.le_refl _)).2 _ (List.mem_map.mpr ⟨k, List.mem_filter.mpr ⟨List.mem_range.mpr hk, h⟩, rfl⟩)
theorem law_goes (ok : W.Ok) (hf : 0 ≤ topAt W f) {k : Nat} (hk : k < (rowsAt W f).length) {t : List Int} (h : t ∈ grow (lowAt W f) (highAt W f) k) : lowAt W f t ≤ highAt W f t := by
  obtain ⟨hl, hm⟩ := (grow_mem k).mp h
  have low0 : ∀ s, 0 ≤ lowAt W f s := fun s => ((maxFrom_le _ 0 (lowAt W f s)).mp (Int.le_refl _)).1
  have high0 : ∀ s, highAt W f s ≤ topAt W f := fun s => ((le_minFrom _ (topAt W f) (highAt W f s)).mp (Int.le_refl _)).1
  have bd : ∀ i, i < k → 0 ≤ t.getD i 0 ∧ t.getD i 0 ≤ topAt W f := fun i hi => by
    have h1 := hm i hi
    have h2 := low0 (t.take i)
    have h3 := high0 (t.take i)
    omega
  refine (maxFrom_le _ 0 _).mpr ⟨(le_minFrom _ (topAt W f) 0).mpr ⟨hf, fun y hy => ?_⟩, fun x hx => (le_minFrom _ (topAt W f) x).mpr ⟨?_, fun y hy => ?_⟩⟩
  · obtain ⟨o, ho, rfl⟩ := List.mem_map.mp hy
    have := List.mem_range.mp (List.mem_filter.mp ho).1
    exact (bd o (by omega)).1
  · obtain ⟨u, hu, rfl⟩ := List.mem_map.mp hx
    have := List.mem_range.mp (List.mem_filter.mp hu).1
    exact (bd u (by omega)).2
  · obtain ⟨u, hu, rfl⟩ := List.mem_map.mp hx
    obtain ⟨o, ho, rfl⟩ := List.mem_map.mp hy
    obtain ⟨u1, u2⟩ := List.mem_filter.mp hu
    obtain ⟨o1, o2⟩ := List.mem_filter.mp ho
    have u1 := List.mem_range.mp u1
    have o1 := List.mem_range.mp o1
    rw [hl] at u1 o1 u2 o2
    have hrow : (rowsAt W f)[k]? = some ((rowsAt W f).getD k []) := by rw [List.getD_eq_getElem?_getD, List.getElem?_eq_getElem hk] <;> rfl
    have rl : ((rowsAt W f).getD k []).length = (signsAt W f).length := by
      rw [rowsAt_row (List.mem_of_getElem? hrow)]
      unfold signsAt
      rw [List.length_map]
    have g := goes_trans (signsAt W f) _ _ _ (signs_ok ok) rl u2 o2
    rcases Nat.lt_trichotomy u o with c | c | c
    · have h1 := (hm o o1).1
      have h2 := low_has (W := W) (f := f) (t := t.take o) (k := u) (by rw [List.length_take]; omega) (by rw [List.length_take, Nat.min_eq_left (by omega)]; exact g)
      rw [take_getD c] at h2
      omega
    · rw [c]
      exact Int.le_refl _
    · have h1 := (hm u u1).2
      have h2 := high_has (W := W) (f := f) (t := t.take u) (k := o) (by rw [List.length_take]; omega) (by rw [List.length_take, Nat.min_eq_left (by omega)]; exact g)
      rw [take_getD c] at h2
      omega
theorem law_more (ok : W.Ok) (hf : 0 ≤ topAt W f) {k m : Nat} (h : k ≤ m) (hm : m ≤ (rowsAt W f).length) : (grow (lowAt W f) (highAt W f) k).length ≤ (grow (lowAt W f) (highAt W f) m).length := by
  induction h with
  | refl => exact Nat.le_refl _
  | step h ih => exact Nat.le_trans (ih (by omega)) (grow_more fun t ht => law_goes ok hf (by omega) ht)
end
end Lk

/-! ## D28 -/
set_option Elab.async false
set_option linter.all false
set_option maxRecDepth 100000
set_option maxHeartbeats 2000000
namespace Lk
open PySem PySem.Spec PyProof.Rows L2 Gx
open GxR (TabG Tabbed TabB)
variable [Own]
theorem units1 {k : Nat} {A : Around} (h : Room k A) : A.units + 65 < cLine := by
  have := h.un
  omega
abbrev s__law_told : Stmt := top 44
theorem sc__law_told : FnScope ["web", "rules", "state", "folk", "seen", "one", "sign", "rows"] ["web", "rules", "state", "folk"] (defScope s__law_told) := ⟨rfl, rfl, rfl, by decide +kernel, rfl, by decide +kernel, by decide +kernel⟩
abbrev s__law_behind : Stmt := top 45
theorem sc__law_behind : FnScope ["web", "rules", "state", "folk"] ["web", "rules", "state"] (defScope s__law_behind) := ⟨rfl, rfl, rfl, by decide +kernel, rfl, by decide +kernel, by decide +kernel⟩
abbrev s__law_settled : Stmt := top 46
theorem sc__law_settled : FnScope ["web", "rules", "state"] ["web", "rules"] (defScope s__law_settled) := ⟨rfl, rfl, rfl, by decide +kernel, rfl, by decide +kernel, by decide +kernel⟩
abbrev spLawTold : Sp := spMoodTold
abbrev spLawBehind : Sp := spStateTold
def spLawSettled : Sp := fun vs H Q _ => ∃ (v r : V) (W : Web) (ru : List (List Int)), vs = [v, r] ∧ WebAt H v W ∧ W.Ok ∧ TT2 H r ru ∧ RuOk W ru ∧ ∀ H' u, Ext H H' → LT2 H' (.ref u) (settledStates W ru) → Q (.ref u) H'
section
variable {P : Program} {w : World} {K : PySem.W.Frag} {mg : Str → Option Value} {base : Heap} {Ps : List Addr}
theorem ok_law_told {f : Addr} {fd : FuncData} (F : Fun K "_law_told" "_law_told" s__law_told f fd) (B : Blt mg)
    (c__law_seen : Cal P w K mg base CX0 1 "_law_seen" ["web", "folk"] spLawSeen) (c__law_moods : Cal P w K mg base CX0 1 "_law_moods" ["tops"] spLawMoods) : FnOk P w K mg base CX0 2 f fd ["web", "rules", "state", "folk"] spLawTold := by
  refine F.ok sc__law_told (fun vs H Q E h => ?_) (fun cdv A outer s0 H vs Q E hr h => ?_)
  · obtain ⟨v, r, z, W, ru, st, n, rfl, _⟩ := h
    rfl
  · obtain ⟨v, r, z, W, ru, st, n, rfl, hW, ok, hru, rok, hst, so, hn, k⟩ := h
    obtain ⟨a, t, l, rfl, ha, ⟨tt, rfl, ht⟩, hl⟩ := id hW
    obtain ⟨ra, rv, rfl, hra, hrv⟩ := id hru
    obtain ⟨sa, rfl, hsa⟩ := id hst
    refine ⟨_, (pss_cons (ps_set (i := 4) sc__law_told.nd rfl (by first | exact Or.inl rfl | exact Or.inr rfl) (pe_c0 c__law_seen (hr.mono (by decide)) (by rfl) (pa_cons (pv 0) (pa_cons (pv 3) pa_nil))))
      (pss_cons (ps_set (i := 7) sc__law_told.nd rfl (by first | exact Or.inl rfl | exact Or.inr rfl) (pe_c0 c__law_moods (hr.mono (by decide)) (by rfl) (pa_cons (pe_lc (own := [("one", 5), ("sign", 6)]) rfl sc__law_told.nd (pi_list (pv 4)) (blkOk_by (N := ["web", "rules", "state", "folk", "seen", "one", "sign", "rows"]) (sc := defScope s__law_told) (by decide +kernel)) (fun _ _ _ _ _ => (pg_tupT (n := 2) rfl (pgs_cons (pg_name (i := 5) sc__law_told.nd rfl (by first | exact Or.inl rfl | exact Or.inr rfl)) (pgs_cons (pg_name (i := 6) sc__law_told.nd rfl (by first | exact Or.inl rfl | exact Or.inr rfl)) pgs_nil)))) (fun _ _ _ _ _ => pts_nil) (fun _ _ _ _ _ => (pe_ix ix_tT (pe_ix ix_tT (pv 0) pe_int (fun _ _ => rfl)) (pv 5) (fun _ _ => rfl)))) pa_nil)))
      (pss_one (ps_ret (pe_ix ix_tT (pe_ix ix_tT (pv 1) (pv 3) (fun _ _ => rfl)) (pe_bmL PySem.F.plainAttrs_list PySem.F.slot_list_index PySem.F.type_list_index (mt_indexTI (units1 hr)) (pv 7) (pa_cons (pe_tupleL (by rfl) B.tuple (pe_lc (own := [("one", 5), ("sign", 6)]) rfl sc__law_told.nd (pi_list (pv 4)) (blkOk_by (N := ["web", "rules", "state", "folk", "seen", "one", "sign", "rows"]) (sc := defScope s__law_told) (by decide +kernel)) (fun _ _ _ _ _ => (pg_tupT (n := 2) rfl (pgs_cons (pg_name (i := 5) sc__law_told.nd rfl (by first | exact Or.inl rfl | exact Or.inr rfl)) (pgs_cons (pg_name (i := 6) sc__law_told.nd rfl (by first | exact Or.inl rfl | exact Or.inr rfl)) pgs_nil)))) (fun _ _ _ _ _ => pts_nil) (fun _ _ _ _ _ => (pe_ix ix_tT (pv 2) (pv 5) (fun _ _ => rfl))))) pa_nil)) (fun _ _ => rfl)))))), ?_⟩
    refine ⟨_, rfl, _, rfl, _, W, n, rfl, hW, ok.most, fun H1 p vs E1 hp0 hp hvs => ?_⟩
    have lvs : vs.length = (looksOf W n).length := by rw [paired_len hvs, List.length_map]
    have l4 := looks_len ok n
    refine ⟨_, rfl, p, rfl, ⟨_, SqL.of hp⟩, fun D hD => ?_⟩
    refine lc_list (K := K) (a := p) (xs := vs) (fun i H' => H' D = some (.lst (iv (((looksOf W n).take i).map fun l => topAt W l.1))) ∧ Ext H1 H') ⟨by rw [upd_same]; rfl, Ext.new hD _⟩ (fun i H' _ ⟨_, e⟩ => SqL.of (e.lst hp)) (fun i x H' hi ⟨h1, e1⟩ => ?_) fun H2 ⟨h2, E2⟩ => ?_
    · obtain ⟨lk, q, hlk, rfl, hq⟩ := row2_at (pTI.ext e1 hvs) hi
      have lo := looksOf_ok ok lk (List.mem_of_getElem? hlk)
      refine ⟨q, _, rfl, hq, rfl, _, _, rfl, _, _, rfl, rfl, rfl, yes ?_⟩
      refine ⟨_, rfl, a, _, _, _, rfl, rfl, (E1.trans e1).tup ha, rfl, _, rfl, tt, _, _, _, rfl, rfl, (E1.trans e1).tup ht, at_of (j := lk.1.toNat) (by omega) (iv_at (topAt_get lo.1.1 lo.1.2)), _, h1, ?_, ?_, e1.put hD _⟩
      · rw [iv_len, List.length_map, List.length_take]
        exact small1000 (by omega)
      · rw [upd_same, take_snoc hlk, List.map_append]
        unfold iv
        rw [List.map_append]
        rfl
    rw [lvs, List.take_length] at h2
    have tk := topsAt_ok ok n
    refine ⟨D, true, _, rfl, h2, by rw [List.length_map]; omega, fun t ht => by have := tk t ht; omega, fun H3 rw_ E3 hrw0 hrw => ?_⟩
    have E13 := E2.trans E3
    obtain ⟨_, rvs, e, hrws, hrvs⟩ := id hrw
    cases e
    have hr1 : ru[n.toNat]? = some (ru.getD n.toNat []) := by rw [List.getD_eq_getElem?_getD, List.getElem?_eq_getElem (by rw [rok.len]; omega)]; rfl
    obtain ⟨tv, htv, ta, rfl, hta⟩ := paired_get hrv hr1
    have E3' := E1.trans E13
    refine ⟨_, rfl, _, rfl, ra, _, _, _, rfl, rfl, E3'.tup hra, at_of (j := n.toNat) (by omega) htv, ?_⟩
    refine ⟨_, rfl, ⟨rw_, rvs, rfl, hrws⟩, ?_⟩
    refine ⟨_, rfl, p, rfl, ⟨_, SqL.of (E13.lst hp)⟩, fun D' hD' => ?_⟩
    refine lc_list (K := K) (a := p) (xs := vs) (fun i H' => H' D' = some (.lst (iv (((looksOf W n).take i).map fun l => stAt st l.1))) ∧ Ext H3 H') ⟨by rw [upd_same]; rfl, Ext.new hD' _⟩ (fun i H' _ ⟨_, e⟩ => SqL.of (e.lst (E13.lst hp))) (fun i x H' hi ⟨h1, e1⟩ => ?_) fun H4 ⟨h4, E4⟩ => ?_
    · obtain ⟨lk, q, hlk, rfl, hq⟩ := row2_at (pTI.ext (E13.trans e1) hvs) hi
      have lo := looksOf_ok ok lk (List.mem_of_getElem? hlk)
      refine ⟨q, _, rfl, hq, rfl, _, _, rfl, _, _, rfl, rfl, rfl, yes ?_⟩
      refine ⟨_, rfl, _, rfl, sa, _, _, _, rfl, rfl, (E3'.trans e1).tup hsa, at_of (j := lk.1.toNat) (by omega) (iv_at (stAt_get lo.1.1 (by rw [so.len]; exact lo.1.2))), _, h1, ?_, ?_, e1.put hD' _⟩
      · rw [iv_len, List.length_map, List.length_take]
        exact small1000 (by omega)
      · rw [upd_same, take_snoc hlk, List.map_append]
        unfold iv
        rw [List.map_append]
        rfl
    rw [lvs, List.take_length] at h4
    refine ⟨D', _, rfl, h4, fun u hu => ?_⟩
    have E5 := E4.trans (Ext.new hu (.tup (iv ((looksOf W n).map fun l => stAt st l.1))))
    obtain ⟨p0, p1⟩ := place_row (W := W) (st := st) (ls := looksOf W n) fun l hl => by
      have lo := looksOf_ok ok l hl
      exact so.bd l.1 lo.1.1 lo.1.2
    rw [← rowsAt_rws] at p1
    have hpl : ((ru.getD n.toNat []).length : Int) = manyRows W n := rok.rows n hn.1 hn.2
    have hlt : (placeOf W st n).toNat < (ru.getD n.toNat []).length := by
      have h1 := (List.getElem?_eq_some_iff.mp p1).1
      rw [rowsAt_rws, rws_len, pr_prod] at h1
      rw [many_eq ok] at hpl
      have : (placeOf W st n).toNat < prodOf W (looksOf W n) := h1
      omega
    refine ⟨_, (looksOf W n).map fun l : Int × Int => stAt st l.1, rowsAt W n, (placeOf W st n).toNat, rfl, ⟨u, rfl, upd_same⟩, hrw.ext E5, p1, fun m hm h2 => ?_, ?_⟩
    · rw [rowsAt_rws] at p1 h2
      have := rws_inj p1 h2
      have : (placeOf W st n).toNat = m := this
      omega
    · refine ⟨ta, _, _, _, rfl, rfl, (E3'.trans E5).tup hta, at_of (j := (placeOf W st n).toNat) rfl (iv_at (n := moodTold W ru st n) ?_), k _ (E3'.trans E5)⟩
      unfold moodTold
      rw [List.getD_eq_getElem?_getD (l := ru.getD n.toNat []), List.getElem?_eq_getElem hlt]
      rfl
theorem ok_law_behind {f : Addr} {fd : FuncData} (F : Fun K "_law_behind" "_law_behind" s__law_behind f fd) (B : Blt mg)
    (c__law_told : Cal P w K mg base CX0 2 "_law_told" ["web", "rules", "state", "folk"] spLawTold) : FnOk P w K mg base CX0 3 f fd ["web", "rules", "state"] spLawBehind := by
  refine F.ok sc__law_behind (fun vs H Q E h => ?_) (fun cdv A outer s0 H vs Q E hr h => ?_)
  · obtain ⟨v, r, z, W, ru, st, rfl, _⟩ := h
    rfl
  · obtain ⟨v, r, z, W, ru, st, rfl, hW, ok, hru, rok, hst, so, k⟩ := h
    obtain ⟨a, t, l, rfl, ha, ⟨tt, rfl, ht⟩, hl⟩ := id hW
    refine ⟨_, (pss_one (ps_ret (pe_tupleL (by rfl) B.tuple (pe_lc (own := [("folk", 3)]) rfl sc__law_behind.nd (pi_range1 (by rfl) B.range (pa_cons (pe_callB call_lenT (by rfl) B.len PySem.boot_len (pa_cons (pe_ix ix_tT (pv 0) pe_int (fun _ _ => rfl)) pa_nil)) pa_nil)) (blkOk_by (N := ["web", "rules", "state", "folk"]) (sc := defScope s__law_behind) (by decide +kernel)) (fun _ _ _ _ _ => (pg_name (i := 3) sc__law_behind.nd rfl (by first | exact Or.inl rfl | exact Or.inr rfl))) (fun _ _ _ _ _ => pts_nil) (fun _ _ _ _ _ => (pe_c0 c__law_told (hr.mono (by decide)) (by rfl) (pa_cons (pv 0) (pa_cons (pv 1) (pa_cons (pv 2) (pa_cons (pv 3) pa_nil)))))))))), ?_⟩
    have h6 := ok.few
    refine ⟨_, rfl, a, _, _, _, rfl, rfl, ha, rfl, tt, _, rfl, .inr ht, _, rfl, by omega, by rw [iv_len]; omega, fun D hD => ?_⟩
    have en : ((iv W.tops).length : Int).toNat = W.tops.length := by rw [iv_len]; omega
    rw [en]
    refine lc_range (lo := 0) (n := W.tops.length) (fun i H' => H' D = some (.lst (iv ((List.range i).map fun f : Nat => moodTold W ru st (f : Int)))) ∧ Ext H H') ⟨upd_same, Ext.new hD _⟩ (fun i H' hi ⟨h1, e1⟩ => ?_) fun H' ⟨h1, e1⟩ => ?_
    · have ei : (0 : Int) + (i : Int) = (i : Int) := Int.zero_add _
      rw [ei]
      refine ⟨rfl, yes ?_⟩
      refine ⟨_, rfl, _, rfl, _, rfl, _, rfl, _, _, _, W, ru, st, _, rfl, hW.ext e1, ok, hru.ext e1, rok, hst.ext e1, so, ⟨by omega, by omega⟩, fun H2 e2 => ?_⟩
      refine ⟨_, e2.lst h1, ?_, ?_, (e1.trans e2).put hD _⟩
      · rw [iv_len, List.length_map, List.length_range]
        exact small1000 (by omega)
      · rw [upd_same, List.range_succ, List.map_append]
        unfold iv
        rw [List.map_append]
        rfl
    · refine ⟨D, _, rfl, h1, fun u hu => ?_⟩
      refine k _ u (e1.trans (Ext.new hu _)) (e1.free hu) ?_
      rw [upd_same]
      unfold stateTold
      rw [so.len]
theorem ok_law_settled {f : Addr} {fd : FuncData} (F : Fun K "_law_settled" "_law_settled" s__law_settled f fd) (B : Blt mg)
    (c__law_moods : Cal P w K mg base CX0 1 "_law_moods" ["tops"] spLawMoods) (c__law_behind : Cal P w K mg base CX0 3 "_law_behind" ["web", "rules", "state"] spLawBehind) : FnOk P w K mg base CX0 4 f fd ["web", "rules"] spLawSettled := by
  refine F.ok sc__law_settled (fun vs H Q E h => ?_) (fun cdv A outer s0 H vs Q E hr h => ?_)
  · obtain ⟨v, r, W, ru, rfl, _⟩ := h
    rfl
  · obtain ⟨v, r, W, ru, rfl, hW, ok, hru, rok, k⟩ := h
    obtain ⟨a, t, l, rfl, ha, ⟨tt, rfl, ht⟩, hl⟩ := id hW
    refine ⟨_, (pss_one (ps_ret (pe_lc (own := [("state", 2)]) rfl sc__law_settled.nd (pi_list (pe_c0 c__law_moods (hr.mono (by decide)) (by rfl) (pa_cons (pe_ix ix_tT (pv 0) pe_int (fun _ _ => rfl)) pa_nil))) (blkOk_by (N := ["web", "rules", "state"]) (sc := defScope s__law_settled) (by decide +kernel)) (fun _ _ _ _ _ => (pg_name (i := 2) sc__law_settled.nd rfl (by first | exact Or.inl rfl | exact Or.inr rfl))) (fun _ _ _ _ _ => (pts_one (pt_cmpR (op_eqTI hr.units) (pe_c0 c__law_behind (hr.mono (by decide)) (by rfl) (pa_cons (pv 0) (pa_cons (pv 1) (pa_cons (pv 2) pa_nil)))) (pv 2) (nomark _)))) (fun _ _ _ _ _ => (pv 2))))), ?_⟩
    have h6 := ok.few
    refine ⟨_, rfl, a, _, _, _, rfl, rfl, ha, rfl, tt, false, W.tops, rfl, ht, ok.few, fun t ht => by have := ok.tops t ht; omega, fun H1 p E1 hp0 hpl => ?_⟩
    obtain ⟨_, vs, e, hp, hvs⟩ := id hpl
    cases e
    refine ⟨p, rfl, ⟨_, SqL.of hp⟩, fun D hD => ?_⟩
    have hrl : (rowsOf W.tops).length ≤ 4096 := by
      have h1 := rows_len4 (tops := W.tops) (fun t ht => (ok.tops t ht).2) [[]]
      have h2 : 4 ^ W.tops.length ≤ 4 ^ 6 := Nat.pow_le_pow_right (by decide) ok.few
      simp only [List.length_singleton, Nat.one_mul] at h1
      exact Nat.le_trans h1 h2
    refine lc_list (K := K) (a := p) (xs := vs) (fun i H' => ∃ acc, H' D = some (.lst acc) ∧ Ext H1 H' ∧ acc.length ≤ i ∧ Paired (TI H') acc (((rowsOf W.tops).take i).filter fun st => decide (stateTold W ru st = st))) ⟨[], upd_same, Ext.new hD _, Nat.le_refl _, .nil⟩ (fun i H' _ ⟨_, _, e, _⟩ => SqL.of (e.lst hp)) (fun i x H' hi ⟨acc, hacc, e, hl, hpa⟩ => ?_) fun H' ⟨acc, hacc, e, hl, hpa⟩ => ?_
    · obtain ⟨st, hst, hx⟩ := paired_get' (pTI.ext e hvs) hi
      have E2 := E1.trans e
      have so := rows_st (W := W) (List.mem_of_getElem? hst)
      have hi4 : i < 4096 := by
        have := (List.getElem?_eq_some_iff.mp hst).1
        omega
      refine ⟨rfl, _, rfl, _, rfl, _, rfl, _, _, _, W, ru, st, rfl, hW.ext E2, ok, hru.ext E2, rok, hx, so, fun H3 u E3 hu0 hu => ?_⟩
      refine ⟨_, rfl, _, st, ⟨u, rfl, hu⟩, hx.ext E3, _, rfl, ?_⟩
      rw [List.take_add_one, hst, List.filter_append]
      by_cases hc : stateTold W ru st = st
      · rw [decide_eq_true hc]
        refine iteT ⟨_, rfl, acc, E3.lst hacc, Nat.lt_of_lt_of_le (show acc.length < 5000 by omega) (by decide), acc ++ [x], upd_same, (e.trans E3).put hD _, by rw [List.length_append]; simp; omega, ?_⟩
        · have F1 : List.filter (fun st => decide (stateTold W ru st = st)) (some st).toList = [st] := by simp [hc]
          rw [F1]
          exact pTI.put (E3.lst hacc) (fun _ _ h => h) (paired_snoc (hx.ext E3) (pTI.ext E3 hpa))
      · rw [decide_eq_false hc]
        have F1 : List.filter (fun st => decide (stateTold W ru st = st)) (some st).toList = [] := by simp [hc]
        rw [F1, List.append_nil]
        exact iteF ⟨acc, E3.lst hacc, e.trans E3, by omega, pTI.ext E3 hpa⟩
    · have hvl : vs.length = (rowsOf W.tops).length := paired_len hvs
      rw [hvl, List.take_length] at hpa
      exact k _ D (E1.trans e) ⟨D, acc, rfl, hacc, hpa⟩
end
end Lk


/-! ## D94 -/
set_option Elab.async false
set_option linter.all false
set_option maxRecDepth 100000
set_option maxHeartbeats 2000000
namespace Lk
open PySem PySem.Spec PyProof.Rows L2 Gx
open GxR (TabG Tabbed TabB)
variable [Own]
abbrev s__law_tables : Stmt := top 40
theorem sc__law_tables : FnScope ["web", "folk", "most", "seen", "one", "sign", "rows", "signs", "found", "at", "here", "k", "under", "over", "longer", "told", "low", "high", "mood"] ["web", "folk", "most"] (defScope s__law_tables) := ⟨rfl, rfl, rfl, by decide +kernel, rfl, by decide +kernel, by decide +kernel⟩
abbrev s__law_every : Stmt := top 43
theorem sc__law_every : FnScope ["web", "most", "found", "folk", "some", "longer", "rules", "table"] ["web", "most"] (defScope s__law_every) := ⟨rfl, rfl, rfl, by decide +kernel, rfl, by decide +kernel, by decide +kernel⟩
def spLawTables : Sp := fun vs H Q _ => ∃ (v : V) (W : Web) (f : Int) (most : Nat), vs = [v, .int f, .int most] ∧ WebAt H v W ∧ W.Ok ∧ (0 ≤ f ∧ f < W.tops.length) ∧ most ≤ 3000 ∧
  (most < (tablesOf W f).length → ∀ H', Ext H H' → Q .non H') ∧ ((tablesOf W f).length ≤ most → ∀ H' q, Ext H H' → LT2 H' (.ref q) (tablesOf W f) → Q (.ref q) H')
theorem cases_len (W : Web) : (casesOf W).length = W.tops.length := by
  unfold casesOf
  rw [List.length_map, nums_len]
  omega
def spLawEvery : Sp := fun vs H Q _ => ∃ (v : V) (W : Web) (most : Nat), vs = [v, .int most] ∧ WebAt H v W ∧ W.Ok ∧ most ≤ 1000 ∧
  (¬ ((∀ j, j < W.tops.length → (tablesOf W (j : Int)).length ≤ most) ∧ ∀ j, 0 < j → j ≤ W.tops.length → lensOf ((casesOf W).take j) ≤ most) → ∀ H', Ext H H' → Q .non H') ∧ ((∀ j, j < W.tops.length → (tablesOf W (j : Int)).length ≤ most) → (∀ j, 0 < j → j ≤ W.tops.length → lensOf ((casesOf W).take j) ≤ most) → ∀ H' q us, Ext H H' → H' q = some (.lst us) → Paired (TT2 H') us (rulesAll (casesOf W)) → Q (.ref q) H')
theorem cat_gen {H : Hp} {z u : Addr} {xs : List V} {y : V} {Q : VK} (hz : H z = some (.tup xs)) (hu : H u = none) (hl : xs.length ≤ 10000) (k : ∀ H7 r, Ext H H7 → H7 r = some (.tup (xs ++ [y])) → Q (.ref r) H7) :
    rCatT (.ref z) (.ref u) (upd H u (.tup [y])) Q := by
  have hzu : z ≠ u := ne_of_none hz hu
  refine ⟨z, u, xs, _, rfl, rfl, by rw [upd_ne hzu]; exact hz, upd_same, by show xs.length + 1 ≤ sizeLine; exact Nat.le_trans (show xs.length + 1 ≤ 10001 by omega) (by decide), fun e0 => ?_, (fun _ e0 => by cases e0), fun e0 _ v hv => ?_⟩
  · refine k _ _ (Ext.new hu _) ?_
    subst e0
    exact upd_same
  · exact k _ _ ((Ext.new hu _).trans (Ext.new hv _)) upd_same
theorem rules_len : ∀ (cs : List (List (List Int))) (i : Nat), i ≤ cs.length → (rulesAll (cs.take i)).length = lensOf (cs.take i)
  | cs, 0, _ => rfl
  | cs, i + 1, h => by
    have hc : cs[i]? = some cs[i] := List.getElem?_eq_getElem (by omega)
    rw [rules_snoc hc, lens_snoc hc, flat_len (m := cs[i].length) fun l _ => by rw [List.length_map], rules_len cs i (by omega)]
theorem mx_cons {a m : Int} {l : List Int} (h1 : m ∈ a :: l) (h2 : ∀ y ∈ a :: l, y ≤ m) : m = maxFrom a l := by
  refine Int.le_antisymm ?_ ((maxFrom_le l a m).mpr ⟨h2 a (List.mem_cons_self ..), fun y hy => h2 y (List.mem_cons_of_mem _ hy)⟩)
  have hh := (maxFrom_le l a (maxFrom a l)).mp (Int.le_refl _)
  rcases List.mem_cons.mp h1 with h | h
  · rw [h]; exact hh.1
  · exact hh.2 m h
theorem mn_cons {a m : Int} {l : List Int} (h1 : m ∈ a :: l) (h2 : ∀ y ∈ a :: l, m ≤ y) : m = minFrom a l := by
  refine Int.le_antisymm ((le_minFrom l a m).mpr ⟨h2 a (List.mem_cons_self ..), fun y hy => h2 y (List.mem_cons_of_mem _ hy)⟩) ?_
  have hh := (le_minFrom l a (minFrom a l)).mp (Int.le_refl _)
  rcases List.mem_cons.mp h1 with h | h
  · rw [h]; exact hh.1
  · exact hh.2 m h
theorem nums_nat (i : Nat) : nums 0 (i : Int) = (List.range i).map fun k : Nat => (k : Int) := by
  unfold nums
  rw [Int.sub_zero, Int.toNat_natCast]
  exact List.map_congr_left fun k _ => Int.zero_add _
theorem nums_top (lo hi : Int) : nums lo (lo + ((hi - lo).toNat : Int)) = nums lo hi := by
  unfold nums
  rw [show lo + ((hi - lo).toNat : Int) - lo = ((hi - lo).toNat : Int) by omega, Int.toNat_natCast]
theorem lowAt_ge (W : Web) (f : Int) (t : List Int) : 0 ≤ lowAt W f t := ((maxFrom_le _ 0 (lowAt W f t)).mp (Int.le_refl _)).1
theorem highAt_le (W : Web) (f : Int) (t : List Int) : highAt W f t ≤ topAt W f := ((le_minFrom _ (topAt W f) (highAt W f t)).mp (Int.le_refl _)).1
theorem grownG {lo hi : List Int → Int} {top : Int} (h0 : ∀ t, 0 ≤ lo t) (h1 : ∀ t, hi t ≤ top) {k : Nat} {t : List Int} (h : t ∈ grow lo hi k) : t.length = k ∧ ∀ m ∈ t, 0 ≤ m ∧ m ≤ top := by
  obtain ⟨e1, e2⟩ := (grow_mem k).mp h
  refine ⟨e1, fun m hm => ?_⟩
  obtain ⟨i, hi, rfl⟩ := List.mem_iff_getElem.mp hm
  have e : t.getD i 0 = t[i] := by rw [List.getD_eq_getElem?_getD, List.getElem?_eq_getElem hi]; rfl
  have h3 := e2 i (by omega)
  have h4 := h0 (t.take i)
  have h5 := h1 (t.take i)
  omega
theorem paired_getR {α β : Type} {R : α → β → Prop} : ∀ {l : List α} {m : List β} {i : Nat} {b : β}, Paired R l m → m[i]? = some b → ∃ a, l[i]? = some a ∧ R a b
  | _, _, 0, b, .cons r _, h => by
    cases h
    exact ⟨_, rfl, r⟩
  | _, _, i + 1, b, .cons _ t, h => by
    obtain ⟨a, h1, h2⟩ := paired_getR t (by simpa using h)
    exact ⟨a, by simpa using h1, h2⟩
section
variable {P : Program} {w : World} {K : PySem.W.Frag} {mg : Str → Option Value} {base : Heap} {Ps : List Addr}
theorem ok_law_tables {f : Addr} {fd : FuncData} (F : Fun K "_law_tables" "_law_tables" s__law_tables f fd) (B : Blt mg) (bmin : mg "min" = none)
    (c__law_seen : Cal P w K mg base CX0 1 "_law_seen" ["web", "folk"] spLawSeen) (c__law_moods : Cal P w K mg base CX0 1 "_law_moods" ["tops"] spLawMoods) (c__law_goes : Cal P w K mg base CX0 1 "_law_goes" ["signs", "one", "other"] spLawGoes) :
    FnOk P w K mg base CX0 2 f fd ["web", "folk", "most"] spLawTables := by
  refine F.ok sc__law_tables (fun vs H Q E h => ?_) (fun cdv A outer s0 H vs Q E hr h => ?_)
  · obtain ⟨v, W, n, m, rfl, _⟩ := h
    rfl
  · obtain ⟨v, W, n, most, rfl, hW, ok, hn, hmost, k0, k1⟩ := h
    refine ⟨_, (pss_cons (ps_set (i := 3) sc__law_tables.nd rfl (by first | exact Or.inl rfl | exact Or.inr rfl) (pe_c0 c__law_seen (hr.mono (by decide)) (by rfl) (pa_cons (pv 0) (pa_cons (pv 1) pa_nil))))
      (pss_cons (ps_asg (pe_tup (pa_cons (pe_c0 c__law_moods (hr.mono (by decide)) (by rfl) (pa_cons (pe_lc (own := [("one", 4), ("sign", 5)]) rfl sc__law_tables.nd (pi_list (pv 3)) (blkOk_by (N := ["web", "folk", "most", "seen", "one", "sign", "rows", "signs", "found", "at", "here", "k", "under", "over", "longer", "told", "low", "high", "mood"]) (sc := defScope s__law_tables) (by decide +kernel)) (fun _ _ _ _ _ => (pg_tupT (n := 2) rfl (pgs_cons (pg_name (i := 4) sc__law_tables.nd rfl (by first | exact Or.inl rfl | exact Or.inr rfl)) (pgs_cons (pg_name (i := 5) sc__law_tables.nd rfl (by first | exact Or.inl rfl | exact Or.inr rfl)) pgs_nil)))) (fun _ _ _ _ _ => pts_nil) (fun _ _ _ _ _ => (pe_ix ix_tT (pe_ix ix_tT (pv 0) pe_int (fun _ _ => rfl)) (pv 4) (fun _ _ => rfl)))) pa_nil)) (pa_cons (pe_lc (own := [("one", 4), ("sign", 5)]) rfl sc__law_tables.nd (pi_list (pv 3)) (blkOk_by (N := ["web", "folk", "most", "seen", "one", "sign", "rows", "signs", "found", "at", "here", "k", "under", "over", "longer", "told", "low", "high", "mood"]) (sc := defScope s__law_tables) (by decide +kernel)) (fun _ _ _ _ _ => (pg_tupT (n := 2) rfl (pgs_cons (pg_name (i := 4) sc__law_tables.nd rfl (by first | exact Or.inl rfl | exact Or.inr rfl)) (pgs_cons (pg_name (i := 5) sc__law_tables.nd rfl (by first | exact Or.inl rfl | exact Or.inr rfl)) pgs_nil)))) (fun _ _ _ _ _ => pts_nil) (fun _ _ _ _ _ => (pv 5))) (pa_cons (pe_lst (pa_cons (pe_tup pa_nil) pa_nil)) pa_nil)))) (pg_tupT (n := 3) rfl (pgs_cons (pg_name (i := 6) sc__law_tables.nd rfl (by first | exact Or.inl rfl | exact Or.inr rfl)) (pgs_cons (pg_name (i := 7) sc__law_tables.nd rfl (by first | exact Or.inl rfl | exact Or.inr rfl)) (pgs_cons (pg_name (i := 8) sc__law_tables.nd rfl (by first | exact Or.inl rfl | exact Or.inr rfl)) pgs_nil)))))
      (pss_cons (ps_for PassesOwn.never rfl (pi_enum (by rfl) B.enum (pa_cons (pv 6) pa_nil)) (pg_tupT (n := 2) rfl (pgs_cons (pg_name (i := 9) sc__law_tables.nd rfl (by first | exact Or.inl rfl | exact Or.inr rfl)) (pgs_cons (pg_name (i := 10) sc__law_tables.nd rfl (by first | exact Or.inl rfl | exact Or.inr rfl)) pgs_nil)))
        (pss_cons (ps_setLc (i := 12) (own := [("k", 11)]) rfl sc__law_tables.nd rfl rfl (sw_true rfl rfl rfl (by decide +kernel)) (pi_range1 (by rfl) B.range (pa_cons (pv 9) pa_nil)) (blkOk_by (N := ["web", "folk", "most", "seen", "one", "sign", "rows", "signs", "found", "at", "here", "k", "under", "over", "longer", "told", "low", "high", "mood"]) (sc := defScope s__law_tables) (by decide +kernel)) (fun _ _ _ _ _ => (pg_name (i := 11) sc__law_tables.nd rfl (by first | exact Or.inl rfl | exact Or.inr rfl))) (fun _ _ _ _ _ => (pts_one (pt_val (pe_c0 c__law_goes (hr.mono (by decide)) (by rfl) (pa_cons (pv 7) (pa_cons (pe_ix ix_lT (pv 6) (pv 11) (fun _ _ => rfl)) (pa_cons (pv 10) pa_nil))))))) (fun _ _ _ _ _ => (pv 11)))
        (pss_cons (ps_setLc (i := 13) (own := [("k", 11)]) rfl sc__law_tables.nd rfl rfl (sw_true rfl rfl rfl (by decide +kernel)) (pi_range1 (by rfl) B.range (pa_cons (pv 9) pa_nil)) (blkOk_by (N := ["web", "folk", "most", "seen", "one", "sign", "rows", "signs", "found", "at", "here", "k", "under", "over", "longer", "told", "low", "high", "mood"]) (sc := defScope s__law_tables) (by decide +kernel)) (fun _ _ _ _ _ => (pg_name (i := 11) sc__law_tables.nd rfl (by first | exact Or.inl rfl | exact Or.inr rfl))) (fun _ _ _ _ _ => (pts_one (pt_val (pe_c0 c__law_goes (hr.mono (by decide)) (by rfl) (pa_cons (pv 7) (pa_cons (pv 10) (pa_cons (pe_ix ix_lT (pv 6) (pv 11) (fun _ _ => rfl)) pa_nil))))))) (fun _ _ _ _ _ => (pv 11)))
        (pss_cons (ps_set (i := 14) sc__law_tables.nd rfl (by first | exact Or.inl rfl | exact Or.inr rfl) (pe_lst pa_nil))
        (pss_cons (ps_for PassesOwn.never rfl (pi_list (pv 8)) (pg_name (i := 15) sc__law_tables.nd rfl (by first | exact Or.inl rfl | exact Or.inr rfl))
          (pss_cons (ps_par (i := 16) (j := 17) rfl sc__law_tables.nd rfl rfl (by decide) rfl rfl (pa_cons (pe_callB (cr_max rfl) (by rfl) B.max boot_max (pa_cons (pe_op op_cat (pe_lst (pa_cons pe_int pa_nil)) (pe_lc (own := [("k", 11)]) rfl sc__law_tables.nd (pi_list (pv 12)) (blkOk_by (N := ["web", "folk", "most", "seen", "one", "sign", "rows", "signs", "found", "at", "here", "k", "under", "over", "longer", "told", "low", "high", "mood"]) (sc := defScope s__law_tables) (by decide +kernel)) (fun _ _ _ _ _ => (pg_name (i := 11) sc__law_tables.nd rfl (by first | exact Or.inl rfl | exact Or.inr rfl))) (fun _ _ _ _ _ => pts_nil) (fun _ _ _ _ _ => (pe_ix ix_tT (pv 15) (pv 11) (fun _ _ => rfl))))) pa_nil)) (pa_cons (pe_callB (cr_min rfl) (by rfl) bmin boot_min (pa_cons (pe_op op_cat (pe_lst (pa_cons (pe_ix ix_tT (pe_ix ix_tT (pv 0) pe_int (fun _ _ => rfl)) (pv 1) (fun _ _ => rfl)) pa_nil)) (pe_lc (own := [("k", 11)]) rfl sc__law_tables.nd (pi_list (pv 13)) (blkOk_by (N := ["web", "folk", "most", "seen", "one", "sign", "rows", "signs", "found", "at", "here", "k", "under", "over", "longer", "told", "low", "high", "mood"]) (sc := defScope s__law_tables) (by decide +kernel)) (fun _ _ _ _ _ => (pg_name (i := 11) sc__law_tables.nd rfl (by first | exact Or.inl rfl | exact Or.inr rfl))) (fun _ _ _ _ _ => pts_nil) (fun _ _ _ _ _ => (pe_ix ix_tT (pv 15) (pv 11) (fun _ _ => rfl))))) pa_nil)) pa_nil)) (by rfl))
          (pss_one (ps_set (i := 14) sc__law_tables.nd rfl (by first | exact Or.inl rfl | exact Or.inr rfl) (pe_op op_cat (pv 14) (pe_lc (own := [("mood", 18)]) rfl sc__law_tables.nd (pi_range2 (by rfl) B.range (pa_cons (pv 16) (pa_cons (pe_op op_add (pv 17) pe_int) pa_nil))) (blkOk_by (N := ["web", "folk", "most", "seen", "one", "sign", "rows", "signs", "found", "at", "here", "k", "under", "over", "longer", "told", "low", "high", "mood"]) (sc := defScope s__law_tables) (by decide +kernel)) (fun _ _ _ _ _ => (pg_name (i := 18) sc__law_tables.nd rfl (by first | exact Or.inl rfl | exact Or.inr rfl))) (fun _ _ _ _ _ => pts_nil) (fun _ _ _ _ _ => (pe_op op_catTT (pv 15) (pe_tup (pa_cons (pv 18) pa_nil))))))))))
        (pss_cons (ps_set (i := 8) sc__law_tables.nd rfl (by first | exact Or.inl rfl | exact Or.inr rfl) (pv 14))
        (pss_one (ps_if (pt_cmpR op_gt (pe_callB call_lenT (by rfl) B.len PySem.boot_len (pa_cons (pv 8) pa_nil)) (pv 2) (nomark _))
          (pss_one (ps_ret pe_non)) pss_nil))))))))
      (pss_one (ps_ret (pv 8)))))), ?_⟩
    obtain ⟨a, t, l, rfl, ha, ⟨tt, rfl, ht⟩, hl⟩ := id hW
    refine ⟨_, rfl, _, rfl, _, W, n, rfl, hW, ok.most, fun H1 p vs E1 hp0 hp hvs => ?_⟩
    have lvs : vs.length = (looksOf W n).length := by rw [paired_len hvs, List.length_map]
    have l4 := looks_len ok n
    refine ⟨_, rfl, p, rfl, ⟨_, SqL.of hp⟩, fun D hD => ?_⟩
    refine lc_list (K := K) (a := p) (xs := vs) (fun i H' => H' D = some (.lst (iv (((looksOf W n).take i).map fun l => topAt W l.1))) ∧ Ext H1 H') ⟨by rw [upd_same]; rfl, Ext.new hD _⟩ (fun i H' _ ⟨_, e⟩ => SqL.of (e.lst hp)) (fun i x H' hi ⟨h1, e1⟩ => ?_) fun H2 ⟨h2, E2⟩ => ?_
    · obtain ⟨lk, q, hlk, rfl, hq⟩ := row2_at (pTI.ext e1 hvs) hi
      have lo := looksOf_ok ok lk (List.mem_of_getElem? hlk)
      refine ⟨q, _, rfl, hq, rfl, _, _, rfl, _, _, rfl, rfl, rfl, yes ?_⟩
      refine ⟨_, rfl, a, _, _, _, rfl, rfl, (E1.trans e1).tup ha, rfl, _, rfl, tt, _, _, _, rfl, rfl, (E1.trans e1).tup ht, at_of (j := lk.1.toNat) (by omega) (iv_at (topAt_get lo.1.1 lo.1.2)), _, h1, ?_, ?_, e1.put hD _⟩
      · rw [iv_len, List.length_map, List.length_take]
        exact small1000 (by omega)
      · rw [upd_same, take_snoc hlk, List.map_append]
        unfold iv
        rw [List.map_append]
        rfl
    rw [lvs, List.take_length] at h2
    have tk := topsAt_ok ok n
    refine ⟨D, true, _, rfl, h2, by rw [List.length_map]; omega, fun t ht => by have := tk t ht; omega, fun H3 rw_ E3 hrw0 hrw => ?_⟩
    have E13 := E2.trans E3
    refine ⟨_, rfl, p, rfl, ⟨_, SqL.of (E13.lst hp)⟩, fun D' hD' => ?_⟩
    refine lc_list (K := K) (a := p) (xs := vs) (fun i H' => H' D' = some (.lst (iv (((looksOf W n).take i).map fun l => l.2))) ∧ Ext H3 H') ⟨by rw [upd_same]; rfl, Ext.new hD' _⟩ (fun i H' _ ⟨_, e⟩ => SqL.of (e.lst (E13.lst hp))) (fun i x H' hi ⟨h1, e1⟩ => ?_) fun H4 ⟨h4, E4⟩ => ?_
    · obtain ⟨lk, q, hlk, rfl, hq⟩ := row2_at (pTI.ext (E13.trans e1) hvs) hi
      refine ⟨q, _, rfl, hq, rfl, _, _, rfl, _, _, rfl, rfl, rfl, yes ?_⟩
      refine ⟨_, rfl, _, h1, ?_, ?_, e1.put hD' _⟩
      · rw [iv_len, List.length_map, List.length_take]
        exact small1000 (by omega)
      · rw [upd_same, take_snoc hlk, List.map_append]
        unfold iv
        rw [List.map_append]
        rfl
    rw [lvs, List.take_length] at h4
    refine ⟨(by show 0 ≤ sizeLine; decide), fun q0 hq0 => ⟨(by show 1 ≤ sizeLine; decide), fun L0 hL0 => ?_⟩⟩
    have eq0 := Ext.new hq0 (.tup [])
    have eL0 := Ext.new hL0 (.lst [.ref q0])
    have hqx := eL0.tup (show (upd H4 q0 (.tup [])) q0 = some (.tup []) from upd_same)
    have hLx : (upd (upd H4 q0 (.tup [])) L0 (.lst [.ref q0])) L0 = some (.lst [.ref q0]) := upd_same
    have E4x := E4.trans (eq0.trans eL0)
    have h4x := (eq0.trans eL0).lst h4
    generalize upd (upd H4 q0 (.tup [])) L0 (.lst [.ref q0]) = H4' at *
    refine ⟨(by show 3 ≤ sizeLine; decide), fun u hu => ⟨u, _, rfl, upd_same, rfl, _, _, rfl, _, _, rfl, _, _, rfl, rfl, ?_⟩⟩
    have EU := Ext.new hu (.tup [.ref rw_, .ref D', .ref L0])
    generalize upd H4' u (.tup [.ref rw_, .ref D', .ref L0]) = Hb at EU ⊢
    have EHb : Ext H3 Hb := E4x.trans EU
    have Eb : Ext H Hb := (E1.trans E13).trans EHb
    obtain ⟨rvs, hrws, hrvs⟩ : ∃ rvs, Hb rw_ = some (.lst rvs) ∧ Paired (TI Hb) rvs (rowsAt W n) := by
      obtain ⟨_, rvs, e, h, q⟩ := LT2.ext' EHb hrw
      cases e
      exact ⟨rvs, h, q⟩
    have hsg : Hb D' = some (.lst (iv (signsAt W n))) := EU.lst h4x
    have lrv : rvs.length = (rowsAt W n).length := paired_len hrvs
    have l256 := rowsAt_len ok n
    have tn := topAt_ok ok hn.1 hn.2
    have hfirst : Hb L0 = some (.lst [.ref q0]) := EU.lst hLx
    have hq0b : Hb q0 = some (.tup []) := EU.tup hqx
    refine ⟨_, rfl, rw_, rvs, rfl, SqL.of hrws, for_walk (walk_enum (K := K) (a := rw_) (xs := rvs)) (fun i σ H' => ∃ (Lf : Addr) (fv : List V) (o4 o5 o9 o10 o11 o12 o13 o14 o15 o16 o17 o18 : Option V), σ = [some (.ref a), some (.int n), some (.int most), some (.ref p), o4, o5, some (.ref rw_), some (.ref D'), some (.ref Lf), o9, o10, o11, o12, o13, o14, o15, o16, o17, o18] ∧ Ext Hb H' ∧ H' Lf = some (.lst fv) ∧ Paired (TI H') fv (grow (lowAt W n) (highAt W n) i) ∧ (grow (lowAt W n) (highAt W n) i).length ≤ 3000 ∧ (0 < i → (grow (lowAt W n) (highAt W n) i).length ≤ most))
      ⟨L0, _, _, _, _, _, _, _, _, _, _, _, _, _, rfl, Ext.refl _, hfirst, .cons ⟨q0, rfl, hq0b⟩ .nil, (show ([[]] : List (List Int)).length ≤ 3000 by decide), fun h => absurd h (Nat.lt_irrefl _)⟩ (fun i σ H' _ ⟨_, _, _, _, _, _, _, _, _, _, _, _, _, _, _, e, _⟩ => SqL.of (e.lst hrws)) ?_ ?_⟩
    · rintro i x σ H5 H6 hi ⟨Lf, fv, o4, o5, o9, o10, o11, o12, o13, o14, o15, o16, o17, o18, rfl, E5, hLf, hfv, few, _⟩ ⟨T, y0, y, rfl, hT, rfl, hy0, hy⟩
      cases hy0
      have ET := Ext.new hT (.tup [.int (i : Nat), y])
      have E6 := E5.trans ET
      obtain ⟨row, hrow, z, rfl, hz⟩ := paired_get' (pTI.ext E6 hrvs) hy
      have hrm := List.mem_of_getElem? hrow
      have hi2 : i < (rowsAt W n).length := (List.getElem?_eq_some_iff.mp hrow).1
      have eri : (rowsAt W n).getD i [] = row := by rw [List.getD_eq_getElem?_getD, hrow]; rfl
      have hLf6 := ET.lst hLf
      have hfv6 := pTI.ext ET hfv
      have hTx : (upd H5 T (.tup [.int (i : Nat), V.ref z])) T = some (.tup [.int (i : Nat), V.ref z]) := upd_same
      generalize upd H5 T (.tup [.int (i : Nat), V.ref z]) = H6 at *
      refine ⟨T, _, rfl, hTx, rfl, _, _, rfl, _, _, rfl, rfl, ?_⟩
      have rowl : ∀ {r : List Int}, r ∈ rowsAt W n → r.length = (signsAt W n).length := fun {r} h => by rw [rowsAt_row h]; unfold signsAt; rw [List.length_map]
      have sl : (signsAt W n).length ≤ 1000 := by unfold signsAt; rw [List.length_map]; omega
      have rb : ∀ {r : List Int}, r ∈ rowsAt W n → ∀ x ∈ r, 0 ≤ x ∧ x ≤ 1000 := fun {r} h x hx => by have := rowsAt_bd ok h x hx; omega
      -- under
      refine ⟨_, rfl, _, rfl, by omega, by omega, fun D1 hD1 => ?_⟩
      rw [Int.toNat_natCast]
      refine lc_fmR (lo := 0) (n := i) (S := VI) stVI (fun k => if lawGoes (signsAt W n) ((rowsAt W n).getD k.toNat []) row = true then some k else none) hD1 (Nat.le_of_lt (small1000 (by omega))) (fun k H7 Ky Kn e7 b0 b1 c1 c2 => ?_) fun H7 acc7 e7 h7 p7 => ?_
      · have hk : (rowsAt W n)[k.toNat]? = some ((rowsAt W n).getD k.toNat []) := by rw [List.getD_eq_getElem?_getD, List.getElem?_eq_getElem (by omega)] <;> rfl
        obtain ⟨kv, hkv, hkt⟩ := paired_getR (pTI.ext (E6.trans e7) hrvs) hk
        refine ⟨rfl, _, rfl, _, rfl, _, rfl, rw_, _, _, _, rfl, rfl, (E6.trans e7).lst hrws, at_of (j := k.toNat) (by omega) hkv, _, rfl, D', _, _, signsAt W n, _, row, rfl, (E6.trans e7).lst hsg, hkt, ⟨z, rfl, e7.tup hz⟩, rowl (List.mem_of_getElem? hk), rowl hrm, sl, signs_ok ok, rb (List.mem_of_getElem? hk), rb hrm, fun H8 e8 => ⟨_, rfl, ?_⟩⟩
        refine ite_of (fun hc => ?_) fun hc => ?_
        · exact ⟨_, rfl, c1 _ _ _ (if_pos hc) e8 rfl⟩
        · exact c2 _ (if_neg (by rw [hc]; simp)) e8
      rw [fmIf, Int.zero_add] at p7
      have ea := pVI p7
      subst ea
      have E7 := E6.trans e7
      -- over
      refine ⟨_, rfl, _, rfl, by omega, by omega, fun D2 hD2 => ?_⟩
      rw [Int.toNat_natCast]
      refine lc_fmR (lo := 0) (n := i) (S := VI) stVI (fun k => if lawGoes (signsAt W n) row ((rowsAt W n).getD k.toNat []) = true then some k else none) hD2 (Nat.le_of_lt (small1000 (by omega))) (fun k H8 Ky Kn e8 b0 b1 c1 c2 => ?_) fun H8 acc8 e8 h8 p8 => ?_
      · have hk : (rowsAt W n)[k.toNat]? = some ((rowsAt W n).getD k.toNat []) := by rw [List.getD_eq_getElem?_getD, List.getElem?_eq_getElem (by omega)] <;> rfl
        obtain ⟨kv, hkv, hkt⟩ := paired_getR (pTI.ext (E7.trans e8) hrvs) hk
        refine ⟨rfl, _, rfl, _, rfl, _, rfl, _, rfl, rw_, _, _, _, rfl, rfl, (E7.trans e8).lst hrws, at_of (j := k.toNat) (by omega) hkv, D', _, _, signsAt W n, row, _, rfl, (E7.trans e8).lst hsg, ⟨z, rfl, (e7.trans e8).tup hz⟩, hkt, rowl hrm, rowl (List.mem_of_getElem? hk), sl, signs_ok ok, rb hrm, rb (List.mem_of_getElem? hk), fun H9 e9 => ⟨_, rfl, ?_⟩⟩
        refine ite_of (fun hc => ?_) fun hc => ?_
        · exact ⟨_, rfl, c1 _ _ _ (if_pos hc) e9 rfl⟩
        · exact c2 _ (if_neg (by rw [hc]; simp)) e9
      rw [fmIf, Int.zero_add] at p8
      have ea := pVI p8
      subst ea
      have E8 := E7.trans e8
      have h7' := e8.lst h7
      generalize hun : ((nums 0 (i : Int)).filter fun k => lawGoes (signsAt W n) ((rowsAt W n).getD k.toNat []) row) = un at h7 h7' p7
      generalize hov : ((nums 0 (i : Int)).filter fun k => lawGoes (signsAt W n) row ((rowsAt W n).getD k.toNat [])) = ov at h8 p8
      have unb : ∀ k ∈ un, 0 ≤ k ∧ k < (i : Int) := fun k hk => by
        rw [← hun] at hk
        exact mem_nums.mp (List.mem_filter.mp hk).1
      have ovb : ∀ k ∈ ov, 0 ≤ k ∧ k < (i : Int) := fun k hk => by
        rw [← hov] at hk
        exact mem_nums.mp (List.mem_filter.mp hk).1
      have unl : un.length ≤ 256 := by
        rw [← hun]
        refine Nat.le_trans (List.length_filter_le _ _) ?_
        rw [nums_len]
        omega
      have ovl : ov.length ≤ 256 := by
        rw [← hov]
        refine Nat.le_trans (List.length_filter_le _ _) ?_
        rw [nums_len]
        omega
      have elow : ∀ t : List Int, t.length = i → maxFrom 0 (un.map fun k => t.getD k.toNat 0) = lowAt W n t := fun t ht => by
        rw [← hun, ← eri]
        unfold lowAt
        rw [ht, nums_nat, List.filter_map, List.map_map]
        rfl
      have ehigh : ∀ t : List Int, t.length = i → minFrom (topAt W n) (ov.map fun k => t.getD k.toNat 0) = highAt W n t := fun t ht => by
        rw [← hov, ← eri]
        unfold highAt
        rw [ht, nums_nat, List.filter_map, List.map_map]
        rfl
      refine ⟨(by show 0 ≤ sizeLine; decide), fun Lg0 hLg0 => ?_⟩
      have eg0 := Ext.new hLg0 (.lst [])
      have hLf9 := eg0.lst (e8.lst (e7.lst hLf6))
      have hfv9 := pTI.ext ((e7.trans e8).trans eg0) hfv6
      have h7g := eg0.lst h7'
      have h8g := eg0.lst h8
      have hgx : (upd H8 Lg0 (.lst [])) Lg0 = some (.lst []) := upd_same
      have E9 := E8.trans eg0
      generalize upd H8 Lg0 (.lst []) = H9 at *
      have lfv := paired_len hfv9
      refine ⟨_, rfl, Lf, rfl, ⟨_, SqL.of hLf9⟩, for_list (K := K) (a := Lf) (xs := fv) (fun j σ H' => ∃ (Lg : Addr) (gv : List V) (o11 o15 o16 o17 o18 : Option V), σ = [some (.ref a), some (.int n), some (.int most), some (.ref p), o4, o5, some (.ref rw_), some (.ref D'), some (.ref Lf), some (.int (i : Nat)), some (.ref z), o11, some (.ref D1), some (.ref D2), some (.ref Lg), o15, o16, o17, o18] ∧ Ext H9 H' ∧ H' Lg = some (.lst gv) ∧ gv.length ≤ 4 * j ∧ Paired (TI H') gv (((grow (lowAt W n) (highAt W n) i).take j).flatMap fun t => (nums (lowAt W n t) (highAt W n t + 1)).map fun m => t ++ [m]))
        ⟨Lg0, [], _, _, _, _, _, rfl, Ext.refl _, hgx, by simp, .nil⟩ (fun j σ H' _ ⟨_, _, _, _, _, _, _, _, e, _⟩ => SqL.of (e.lst hLf9)) ?_ ?_⟩
      · rintro j x σ Ha hj ⟨Lg, gv, o11, o15, o16, o17, o18, rfl, ea, hLg, lgv, hgv⟩
        obtain ⟨tb, htb, w, rfl, hw⟩ := paired_get' (pTI.ext ea hfv9) hj
        obtain ⟨tl, tbd⟩ := grownG (lowAt_ge W n) (highAt_le W n) (List.mem_of_getElem? htb)
        have hjl : j < fv.length := (List.getElem?_eq_some_iff.mp hj).1
        have el := elow tb tl
        have eh := ehigh tb tl
        have lob := lowAt_ge W n tb
        have hib := highAt_le W n tb
        have unm : ∀ y ∈ un.map (fun k => tb.getD k.toNat 0), 0 ≤ y ∧ y ≤ topAt W n := fun y hy => by
          obtain ⟨k, hk, rfl⟩ := List.mem_map.mp hy
          have := unb k hk
          exact tbd _ (List.mem_of_getElem? (getD_get (i := k.toNat) (by omega)))
        have ovm : ∀ y ∈ ov.map (fun k => tb.getD k.toNat 0), 0 ≤ y ∧ y ≤ topAt W n := fun y hy => by
          obtain ⟨k, hk, rfl⟩ := List.mem_map.mp hy
          have := ovb k hk
          exact tbd _ (List.mem_of_getElem? (getD_get (i := k.toNat) (by omega)))
        have lo3 : lowAt W n tb ≤ 3 := by
          rw [← el]
          exact (maxFrom_le _ 0 3).mpr ⟨by omega, fun y hy => by have := unm y hy; omega⟩
        have hi0 : 0 ≤ highAt W n tb := by
          rw [← eh]
          exact (le_minFrom _ _ 0).mpr ⟨by omega, fun y hy => (ovm y hy).1⟩
        -- max
        refine ⟨(by show 1 ≤ sizeLine; decide), fun z0 hz0 => ?_⟩
        have ez := Ext.new hz0 (.lst [V.int 0])
        have hD1a := ez.lst (ea.lst h7g)
        refine ⟨_, rfl, D1, rfl, ⟨_, SqL.of hD1a⟩, fun D3 hD3 => ?_⟩
        refine lc_toIL stVI (fun k => tb.getD k.toNat 0) hD3 hD1a (iv_pVI un) (by rw [iv_len]; exact Nat.le_of_lt (small1000 (by omega))) (fun x k Hc Ky ec hmem hx k1 => ?_) fun Hc ec hc => ?_
        · rw [show x = V.int k from hx]
          have kb := unb k hmem
          exact ⟨rfl, _, rfl, _, rfl, w, _, _, _, rfl, rfl, (ez.trans ec).tup hw, at_of (j := k.toNat) (by omega) (iv_at (getD_get (by omega))), k1 _ (Ext.refl _)⟩
        refine ⟨z0, D3, _, _, rfl, rfl, ec.lst upd_same, hc, by rw [iv_len, List.length_map]; exact Nat.le_of_lt (small1000 (by simp only [List.length_singleton]; omega)), fun q1 hq1 => ?_⟩
        refine ⟨q1, 0 :: un.map (fun k => tb.getD k.toNat 0), rfl, SqL.of upd_same, by simp, fun low hl1 hl2 => ?_⟩
        have elw : low = lowAt W n tb := by rw [← el]; exact mx_cons hl1 hl2
        subst elw
        have eq1 := Ext.new hq1 (.lst ([V.int 0] ++ iv (un.map fun k => tb.getD k.toNat 0)))
        have Ed := (ez.trans ec).trans eq1
        generalize upd Hc q1 (.lst ([V.int 0] ++ iv (un.map fun k => tb.getD k.toNat 0))) = Hd at *
        -- min
        have E9d := E9.trans (ea.trans Ed)
        refine ⟨_, rfl, a, _, _, _, rfl, rfl, (Eb.trans E9d).tup ha, rfl, _, rfl, tt, _, _, _, rfl, rfl, (Eb.trans E9d).tup ht, at_of (j := n.toNat) (by omega) (iv_at (topAt_get hn.1 hn.2)), ?_⟩
        refine ⟨(by show 1 ≤ sizeLine; decide), fun z1 hz1 => ?_⟩
        have ez1 := Ext.new hz1 (.lst [V.int (topAt W n)])
        have hD2a := ez1.lst (Ed.lst (ea.lst h8g))
        refine ⟨_, rfl, D2, rfl, ⟨_, SqL.of hD2a⟩, fun D4 hD4 => ?_⟩
        refine lc_toIL stVI (fun k => tb.getD k.toNat 0) hD4 hD2a (iv_pVI ov) (by rw [iv_len]; exact Nat.le_of_lt (small1000 (by omega))) (fun x k Hc Ky ec' hmem hx k1 => ?_) fun He ee he => ?_
        · rw [show x = V.int k from hx]
          have kb := ovb k hmem
          exact ⟨rfl, _, rfl, _, rfl, w, _, _, _, rfl, rfl, ((Ed.trans ez1).trans ec').tup hw, at_of (j := k.toNat) (by omega) (iv_at (getD_get (by omega))), k1 _ (Ext.refl _)⟩
        refine ⟨z1, D4, _, _, rfl, rfl, ee.lst upd_same, he, by rw [iv_len, List.length_map]; exact Nat.le_of_lt (small1000 (by simp only [List.length_singleton]; omega)), fun q2 hq2 => ?_⟩
        refine ⟨q2, topAt W n :: ov.map (fun k => tb.getD k.toNat 0), rfl, SqL.of upd_same, by simp, fun high hh1 hh2 => ?_⟩
        have ehw : high = highAt W n tb := by rw [← eh]; exact mn_cons hh1 hh2
        subst ehw
        have eq2 := Ext.new hq2 (.lst ([V.int (topAt W n)] ++ iv (ov.map fun k => tb.getD k.toNat 0)))
        have Ee := (ez1.trans ee).trans eq2
        generalize upd He q2 (.lst ([V.int (topAt W n)] ++ iv (ov.map fun k => tb.getD k.toNat 0))) = Hf at *
        refine ⟨_, _, rfl, ?_⟩
        have Ef := Ed.trans Ee
        -- longer
        refine ⟨_, rfl, _, rfl, _, rfl, _, _, rfl, rfl, _, _, rfl, ⟨by omega, by omega, by omega, by omega⟩, fun D5 hD5 => ?_⟩
        refine lc_fmR (lo := lowAt W n tb) (n := (highAt W n tb + 1 - lowAt W n tb).toNat) (S := TI) stTI (fun m => some (tb ++ [m])) hD5 (Nat.le_of_lt (small1000 (by omega))) (fun m Hg Ky Kn eg b0 b1 c1 c2 => ?_) fun Hg acc5 eg h5 p5 => ?_
        · refine ⟨rfl, yes ⟨_, rfl, _, rfl, (by show 1 ≤ sizeLine; decide), fun u1 hu1 => ?_⟩⟩
          exact cat_long ((Ef.trans eg).tup hw) hu1 (by omega) fun Hh y eh' hy => c1 _ _ _ rfl eh' hy
        rw [List.filterMap_eq_map', nums_top] at p5
        have l5 : acc5.length ≤ 4 := by
          rw [paired_len p5, List.length_map, nums_len]
          omega
        have Eg := Ef.trans eg
        refine ⟨Lg, D5, gv, acc5, rfl, rfl, Eg.lst hLg, h5, Nat.le_trans (show gv.length + acc5.length ≤ 20000 by omega) (by decide), fun L2 hL2 => ?_⟩
        have eL2 := Ext.new hL2 (.lst (gv ++ acc5))
        refine ⟨L2, gv ++ acc5, _, _, _, _, _, rfl, (ea.trans Eg).trans eL2, upd_same, by rw [List.length_append]; omega, ?_⟩
        rw [flatMap_take htb]
        exact paired_app (pTI.ext (Eg.trans eL2) hgv) (pTI.ext eL2 p5)
      · rintro σ Ha ⟨Lg, gv, o11, o15, o16, o17, o18, rfl, ea, hLg, lgv, hgv⟩
        rw [lfv, List.take_length] at hgv
        have hgv : Paired (TI Ha) gv (grow (lowAt W n) (highAt W n) (i + 1)) := hgv
        have lg := paired_len hgv
        refine ⟨_, rfl, _, rfl, _, _, rfl, .inl hLg, _, rfl, _, _, rfl, rfl, _, rfl, ?_⟩
        refine ite_of (fun hc => ?_) fun hc => ?_
        · refine k0 ?_ _ (Eb.trans (E9.trans ea))
          have h1 := of_decide_eq_true hc
          have h2 := law_more ok (show 0 ≤ topAt W n by omega) (show i + 1 ≤ (rowsAt W n).length by omega) (Nat.le_refl _)
          have h3 : (tablesOf W n).length = (grow (lowAt W n) (highAt W n) (rowsAt W n).length).length := rfl
          omega
        · have hle : gv.length ≤ most := by
            have := of_decide_eq_false hc
            omega
          exact ⟨Lg, gv, _, _, _, _, _, _, _, _, _, _, _, _, rfl, E9.trans ea, hLg, hgv, by omega, fun _ => by omega⟩
    · rintro σ H5 ⟨Lf, fv, o4, o5, o9, o10, o11, o12, o13, o14, o15, o16, o17, o18, rfl, E5, hLf, hfv, few, few2⟩
      rw [lrv] at hfv few2
      exact ⟨_, rfl, k1 (few2 l256.1) H5 Lf (Eb.trans E5) ⟨Lf, fv, rfl, hLf, hfv⟩⟩
theorem ok_law_every {f : Addr} {fd : FuncData} (F : Fun K "_law_every" "_law_every" s__law_every f fd) (B : Blt mg)
    (c__law_tables : Cal P w K mg base CX0 2 "_law_tables" ["web", "folk", "most"] spLawTables) : FnOk P w K mg base CX0 3 f fd ["web", "most"] spLawEvery := by
  refine F.ok sc__law_every (fun vs H Q E h => ?_) (fun cdv A outer s0 H vs Q E hr h => ?_)
  · obtain ⟨v, W, m, rfl, _⟩ := h
    rfl
  · obtain ⟨v, W, most, rfl, hW, ok, hmost, k0, k1⟩ := h
    refine ⟨_, (pss_cons (ps_set (i := 2) sc__law_every.nd rfl (by first | exact Or.inl rfl | exact Or.inr rfl) (pe_lst (pa_cons (pe_tup pa_nil) pa_nil)))
      (pss_cons (ps_for PassesOwn.never rfl (pi_range1 (by rfl) B.range (pa_cons (pe_callB call_lenT (by rfl) B.len PySem.boot_len (pa_cons (pe_ix ix_tT (pv 0) pe_int (fun _ _ => rfl)) pa_nil)) pa_nil)) (pg_name (i := 3) sc__law_every.nd rfl (by first | exact Or.inl rfl | exact Or.inr rfl))
        (pss_cons (ps_set (i := 4) sc__law_every.nd rfl (by first | exact Or.inl rfl | exact Or.inr rfl) (pe_c0 c__law_tables (hr.mono (by decide)) (by rfl) (pa_cons (pv 0) (pa_cons (pv 3) (pa_cons (pv 1) pa_nil)))))
        (pss_cons (ps_if (PW.pt (pw_or (pt_cmpR op_isN (pv 4) pe_non (nomark _)) (pw_or1 (pt_cmpR op_gt (pe_op op_mul (pe_callB call_lenT (by rfl) B.len PySem.boot_len (pa_cons (pv 4) pa_nil)) (pe_callB call_lenT (by rfl) B.len PySem.boot_len (pa_cons (pv 2) pa_nil))) (pv 1) (nomark _)))))
          (pss_one (ps_ret pe_non)) pss_nil)
        (pss_cons (ps_set (i := 5) sc__law_every.nd rfl (by first | exact Or.inl rfl | exact Or.inr rfl) (pe_lst pa_nil))
        (pss_cons (ps_for PassesOwn.never rfl (pi_list (pv 2)) (pg_name (i := 6) sc__law_every.nd rfl (by first | exact Or.inl rfl | exact Or.inr rfl))
          (pss_one (ps_set (i := 5) sc__law_every.nd rfl (by first | exact Or.inl rfl | exact Or.inr rfl) (pe_op op_cat (pv 5) (pe_lc (own := [("table", 7)]) rfl sc__law_every.nd (pi_list (pv 4)) (blkOk_by (N := ["web", "most", "found", "folk", "some", "longer", "rules", "table"]) (sc := defScope s__law_every) (by decide +kernel)) (fun _ _ _ _ _ => (pg_name (i := 7) sc__law_every.nd rfl (by first | exact Or.inl rfl | exact Or.inr rfl))) (fun _ _ _ _ _ => pts_nil) (fun _ _ _ _ _ => (pe_op op_catTT (pv 6) (pe_tup (pa_cons (pv 7) pa_nil)))))))))
        (pss_one (ps_set (i := 2) sc__law_every.nd rfl (by first | exact Or.inl rfl | exact Or.inr rfl) (pv 5))))))))
      (pss_one (ps_ret (pv 2))))), ?_⟩
    obtain ⟨a, t, l, rfl, ha, ⟨tt, rfl, ht⟩, hl⟩ := id hW
    have l6 := ok.few
    have lcs := cases_len W
    refine ⟨(by show 0 ≤ sizeLine; decide), fun q0 hq0 => ⟨(by show 1 ≤ sizeLine; decide), fun L0 hL0 => ?_⟩⟩
    have eq0 := Ext.new hq0 (.tup [])
    have eL0 := Ext.new hL0 (.lst [.ref q0])
    have hqx := eL0.tup (show (upd H q0 (.tup [])) q0 = some (.tup []) from upd_same)
    have hLx : (upd (upd H q0 (.tup [])) L0 (.lst [.ref q0])) L0 = some (.lst [.ref q0]) := upd_same
    have Eb := eq0.trans eL0
    generalize upd (upd H q0 (.tup [])) L0 (.lst [.ref q0]) = Hb at *
    refine ⟨_, rfl, a, _, _, _, rfl, rfl, Eb.tup ha, rfl, _, _, rfl, .inr (Eb.tup ht), _, rfl, by rw [iv_len]; omega, by rw [iv_len]; omega, ?_⟩
    have en : ((iv W.tops).length : Int).toNat = W.tops.length := by rw [iv_len]; omega
    rw [en]
    refine for_range (lo := 0) (n := W.tops.length) (fun i σ H' => ∃ (Lf : Addr) (fv : List V) (o3 o4 o5 o6 o7 : Option V), σ = [some (.ref a), some (.int most), some (.ref Lf), o3, o4, o5, o6, o7] ∧ Ext Hb H' ∧ H' Lf = some (.lst fv) ∧ Paired (TT2 H') fv (rulesAll ((casesOf W).take i)) ∧ (∀ j, j < i → (tablesOf W (j : Int)).length ≤ most) ∧ (∀ j, 0 < j → j ≤ i → lensOf ((casesOf W).take j) ≤ most))
      ⟨L0, _, _, _, _, _, _, rfl, Ext.refl _, hLx, .cons ⟨q0, [], rfl, hqx, .nil⟩ .nil, fun j h => absurd h (Nat.not_lt_zero _), fun j h0 h1 => by omega⟩ ?_ ?_
    · rintro i σ H2 hi ⟨Lf, fv, o3, o4, o5, o6, o7, rfl, E2, hLf, hfv, b1, b2⟩
      have E02 := Eb.trans E2
      have hci : (casesOf W)[i]? = some (tablesOf W (i : Int)) := by
        unfold casesOf
        rw [List.getElem?_map, nums_get (by omega), Int.zero_add]
        rfl
      have lfv := paired_len hfv
      rw [rules_len _ _ (by omega)] at lfv
      have l1000 : fv.length ≤ 1000 := by
        rcases Nat.eq_zero_or_pos i with h | h
        · rw [lfv, h]
          exact (by decide : 1 ≤ 1000)
        · have := b2 i h (Nat.le_refl _)
          omega
      refine ⟨_, rfl, _, rfl, _, rfl, _, W, (i : Int), most, congrArg (fun z => [V.ref a, V.int z, V.int most]) (Int.zero_add _), hW.ext E02, ok, ⟨by omega, by omega⟩, by omega, fun hb H3 e3 => ?_, fun hb H3 q e3 hq => ?_⟩
      · refine ⟨_, rfl, rfl, _, rfl, iteT ?_⟩
        exact iteT (k0 (fun z => absurd (z.1 i (by omega)) (by omega)) H3 (E02.trans e3))
      · obtain ⟨q', sv, e, hq, hsv⟩ := hq
        cases e
        have lsv := paired_len hsv
        have hLf3 := e3.lst hLf
        refine ⟨_, rfl, rfl, _, rfl, iteF ?_⟩
        refine ⟨_, rfl, _, _, rfl, .inl hq, _, rfl, _, _, rfl, .inl hLf3, _, _, rfl, rfl, .inr ⟨by omega, by omega⟩, _, rfl, _, _, rfl, rfl, _, rfl, ?_⟩
        refine ite_of (fun hc => ?_) fun hc => ?_
        · refine k0 (fun z => ?_) H3 (E02.trans e3)
          have h3 := z.2 (i + 1) (by omega) (by omega)
          rw [lens_snoc hci, ← lfv, ← lsv, Nat.mul_comm] at h3
          have h1 := of_decide_eq_true hc
          have h2 : ((sv.length : Int) * (fv.length : Int)) = ((sv.length * fv.length : Nat) : Int) := by norm_cast
          rw [h2] at h1
          omega
        · have hle : sv.length * fv.length ≤ most := by
            have := of_decide_eq_false hc
            have h2 : ((sv.length : Int) * (fv.length : Int)) = ((sv.length * fv.length : Nat) : Int) := by norm_cast
            rw [h2] at this
            omega
          have hfv3 := paired_mono (fun _ _ r => TT2.ext e3 r) hfv
          refine ⟨(by show 0 ≤ sizeLine; decide), fun Lg0 hLg0 => ?_⟩
          have eg0 := Ext.new hLg0 (.lst [])
          have hLf4 := eg0.lst hLf3
          have hfv4 := paired_mono (fun _ _ r => TT2.ext eg0 r) hfv3
          have hq4 := eg0.lst hq
          have hsv4 := pTI.ext eg0 hsv
          have hgx : (upd H3 Lg0 (.lst [])) Lg0 = some (.lst []) := upd_same
          have E4 := E2.trans (e3.trans eg0)
          generalize upd H3 Lg0 (.lst []) = H4 at *
          refine ⟨_, rfl, Lf, rfl, ⟨_, SqL.of hLf4⟩, for_list (K := K) (a := Lf) (xs := fv) (fun j σ H' => ∃ (Lg : Addr) (gv : List V) (o6 o7 : Option V), σ = [some (.ref a), some (.int most), some (.ref Lf), some (.int (0 + (i : Int))), some (.ref q), some (.ref Lg), o6, o7] ∧ Ext H4 H' ∧ H' Lg = some (.lst gv) ∧ gv.length = j * sv.length ∧ Paired (TT2 H') gv (((rulesAll ((casesOf W).take i)).take j).flatMap fun r => (tablesOf W (i : Int)).map fun t => r ++ [t]))
            ⟨Lg0, [], _, _, rfl, Ext.refl _, hgx, by simp, .nil⟩ (fun j σ H' _ ⟨_, _, _, _, _, e, _⟩ => SqL.of (e.lst hLf4)) ?_ ?_⟩
          · rintro j x σ Ha hj ⟨Lg, gv, o6, o7, rfl, ea, hLg, lgv, hgv⟩
            obtain ⟨ru, hru, w, rvs, rfl, hw, hrv⟩ := paired_get' (paired_mono (fun _ _ r => TT2.ext ea r) hfv4) hj
            have hjl : j < fv.length := (List.getElem?_eq_some_iff.mp hj).1
            have lru := (rules_mem (by omega) (List.mem_of_getElem? hru)).1
            have lrv := paired_len hrv
            have hj1 : (j + 1) * sv.length ≤ most := by
              have := Nat.mul_le_mul_right sv.length (show j + 1 ≤ fv.length by omega)
              rw [Nat.mul_comm fv.length] at this
              omega
            have hqa := ea.lst hq4
            refine ⟨_, rfl, _, rfl, q, rfl, ⟨_, SqL.of hqa⟩, fun D hD => ?_⟩
            refine lc_fmL (R := TI) (S := TT2) stTI stTT2 (fun t => some (ru ++ [t])) hD hqa (pTI.ext ea hsv4) (Nat.le_trans (show sv.length ≤ 1000 by rw [lsv]; omega) (by decide)) (fun x t Hb' Ky Kn eb hmem hx c1 c2 => ?_) fun Hb' acc eb hacc hp => ?_
            · refine ⟨rfl, yes ⟨_, rfl, _, rfl, (by show 1 ≤ sizeLine; decide), fun u hu => ?_⟩⟩
              refine cat_gen (eb.tup hw) hu (by omega) fun Hc r ec hr => ?_
              exact c1 _ _ _ rfl ec ⟨r, _, rfl, hr, paired_snoc (hx.ext ec) (pTI.ext (eb.trans ec) hrv)⟩
            rw [List.filterMap_eq_map'] at hp
            have lacc : acc.length = sv.length := by rw [paired_len hp, List.length_map, lsv]
            rw [Nat.add_mul] at hj1
            refine ⟨Lg, D, gv, acc, rfl, rfl, eb.lst hLg, hacc, Nat.le_trans (show gv.length + acc.length ≤ 5000 by omega) (by decide), fun L2 hL2 => ?_⟩
            have eL2 := Ext.new hL2 (.lst (gv ++ acc))
            refine ⟨L2, gv ++ acc, _, _, rfl, (ea.trans eb).trans eL2, upd_same, by rw [List.length_append, lgv, lacc, Nat.add_mul, Nat.one_mul], ?_⟩
            rw [flatMap_take hru]
            exact paired_app (paired_mono (fun _ _ r => TT2.ext (eb.trans eL2) r) hgv) (paired_mono (fun _ _ r => TT2.ext eL2 r) hp)
          · rintro σ Ha ⟨Lg, gv, o6, o7, rfl, ea, hLg, lgv, hgv⟩
            have e5 : (rulesAll ((casesOf W).take i)).take fv.length = rulesAll ((casesOf W).take i) := List.take_of_length_le (by rw [rules_len _ _ (by omega)]; omega)
            rw [e5, ← rules_snoc hci] at hgv
            refine ⟨_, rfl, Lg, gv, _, _, _, _, _, rfl, E4.trans ea, hLg, hgv, fun j hj => ?_, fun j h0 h1 => ?_⟩
            · by_cases h2 : j < i
              · exact b1 j h2
              · rw [show j = i by omega]
                exact hb
            · by_cases h2 : j ≤ i
              · exact b2 j h0 h2
              · rw [show j = i + 1 by omega, lens_snoc hci, ← lfv, ← lsv, Nat.mul_comm]
                exact hle
    · rintro σ H2 ⟨Lf, fv, o3, o4, o5, o6, o7, rfl, E2, hLf, hfv, b1, b2⟩
      rw [show W.tops.length = (casesOf W).length from lcs.symm, List.take_length] at hfv
      exact ⟨_, rfl, k1 b1 b2 H2 Lf fv (Eb.trans E2) hLf hfv⟩
end
end Lk


/-! ## D96 -/
set_option Elab.async false
set_option linter.all false
set_option maxRecDepth 100000
set_option maxHeartbeats 2000000
namespace Lk
open PySem PySem.Spec PyProof.Rows L2 Gx
open GxR (TabG Tabbed TabB)
variable [Own]
/-- all tables, or told that there are too many -/
def spAllTablesX (C : Addr) : Sp := fun vs H Q E => ∃ (v : V) (W : Web) (f : Int), vs = [v, .int f] ∧ WebAt H v W ∧ W.Ok ∧ (0 ≤ f ∧ f < W.tops.length) ∧
  ((tablesOf W f).length ≤ 3000 → ∀ H' q, Ext H H' → TT2 H' (.ref q) (tablesOf W f) → Q (.ref q) H') ∧ (3000 < (tablesOf W f).length → ∀ H' d, Ext H H' → H d = none → H' d = some (.xd [("most", .int 3000)]) → E (.ref C) (some d) H')
theorem flat_le {α β : Type} {l : List α} {g : α → List β} {m : Nat} (h : ∀ x ∈ l, (g x).length ≤ m) : (l.flatMap g).length ≤ l.length * m := by
  induction l with
  | nil => simp
  | cons x l ih =>
    rw [List.flatMap_cons, List.length_append, List.length_cons, Nat.add_mul, Nat.one_mul, Nat.add_comm]
    exact Nat.add_le_add (ih fun y hy => h y (List.mem_cons_of_mem _ hy)) (h x (List.mem_cons_self ..))
section
variable {P : Program} {w : World} {K : PySem.W.Frag} {mg : Str → Option Value} {base : Heap} {Ps : List Addr} {C fI cc : Addr}
theorem ok_all_tablesX {f : Addr} {fd : FuncData} (F : Fun K "all_tables" "all_tables" s_all_tables f fd) (B : Blt mg) (M : NumsC mg) (TM : Mn.BadTxt P K mg C fI cc)
    (c_ways_of : Cal P w K mg base CX0 2 "ways_of" ["web", "folk"] spWaysOf) (c_many_rows : Cal P w K mg base CX0 2 "many_rows" ["web", "folk"] spManyRows) (c_next_moods : Cal P w K mg base CX0 1 "next_moods" ["top", "ways", "table"] spNextMoods) : FnOk P w K mg base (L2.CX P w) 3 f fd ["web", "folk"] (spAllTablesX C) := by
  refine F.okX sc_all_tables (fun vs H Q E h => ?_) (fun cdv A outer s0 H vs Q E hr h => ?_)
  · obtain ⟨v, W, n, rfl, _⟩ := h
    rfl
  · obtain ⟨v, W, n, rfl, hW, ok, hn, k, kE⟩ := h
    obtain ⟨a, t, l, rfl, ha, ⟨b, rfl, hb⟩, hl⟩ := id hW
    refine ⟨_, (pss_cons (ps_asg (pv 0) (pg_tupT (n := 2) rfl (pgs_cons (pg_name (i := 2) sc_all_tables.nd rfl (by first | exact Or.inl rfl | exact Or.inr rfl)) (pgs_cons (pg_name (i := 3) sc_all_tables.nd rfl (by first | exact Or.inl rfl | exact Or.inr rfl)) pgs_nil))))
      (pss_cons (ps_set (i := 4) sc_all_tables.nd rfl (by first | exact Or.inl rfl | exact Or.inr rfl) (pe_c0 c_ways_of (hr.mono (by decide)) (by rfl) (pa_cons (pv 0) (pa_cons (pv 1) pa_nil))))
      (pss_cons (ps_set (i := 5) sc_all_tables.nd rfl (by first | exact Or.inl rfl | exact Or.inr rfl) (pe_lst (pa_cons (pe_tup pa_nil) pa_nil)))
      (pss_cons (ps_for (passes_of rfl) rfl (pi_range1 (by rfl) B.range (pa_cons (pe_c0 c_many_rows (hr.mono (by decide)) (by rfl) (pa_cons (pv 0) (pa_cons (pv 1) pa_nil))) pa_nil)) (pg_name (i := 3) sc_all_tables.nd rfl (by first | exact Or.inl rfl | exact Or.inr rfl))
        (pss_cons (ps_setLc2 (i := 5) (own := [("table", 6), ("mood", 7)]) (vs1 := [7]) rfl sc_all_tables.nd rfl rfl (sw_true rfl rfl rfl (by decide +kernel)) (pi_list (pv 5)) (blkOk_by (N := ["web", "folk", "tops", "_", "ways", "found", "table", "mood"]) (sc := defScope s_all_tables) (by decide +kernel)) (by decide) (fun _ _ _ _ _ => (pg_name (i := 6) sc_all_tables.nd rfl (by first | exact Or.inl rfl | exact Or.inr rfl))) (fun _ _ _ _ _ => pts_nil) (fun _ _ _ _ _ => (pi_listK (K := K) rfl (pe_c0 c_next_moods (hr.mono (by decide)) (by rfl) (pa_cons (pe_ix ix_tT (pv 2) (pv 1) (fun _ _ => rfl)) (pa_cons (pv 4) (pa_cons (pv 6) pa_nil)))))) (fun _ _ _ _ _ => (pg_name (i := 7) sc_all_tables.nd rfl (by first | exact Or.inl rfl | exact Or.inr rfl))) (fun _ _ _ _ _ => pts_nil) (fun _ _ _ _ _ => (pe_op op_catTT (pv 6) (pe_tup (pa_cons (pv 7) pa_nil)))))
        (pss_one (ps_if (pt_cmpR op_gt (pe_callB call_lenT (by rfl) B.len PySem.boot_len (pa_cons (pv 5) pa_nil)) (pe_num M.MOST_TABLES (by rfl)) (nomark _))
          (pss_one (Mn.ps_raiseBad rfl TM hr (takes_of rfl rfl rfl rfl) (pa_cons (pe_num M.MOST_TABLES (by rfl)) pa_nil))) pss_nil))))
      (pss_one (ps_ret (pe_tupleL (by rfl) B.tuple (pv 5)))))))), ?_⟩
    refine ⟨_, rfl, a, _, rfl, ha, rfl, _, _, rfl, _, _, rfl, rfl, ?_⟩
    refine ⟨_, rfl, _, rfl, _, W, n, rfl, hW, ok, fun H1 p us E1 hp0 hp hus => ?_⟩
    rw [ways_rows ok] at hus
    have tk := topAt_ok ok hn.1 hn.2
    have end_ : grow (lowN W n) (highN W n) (rowsAt W n).length = tablesOf W n := tables_below ok
    have r256 := (rowsAt_len ok n).2
    refine ⟨(by show 0 ≤ sizeLine; decide), fun q0 hq0 => ⟨(by show 1 ≤ sizeLine; decide), fun L0 hL0 => ?_⟩⟩
    have hLq : L0 ≠ q0 := fun z => by rw [z, upd_same] at hL0; cases hL0
    have EL : Ext H1 (upd (upd H1 q0 (.tup [])) L0 (.lst [.ref q0])) := (Ext.new hq0 _).trans (Ext.new hL0 _)
    refine ⟨_, rfl, _, rfl, _, W, n, rfl, hW.ext (E1.trans EL), ok, fun H2 E2 => ?_⟩
    rw [rows_many ok]
    refine ⟨_, rfl, by omega, by omega, ?_⟩
    rw [Int.toNat_natCast]
    have E02 := EL.trans E2
    refine for_range (lo := 0) (n := (rowsAt W n).length) (fun i σ H' => ∃ (L : Addr) (fv : List V) (o3 o6 o7 : Option V), σ = [some (.ref a), some (.int n), some (.ref b), o3, some (.ref p), some (.ref L), o6, o7] ∧ Ext H1 H' ∧ H' L = some (.lst fv) ∧ Paired (TI H') fv (grow (lowN W n) (highN W n) i) ∧ (grow (lowN W n) (highN W n) i).length ≤ 3000)
      ⟨L0, _, _, _, _, rfl, E02, E2.lst upd_same, .cons ⟨q0, rfl, E2.tup (by rw [upd_ne hLq.symm]; exact upd_same)⟩ .nil, (show ([[]] : List (List Int)).length ≤ 3000 by decide)⟩ ?_ ?_
    · rintro i σ H3 hi ⟨L, fv, o3, o6, o7, rfl, E3, hL, hfv, m0⟩
      have lf := paired_len hfv
      have m1 : (grow (lowN W n) (highN W n) (i + 1)).length ≤ 12000 := by
        have := flat_le (l := grow (lowN W n) (highN W n) i) (g := fun t => (nums (lowN W n t) (highN W n t + 1)).map fun m => t ++ [m]) (m := 4) fun t _ => by
          have h1 := lowN_ge W n t
          have h2 := highN_le W n t
          rw [List.length_map, nums_len]
          omega
        have e : (grow (lowN W n) (highN W n) (i + 1)).length = ((grow (lowN W n) (highN W n) i).flatMap fun t => (nums (lowN W n t) (highN W n t + 1)).map fun m => t ++ [m]).length := rfl
        omega
      refine ⟨_, rfl, L, rfl, ⟨_, SqL.of hL⟩, fun D hD => ?_⟩
      refine lc2_out (walk_list (K := K) (a := L) (xs := fv)) (fun j H4 => ∃ acc, H4 D = some (.lst acc) ∧ Ext H3 H4 ∧ Paired (TI H4) acc (((grow (lowN W n) (highN W n) i).take j).flatMap fun t => (nums (lowN W n t) (highN W n t + 1)).map fun m => t ++ [m])) ⟨[], upd_same, Ext.new hD _, .nil⟩ (fun j H4 _ ⟨_, _, e4, _⟩ => SqL.of (e4.lst hL)) (fun j x H4 H5 hj ⟨acc, hacc, e4, hp4⟩ y => ?_) fun H4 ⟨acc, hacc, e4, hp4⟩ => ?_
      · obtain ⟨rfl, hx⟩ := y
        obtain ⟨tb, htb, z, rfl, hz⟩ := paired_get' (pTI.ext e4 hfv) hx
        obtain ⟨tl, tbd⟩ := grown_bd (List.mem_of_getElem? htb)
        have E4 := E3.trans e4
        refine ⟨rfl, yes ?_⟩
        refine ⟨_, rfl, _, rfl, b, _, _, _, rfl, rfl, (E1.trans E4).tup hb, at_of (j := n.toNat) (by omega) (iv_at (topAt_get hn.1 hn.2)), _, rfl, _, rfl, p, _, us, W, n, tb, rfl, E4.lst hp, ok, hn, pTI.ext E4 hus, ⟨z, rfl, hz⟩, by omega, tbd, fun H6 q e6 hq0 hq => ?_⟩
        refine ⟨q, rfl, ⟨_, SqL.of hq⟩, ?_⟩
        have part : ∀ c, (((grow (lowN W n) (highN W n) i).take j).flatMap fun t => (nums (lowN W n t) (highN W n t + 1)).map fun m => t ++ [m]).length + (((nums (lowN W n tb) (highN W n tb + 1)).take c).map fun m => tb ++ [m]).length ≤ 12000 := fun c => by
          have h1 : (((grow (lowN W n) (highN W n) i).take (j + 1)).flatMap fun t => (nums (lowN W n t) (highN W n t + 1)).map fun m => t ++ [m]).length ≤ (grow (lowN W n) (highN W n) (i + 1)).length := flatMap_take_le _ _ _
          rw [flatMap_take htb, List.length_append, List.length_map] at h1
          rw [List.length_map, List.length_take]
          omega
        have hD6 := e6.lst hacc
        have EH6 := e4.trans e6
        refine lc2_in (walk_list (K := K) (a := q) (xs := iv (nums (lowN W n tb) (highN W n tb + 1)))) (fun c H7 => ∃ acc2, H7 D = some (.lst acc2) ∧ H7 q = some (.lst (iv (nums (lowN W n tb) (highN W n tb + 1)))) ∧ H7 z = some (.tup (iv tb)) ∧ Ext H3 H7 ∧ Paired (TI H7) acc2 ((((grow (lowN W n) (highN W n) i).take j).flatMap fun t => (nums (lowN W n t) (highN W n t + 1)).map fun m => t ++ [m]) ++ ((nums (lowN W n tb) (highN W n tb + 1)).take c).map fun m => tb ++ [m])) ⟨acc, hD6, hq, e6.tup hz, EH6, by simpa using pTI.ext e6 hp4⟩ (fun c H7 _ ⟨_, _, h, _⟩ => SqL.of h) (fun c x H7 H8 hc ⟨acc2, hacc2, hq7, hz7, e7, hp7⟩ y => ?_) fun H7 ⟨acc2, hacc2, hq7, hz7, e7, hp7⟩ => ?_
        · obtain ⟨rfl, hx7⟩ := y
          obtain ⟨m, hm, rfl⟩ := iv_get hx7
          refine ⟨rfl, yes ?_⟩
          refine ⟨_, rfl, _, rfl, (by show 1 ≤ sizeLine; decide), fun u hu => ?_⟩
          refine cat_long hz7 hu (by omega) fun H9 y e9 hy => ?_
          have h9 := e9.lst hacc2
          have la := part c
          rw [← List.length_append, ← paired_len hp7] at la
          have hqD : q ≠ D := fun e => by rw [e, hacc] at hq0; cases hq0
          refine ⟨acc2, h9, Nat.lt_of_le_of_lt (show acc2.length ≤ 12000 by omega) (by decide), acc2 ++ [y], upd_same, ?_, ?_, (e7.trans e9).put hD _, ?_⟩
          · rw [upd_ne hqD]
            exact e9.lst hq7
          · rw [upd_ne (ne_of h9 (e9.tup hz7) (by intro q; cases q)).symm]
            exact e9.tup hz7
          · rw [take_snoc hm, List.map_append, ← List.append_assoc]
            exact paired_snoc (stTI.put h9 hy) (paired_mono (fun v a h => stTI.put h9 (h.ext e9)) hp7)
        · rw [iv_len, List.take_length] at hp7
          refine ⟨acc2, hacc2, e7, ?_⟩
          rw [flatMap_take htb]
          exact hp7
      · rw [lf, List.take_length] at hp4
        have hp4 : Paired (TI H4) acc (grow (lowN W n) (highN W n) (i + 1)) := hp4
        have la := paired_len hp4
        refine ⟨_, rfl, _, _, rfl, .inl hacc, _, _, rfl, rfl, _, rfl, ?_⟩
        refine ite_of (fun hc => ?_) fun hc => ?_
        · have h1 := of_decide_eq_true hc
          refine ⟨3000, rfl, .inl rfl, fun d hd => ?_⟩
          have h2 := below_more ok (show 0 ≤ topAt W n by omega) (show i + 1 ≤ (rowsAt W n).length by omega)
          rw [end_] at h2
          exact kE (by omega) _ d ((E1.trans (E3.trans e4)).trans (Ext.new hd _)) ((E1.trans (E3.trans e4)).free hd) upd_same
        · have h1 := of_decide_eq_false hc
          exact ⟨D, acc, _, _, _, rfl, E3.trans e4, hacc, hp4, by omega⟩
    · rintro σ H3 ⟨L, fv, o3, o6, o7, rfl, E3, hL, hfv, m0⟩
      rw [end_] at hfv m0
      refine ⟨_, rfl, L, _, rfl, hL, fun q hq => ?_⟩
      exact k m0 _ q ((E1.trans E3).trans (Ext.new hq _)) ⟨q, fv, rfl, upd_same, pTI.ext (Ext.new hq _) hfv⟩
end
end Lk


/-! ## CmpE -/
set_option Elab.async false
set_option linter.all false
set_option maxRecDepth 100000
set_option maxHeartbeats 2000000
/-! A comprehension's block that lets an exception out: noted in the def's own frame, the block's names let go, passed on. -/
namespace Lk
open PySem PySem.Spec PyProof.Rows L2
variable [Own]
theorem funFrames_but {base h h' : Heap} {C : Addr} (k : ∀ b, b ≠ C → h'.get? b = h.get? b) : ∀ {l : List Env}, h.FunFrames base l → C ∉ frs l → h'.FunFrames base l
  | [], _, _ => trivial
  | env :: l, x, hn => by
    obtain ⟨hk, ⟨L, o, hf, hb, ho, hd⟩, hr⟩ := x
    have m : L ∈ frs (env :: l) := List.mem_filterMap.mpr ⟨env, List.mem_cons_self, hf⟩
    refine ⟨hk, ⟨L, o, hf, hb, ?_, hd⟩, funFrames_but k hr fun hm => hn ?_⟩
    · rw [k L fun z => hn (z ▸ m)]; exact ho
    · obtain ⟨e, he, q⟩ := List.mem_filterMap.mp hm
      exact List.mem_filterMap.mpr ⟨e, List.mem_cons_of_mem _ he, q⟩
theorem note_same {e : Value} {a b : Env} (h : a.frame = b.frame) : noteFrame e a = noteFrame e b := by
  unfold noteFrame PySem.frameOf
  rw [h]
/-- the block's context, with its own wish about exceptions -/
abbrev blkE (X : Cx) (s : Shared) (H : Hp) (scope : Scope) (cenv : Env) (fp : List Addr) (xe : Value → Shared → Prop) : Cx := { X.blk s H scope cenv fp with xe := xe }
/-- what is asked behind the block -/
def compPostE (M : Model) (A : Around) (E : Value → Shared → Prop) (fr : Option Addr) (use : Option (Value → Sem Unit)) (Q : Value → Shared → Prop) (acc : Value) (C : Addr) (r : Result) (s' : Shared) : Prop :=
  match r with
  | .ok f => compPost M A E use Q acc C (.ok f) s'
  | .error x => ∃ m, s'.heap.Ns C m ∧ ∀ h', Heap.SameBut C s'.heap h' → ∀ cenv : Env, cenv.locals = C → cenv.frame = fr → wpAny M A (passOn "comprehension.variables-let-go" x cenv : Sem Value) (fun _ _ => False) E { s' with heap := h' }
section
variable {X : Cx} {pins pins' : List (Addr × Obj)} {σ σ' : L2.St} {H3 H5 : Hp} {s3 s5 s' : Shared} {W : WX} {E : XK} {scope : Scope} {ce : Env} {fp : List Addr} {xe : Value → Shared → Prop} {use : Option (Value → Sem Unit)} {Qf : Value → Shared → Prop} {acc : Value}
theorem blk_err (tk : Takes X W) (hs : X.stack = X.env :: X.outer) (hf : X.env.frame = some X.env.locals) (I3 : Inv X pins σ H3 s3) (f3 : ∀ b ∈ fp, FpOk X pins H3 b ∧ b < s3.heap.objs.size) (cL : ce.locals = s3.heap.objs.size) (cF : ce.frame = X.env.frame)
    (I5 : Inv (blkE X s3 H3 scope ce fp xe) pins' σ' H5 s5) {u : Value} (c : CX X.prog X.w X.stack H5 s5 E u s') (hW : ∀ cls d H', E cls d H' → W cls d σ H') :
    notedBy (model X.prog X.w) X.A ce (fun e s'' => compPostE (model X.prog X.w) X.A X.xe X.env.frame use Qf acc s3.heap.objs.size (.error e) s'') u s' := by
  obtain ⟨a, B, H', cls, d, rfl, fl, hok, ub, na, os, ag, hE⟩ := c
  show wpAny (model X.prog X.w) X.A (noteFrame (.ref a) ce) _ _ s'
  rw [note_same cF]
  have hfr : X.A.frames = some (X.env :: X.outer) := by rw [I3.ok.frames, hs]
  have fl' := fl
  rw [hs] at fl'
  refine HandSPX.looks_onZ Zc.steady hfr hf fl' fun h1 hh up1 => ?_
  generalize hC : s3.heap.objs.size = C at *
  obtain ⟨m, hn5, _⟩ := I5.loc
  have hn5 : s5.heap.Ns ce.locals m := hn5
  rw [cL] at hn5
  have free5 : H5 ce.locals = none := I5.free
  rw [cL] at free5
  have nst : C ∉ frs X.stack := fun z => by
    rcases List.mem_cons.mp (I3.stkSub _ z) with z | z
    · exact Nat.ne_of_lt (hC ▸ I3.lt) z.symm
    · exact I3.nofs (by rw [hC]; exact Nat.le_refl _) z
  have nB : B.Ns C m := hn5.at' fun o e => ub.keep C o e free5 nst
  have hBC : ∃ o, B.get? C = some o := by
    obtain ⟨o, _, _, h, _⟩ := nB
    exact ⟨o, h⟩
  refine ⟨m, nB.at' fun o e => hh.1 C o e, fun h2 sb cenv e1 e2 => ?_⟩
  obtain ⟨hst, hBa, hfu, htr⟩ := hh
  -- the ground without the block's own names
  generalize hB' : PySem.W.hideAll B [C] = B'
  have b1 : ∀ b o, b ≠ C → B.get? b = some o → B'.get? b = some o := fun b o n e => by
    rw [← hB']
    exact PySem.W.hideAll_get _ e (by simp [n])
  have b2 : ∀ b o, B'.get? b = some o → B.get? b = some o ∧ b ≠ C := fun b o e => by
    rw [← hB'] at e
    refine ⟨PySem.W.of_hideAll _ e, fun z => ?_⟩
    rw [z, PySem.W.hideAll_none _ (by simp)] at e
    cases e
  have b3 : ∀ b, B.get? b = none → B'.get? b = none := fun b e => by
    cases q : B'.get? b with
    | none => rfl
    | some o => rw [(b2 b o q).1] at e; cases e
  have st2 : B'.StaysIn h2 := fun b o e => (sb.2 b (b2 b o e).2).trans (hst b o (b2 b o e).1)
  have hB'a := b3 a hBa
  have nst' : C ∉ frs (X.env :: X.outer) := by rw [← hs]; exact nst
  have fu1 : h1.FunFrames B' (X.env :: X.outer) := funFrames_none hfu fun L hL => b3 L (hfu.mem hL).1
  have fu2 : h2.FunFrames B' (X.env :: X.outer) := funFrames_but sb.2 fu1 nst'
  have tr2 : HandSPX.TracedZ h2 B' a (Zc cls d) (rawInt X.env.locals) := by
    obtain ⟨oe, vs, T, oT, ts, he, hz, hd, h1', hnT, hTe, hT, hdT, h3⟩ := htr
    obtain ⟨oc, hoc⟩ := hBC
    have aC : a ≠ C := fun z => by rw [z, hoc] at hBa; cases hBa
    have TC : T ≠ C := fun z => by rw [z, hoc] at hnT; cases hnT
    exact ⟨oe, vs, T, oT, ts, (sb.2 a aC).trans he, hz, hd, h1', b3 T hnT, hTe, (sb.2 T TC).trans hT, hdT, h3⟩
  unfold PySem.passOn
  have tr2' := tr2
  obtain ⟨oe, vs, T, oT, ts, he, hz, hd, h1', hnT, hTe, hT, hdT, h3⟩ := tr2'
  refine wpAny_bind (wpAny_field he hd h1' ?_)
  rw [if_neg (show ¬ ((Value.ref T == Value.none) = true) from by simp)]
  refine wpAny_bind (HandSPX.setFlight_anyZ st2 fu2 tr2 fun h4 k1 k2 k3 k4 => ?_)
  refine wpAny_throw ?_
  rw [e2, hf] at k3
  have k3 : HandSPX.TracedZ h4 B' a (Zc cls d) (rawInt X.env.locals) := k3
  refine tk _ _ ?_
  obtain ⟨G, g1, g2⟩ := restrict h4 fun b => (B'.get? b).isSome || decide (b ∈ frs X.stack)
  have gB : ∀ b o, B'.get? b = some o → G.get? b = some o := fun b o e => by
    rw [g1 b (by simp [e])]
    exact k1 b o e
  have gF : ∀ b, b ∈ frs X.stack → G.get? b = h4.get? b := fun b hb => g1 b (by simp [hb])
  have og : ∀ b o, G.get? b = some o → h4.get? b = some o ∧ ((B'.get? b).isSome = true ∨ b ∈ frs X.stack) := fun b o e => by
    cases q : ((B'.get? b).isSome || decide (b ∈ frs X.stack)) with
    | false => rw [g2 b q] at e; cases e
    | true =>
      rw [g1 b q] at e
      exact ⟨e, by simpa [Bool.or_eq_true] using q⟩
  have H'C : H' C = none := by
    obtain ⟨o, _, _, h, _⟩ := hn5
    exact ub.free C o h free5
  have hokB : HOk X.prog X.w H' B' := fun b o q => (hok b o q).stay (fun c u hc r => b1 c u (fun hm => by
    rcases hc with hc | hc
    · rw [hm] at hc; rw [← hc, H'C] at q; cases q
    · rw [hm, H'C] at hc; cases hc) r) (fun _ r => r) fun _ _ r => r
  have ltC : ∀ b o, s3.heap.get? b = some o → b ≠ C := fun b o e => by
    rw [← hC]
    exact Nat.ne_of_lt (Heap.lt_size e)
  have slot : ∀ b o, s3.heap.get? b = some o → H3 b = none → b ∈ frs X.stack → b ∉ fp → ∃ sl, G.get? b = some { o with slots := sl } := fun b o e n hb hx => by
    obtain ⟨sl, q5⟩ := I5.base.slot b o e n hb hx
    obtain ⟨sl', q'⟩ := ub.slot b _ q5 hb
    obtain ⟨_, o3, e3, hnf⟩ := I3.stack.mem hb
    rw [e] at e3; cases e3
    obtain ⟨sl1, q1⟩ := up1 b _ q' hnf
    have q2 := (sb.2 b (ltC b o e)).trans q1
    obtain ⟨sl4, q4⟩ := k4 b _ q2 hnf
    exact ⟨sl4, (gF b hb).trans q4⟩
  refine ⟨a, B', { s3 with heap := G, gens := s'.gens, drawn := s'.drawn, toks := s'.toks }, pins, σ, H', cls, d, rfl, ?_, fun b o e hb => ?_, Heap.UpToSlots.of_keeps fun b o e => (og b o e).1, .inr (.inr ⟨k1, hB'a, by rw [hs]; exact k2, k3⟩), na, os.trans I5.os, ag, hW _ _ _ hE⟩
  · refine I3.call' (ch := fp) rfl ⟨fun b o e n hb hx => ?_, slot, fun b o e n hx => ?_, fun b o e hx => ?_, fun b xs e => ub.tups b xs (I5.base.tups b xs e), fun b o u e => ub.frzs b o u (I5.base.frzs b o u e), fun b ps e => ?_⟩ (hokB.kept gB) ag fun b hb => ⟨(f3 b hb).1.2.2.2.1, (f3 b hb).1.2.1, (f3 b hb).1.2.2.2.2.1, (f3 b hb).1.2.2.2.2.2⟩
    · exact gB b o (b1 b o (ltC b o e) (ub.keep b o (I5.base.keep b o e n hb hx) (I5.base.free b o e n hx) hb))
    · obtain ⟨sl, q⟩ := I5.base.any e n hx
      exact ub.free b _ q (I5.base.free b o e n hx)
    · by_cases hb : b ∈ frs X.stack
      · obtain ⟨sl, q⟩ := slot b o e (I3.stkFree b hb) hb hx
        exact ⟨_, q⟩
      · obtain ⟨o5, q5⟩ := I5.base.there b o e hx
        obtain ⟨oB, qB⟩ := ub.there b o5 q5 hb
        exact ⟨oB, gB b oB (b1 b oB (ltC b o e) qB)⟩
    · obtain ⟨m1, q1⟩ := I5.base.tbls b ps e
      obtain ⟨m2, q2⟩ := ub.tbls b _ q1
      exact ⟨m1 ++ m2, by rw [q2]; simp⟩
  · obtain ⟨e', h⟩ := og b o e
    rcases h with h | h
    · obtain ⟨o', q⟩ := Option.isSome_iff_exists.mp h
      have z := k1 b o' q
      rw [e'] at z; cases z
      exact q
    · exact absurd h hb
end
end Lk

/-! ## CmpE2 -/
set_option Elab.async false
set_option linter.all false
set_option maxRecDepth 100000
set_option maxHeartbeats 2000000
/-! List comprehensions (one clause) whose step may let an exception out. -/
namespace Lk
open PySem PySem.Spec PyProof.Rows L2
variable [Own]
section
variable {M : Model} {A : Around} {E : Value → Shared → Prop} {s : Shared} {env : Env}
theorem comp_freeE {e : Expr} {scope : Scope} {pos : Pos} {newAcc first : Sem Value} {g : Comprehension} {gs : List Comprehension} {cl : List (Str × Addr)} {use : Option (Value → Sem Unit)} {fr : Option Addr}
    {Q : Value → Shared → Prop}
    (hcl : clausesOf e = g :: gs) (hs : ∀ x, foldedSetIterable g.iter env x = pure x) (hclos : closureFor scope env = pure cl)
    (hkind : scope.kind = .function) (hnames : ∀ x ∈ scope.names, x.2 = .local → scope.names.lookup x.1 = some .local)
    (h : wpAny M A first (fun x s₁ => wpAny M A (pyIter x) (fun it s₂ => wpAny M A newAcc (fun acc s₃ =>
      wpAny M A (newFunctionEnv scope env.globals cl [] env.qual none .none (some env)) (fun cenv s₄ =>
        cenv.frame = fr ∧ codeAny M A (.compStart e 0 it acc { cenv with scope := relabel scope env }) (compPostE M A E fr use Q acc cenv.locals) s₄) E s₃) E s₂) E s₁) E s) :
    wpAny M A (comprehension e scope env pos newAcc false first use) Q E s := by
  unfold comprehension
  rw [hclos, hcl]
  refine wpAny_bind (wpAny_mono h (fun x s₁ h₁ => wpAny_bind (wpAny_standAt (wpAny_bind (wpAny_of_eq (hs x) (wpAny_bind (wpAny_holding (wpAny_mono h₁ (fun it s₂ h₂ =>
    wpAny_standIf (wpAny_bind (wpAny_mono h₂ (fun acc s₃ h₃ => wpAny_bind (wpAny_pure (wpAny_bind (wpAny_mono h₃ (fun cenv s₄ h₄ => ?_) fun _ _ h' => h')))) fun _ _ h' => h')))
      fun _ _ h' => h'))))))) fun _ _ h' => h')
  dsimp only
  obtain ⟨hfr, h₄⟩ := h₄
  have hv : ∀ x ∈ (scope.names.filter fun x => (x.2 == .local || x.2 == .cell) && x.1 != (".0" : Str)).reverse, x.2 = .local →
      Env.kindOf { cenv with scope := relabel scope env } x.1 = some .local := fun x hx hl => lookup_relabel_local (hnames x (List.mem_filter.mp (List.mem_reverse.mp hx)).1 hl)
  have hv' : ∀ x ∈ (scope.names.filter fun x => (x.2 == .local || x.2 == .cell) && x.1 != (".0" : Str)).reverse.drop 1 ++ (scope.names.filter fun x => (x.2 == .local || x.2 == .cell) && x.1 != (".0" : Str)).reverse.take 1,
      x.2 = .local → Env.kindOf { cenv with scope := relabel scope env } x.1 = some .local := fun x hx hl => by
    rcases List.mem_append.mp hx with h1 | h1
    · exact hv x (List.mem_of_mem_drop h1) hl
    · exact hv x (List.mem_of_mem_take h1) hl
  refine wpAny_holding (wpAny_bind (wpAny_attempt (wpAny_holding (wpAny_run (codeAny_mono h₄ fun r s' hr => ?_)))))
  cases r with
  | ok f =>
    cases use with
    | none =>
      obtain ⟨m, hn, hr⟩ := hr
      exact wpAny_bind (wpAny_holding (wpAny_comp_letGo (cenv := { cenv with scope := relabel scope env }) hkind _ s' m hv hn fun h' m' _ hs' => wpAny_pure (hr h' hs')))
    | some u =>
      have hr : wpAny M A (u _) _ _ _ := hr
      refine wpAny_bind (wpAny_rule (wpAny_bind (wpAny_holding (wpAny_mono hr (fun _ s'' hr' => ?_) fun _ _ h' => h'))))
      obtain ⟨m, hn, hr'⟩ := hr'
      exact wpAny_bind (wpAny_comp_letGo (cenv := { cenv with scope := relabel scope env }) hkind _ s'' m hv' hn fun h' m' _ hs' => wpAny_pure (hr' h' hs'))
  | error x =>
    obtain ⟨m, hn, hr⟩ := hr
    exact wpAny_bind (wpAny_holding (wpAny_comp_letGo (cenv := { cenv with scope := relabel scope env }) hkind _ s' m hv hn fun h' m' _ hs' => wpAny_mono (hr h' hs' { cenv with scope := relabel scope env } rfl hfr) (fun _ _ f => f.elim) fun _ _ y => y))
end
theorem inv_xe {X : Cx} {pins : List (Addr × Obj)} {σ : L2.St} {H : Hp} {s : Shared} (xe : Value → Shared → Prop) (I : Inv X pins σ H s) : Inv { X with xe := xe } pins σ H s :=
  ⟨⟨I.ok.mod, I.ok.kind, I.ok.glob, I.ok.blt, I.ok.above, I.ok.inj, I.ok.has, I.ok.cab, I.ok.hd, I.ok.frames, I.ok.stk, I.ok.exf, I.ok.bs, I.ok.bsz, I.ok.noex, I.ok.exfs, I.ok.funs, I.ok.frf⟩, I.os, I.bare, I.base, I.loc, I.cell, I.free, I.freeC, I.pin, I.hok, I.len⟩
section
variable {X : Cx}
/-- what a rule of the block's is: for every wish that takes what a callee lets out -/
abbrev BlkR (X : Cx) (scope : Scope) (E : XK) (R : Cx → Prop) : Prop :=
  ∀ (s : Shared) (H : Hp) (C : Addr) (cl : List (Str × Addr)) (fp : List Addr) (xe : Value → Shared → Prop), L2.Passes (L2.CX X.prog X.w) (blkE X s H scope (compEnvC scope cl C X.env) fp xe) E → R (blkE X s H scope (compEnvC scope cl C X.env) fp xe)
theorem lc_coreE {W : WX} {E : XK} {pins : List (Addr × Obj)} {s : Shared} {σ : L2.St} {H : Hp} {Q : VK} {elt tg iter : Expr} {ifs : List Expr} {scope : Scope} {own : List (Str × Nat)} {pos pos' : Pos} {wi : L2.TI} {g : TG} {tt : TT} {te : TE} {use : Option (Value → Sem Unit)} {Qf : Value → Shared → Prop}
    (tk : Takes X W) (hst : X.stack = X.env :: X.outer) (hf : X.env.frame = some X.env.locals) (hW : ∀ cls d H', E cls d H' → W cls d σ H')
    (hc : X.calm = true) (hN : X.N.Nodup) (I : Inv X pins σ H s) (hi : PI X tg iter wi) (ok : BlkOk X.N X.env.scope scope own)
    (hg : BlkR X scope E fun Y => PG Y tg g) (ht : BlkR X scope E fun Y => PTs Y ifs tt) (he : BlkR X scope E fun Y => PE Y elt te) (hs : ∀ x, foldedSetIterable iter X.env x = pure x)
    (h : tLc wi g tt te (own.map (·.2)) σ H Q)
    (hRR : ∀ D C s' m H', Inv X pins σ H' s' → Q (.ref D) H' → s'.heap.Ns C m → FpOk X pins H' C → compPost (model X.prog X.w) X.A X.xe use Qf (.ref D) C (.ok .next) s') :
    wpAny (model X.prog X.w) X.A (comprehension (.ListComp elt [⟨tg, iter, ifs, 0⟩] scope pos) scope X.env pos' (newList []) false (eval iter X.env) use) Qf X.xe s := by
  have hfree : ∀ y ∈ scope.names, y.2 = .free → ∃ c, X.env.cells.lookup y.1 = some c := fun y hy e => by
    rcases ok.free y hy e with k | k
    · exact I.ok.has _ (.inl k)
    · exact I.ok.has _ (.inr k)
  refine comp_freeE (use := use) (fr := X.env.frame) rfl hs (closure_ok hfree) ok.kind (fun y hy e => by rw [ok.uniq y hy, e])
    (thn (hi.run pins s σ H _ I h) fun xv s1 hx => thn hx fun itv s2 h2 => ?_)
  obtain ⟨it, fp, tn, J, H2, e, I2, T, st2, f2, q⟩ := h2
  subst e
  refine wpAny_newObj_type (newEnv_comp ⟨rfl, ?_⟩) (by show 0 ≤ sizeLine; decide)
  generalize hD : s2.heap.objs.size = D
  have hDn : H2 D = none := I2.hok.fresh (Nat.le_of_eq hD)
  obtain ⟨Wk, ⟨m0, w0⟩, turn⟩ := q D hDn
  generalize hs3 : ({ s2 with heap := s2.heap.push { cls := .type "list", data := .seq ([] : List Value).toArray } } : Shared) = s3
  have I3 : Inv X pins σ (upd H2 D (.lst [])) s3 := by
    rw [← hs3]
    refine I2.laid (t' := s2.toks) (fun b o e => Heap.get?_push_of_some _ e) (Nat.le_of_eq hD) ⟨Nat.zero_le _, [], 0, .nil, ?_⟩
    rw [← hD]
    exact Heap.get?_push_size _ rfl
  have h3 : s3.heap = s2.heap.push { cls := .type "list", data := .seq ([] : List Value).toArray } := by rw [← hs3]
  have sz : ∀ b ∈ fp, b < s2.heap.objs.size := fun b hb => by
    obtain ⟨o, e, _⟩ := T.obj _ _ st2 b hb
    exact Heap.lt_size e
  have f3 : ∀ b ∈ fp, FpOk X pins (upd H2 D (.lst [])) b ∧ b < s3.heap.objs.size := fun b hb => by
    have hlt := sz b hb
    refine ⟨⟨?_, (f2 b hb).2⟩, by rw [h3, Heap.size_push]; exact Nat.lt_succ_of_lt hlt⟩
    rw [upd_ne (by rw [← hD]; exact Nat.ne_of_lt hlt)]
    exact (f2 b hb).1
  have st3 : tn 0 s3.heap := T.keep _ _ _ st2 fun b _ o e => by rw [h3]; exact Heap.get?_push_of_some _ e
  have I4 := block_start I3 ok hN f3
  have pg := hg s3 (upd H2 D (.lst [])) s3.heap.objs.size (cellsFrom (s3.heap.objs.size + 1) scope.names (cloFrom X.env.cells scope.names [])) fp
  have pt := ht s3 (upd H2 D (.lst [])) s3.heap.objs.size (cellsFrom (s3.heap.objs.size + 1) scope.names (cloFrom X.env.cells scope.names [])) fp
  have pe := he s3 (upd H2 D (.lst [])) s3.heap.objs.size (cellsFrom (s3.heap.objs.size + 1) scope.names (cloFrom X.env.cells scope.names [])) fp
  show codeAny _ _ (.compStart (.ListComp elt [⟨tg, iter, ifs, 0⟩] scope pos) 0 (.ref it) (.ref D) (compEnvC scope (cellsFrom (s3.heap.objs.size + 1) scope.names (cloFrom X.env.cells scope.names [])) s3.heap.objs.size X.env)) (compPostE (model X.prog X.w) X.A X.xe X.env.frame use Qf (.ref D) s3.heap.objs.size) { s3 with heap := pushCells (s3.heap.push { cls := .type "dict", data := .dict #[] }) scope.names }
  have nfp : ∀ b ∈ fp, (upd H2 D (.lst [])) b = none := fun b hb => (f3 b hb).1.1
  have cF0 : (compEnvC scope (cellsFrom (s3.heap.objs.size + 1) scope.names (cloFrom X.env.cells scope.names [])) s3.heap.objs.size X.env).frame = X.env.frame := rfl
  generalize hce : compEnvC scope (cellsFrom (s3.heap.objs.size + 1) scope.names (cloFrom X.env.cells scope.names [])) s3.heap.objs.size X.env = ce at I4 pg pt pe cF0 ⊢
  have cL : ce.locals = s3.heap.objs.size := by subst hce; rfl
  generalize hH3 : upd H2 D (.lst []) = H3 at I3 I4 pg pt pe w0 nfp f3
  generalize hs4 : ({ s3 with heap := pushCells (s3.heap.push { cls := .type "dict", data := .dict #[] }) scope.names } : Shared) = s4 at I4 ⊢
  have st4 : tn 0 s4.heap := T.keep _ _ _ st3 fun b _ o e => by rw [← hs4]; exact pushCells_keeps _ _ _ _ (Heap.get?_push_of_some _ e)
  generalize hxe : notedBy (model X.prog X.w) X.A ce (fun e s'' => compPostE (model X.prog X.w) X.A X.xe X.env.frame use Qf (.ref D) s3.heap.objs.size (.error e) s'') = xe
  have pas : L2.Passes (L2.CX X.prog X.w) (blkE X s3 H3 scope ce fp xe) E := fun pins' σ' H5 s5 u s' I5 c => by
    show xe u s'
    rw [← hxe]
    exact blk_err tk hst hf I3 f3 cL cF0 I5 c hW
  have pg := pg xe pas
  have pt := pt xe pas
  have pe := pe xe pas
  have I4 : Inv (blkE X s3 H3 scope ce fp xe) [] (wipe σ (own.map (·.2))) H3 s4 := inv_xe xe I4
  have stat : ∀ {σ' : L2.St} {H' : Hp} {s' : Shared}, Inv (blkE X s3 H3 scope ce fp xe) [] σ' H' s' → (∀ b ∈ fp, H' b = none) → ∀ b ∈ fp, FpOk (blkE X s3 H3 scope ce fp xe) [] H' b := fun {σ' H' s'} I' hn b hb =>
    ⟨hn b hb, (I'.ok.exf b hb).1, I'.ok.exfs b hb, .inl hb, fun x c e => (I'.ok.exf b hb).2 x c e, fun p hp => absurd (show p ∈ ([] : List (Addr × Obj)) ++ [] from hp) (by simp)⟩
  have loop : codeAny (model X.prog X.w) X.A (.compLoop (.ListComp elt [⟨tg, iter, ifs, 0⟩] scope pos) 0 (.ref it) (.ref D) ce) (compPostE (model X.prog X.w) X.A X.xe X.env.frame use Qf (.ref D) s3.heap.objs.size) s4 := by
    refine compLoop_any (fun n s' => ∃ i H', Inv (blkE X s3 H3 scope ce fp xe) [] (wipe σ (own.map (·.2))) H' s' ∧ tn i s'.heap ∧ (∀ b ∈ fp, H' b = none) ∧ Wk i n H') ?_ m0 ⟨0, H3, I4, st4, nfp, w0⟩
    rintro n s5 ⟨i, H5, I5, st5, n5, w5⟩
    rw [hxe]
    rcases turn i n H5 w5 with ⟨stop, qq⟩ | ⟨go, Nx, hNx, step⟩
    · have td := T.done (blkE X s3 H3 scope ce fp xe) rfl rfl rfl hc i [] s5 _ H5 (fun _ _ => False) I5 (stat I5 n5) st5 stop
      refine thnF td fun r s6 ⟨hr, I6⟩ => ?_
      subst hr
      have I7 : Inv X pins σ H5 s6 := I3.call' (ch := fp) I6.os I6.base I6.hok I6.bare fun b hb => ⟨(f3 b hb).1.2.2.2.1, (f3 b hb).1.2.1, (f3 b hb).1.2.2.2.2.1, (f3 b hb).1.2.2.2.2.2⟩
      have nC : H5 s3.heap.objs.size = none := by
        have z : H5 ce.locals = none := I6.free
        rw [cL] at z
        exact z
      obtain ⟨m, hn, _⟩ := I6.loc
      have hn : s6.heap.Ns ce.locals m := hn
      rw [cL] at hn
      exact hRR D s3.heap.objs.size s6 m H5 I7 qq hn (I3.fpOk (Nat.le_refl _) nC)
    · have ti := T.item (blkE X s3 H3 scope ce fp xe) rfl rfl rfl hc i [] s5 _ H5 (fun _ _ => False) I5 (stat I5 n5) st5 go
      refine thnF ti fun r s6 ⟨u, hr, h6⟩ => ?_
      subst hr
      refine thnF h6 fun _ s7 ⟨x, H7, I7, r7, y7, st7, n7⟩ => ?_
      have I7' := I7.pinned (stat I7 n7) (T.obj _ _ st7)
      refine thn (pg.run _ s7 _ H7 x u _ I7' r7 (step x H7 y7)) fun _ s8 ⟨σ8, H8, I8, hw8, q8⟩ => ?_
      refine thn (pt.run _ s8 σ8 H8 _ I8 q8) fun b s9 ⟨H9, I9, q9⟩ => ?_
      have fin : ∀ {s' : Shared} {H' : Hp}, Inv (blkE X s3 H3 scope ce fp xe) ([] ++ pinsAt fp s7.heap) σ8 H' s' → Nx H' → ∃ m, m < n ∧ ∃ i H', Inv (blkE X s3 H3 scope ce fp xe) [] (wipe σ (own.map (·.2))) H' s' ∧ tn i s'.heap ∧ (∀ b ∈ fp, H' b = none) ∧ Wk i m H' := fun {s' H'} I' nx => by
        obtain ⟨m', hm, w'⟩ := hNx H' nx
        have pin' : ∀ b ∈ fp, ∀ o, s7.heap.get? b = some o → s'.heap.get? b = some o ∧ H' b = none := fun b hb o e =>
          let z := I'.pin (b, o) (List.mem_append_right _ (List.mem_append_right _ (mem_pinsAt hb e)))
          ⟨z.1, z.2.1⟩
        have hl : (wipe σ (own.map (·.2))).length = σ8.length := by rw [← hw8, wipe_length]
        refine ⟨m', hm, i + 1, H', (I'.unpinned (pins := [])).weak hl (fun j v e => ?_), T.keep _ _ _ st7 fun b hb o e => (pin' b hb o e).1, fun b hb => ?_, w'⟩
        · rw [← hw8] at e
          exact (wipe_some e).1
        · obtain ⟨o, e, _⟩ := T.obj _ _ st7 b hb
          exact (pin' b hb o e).2
      cases b with
      | false =>
        simp only [Bool.false_eq_true, if_false] at q9 ⊢
        exact fin I9 q9
      | true =>
        simp only [if_true] at q9 ⊢
        refine thn (pe.run _ s9 σ8 H9 _ I9 q9) fun z s10 ⟨yv, H10, I10, r10, acc, hD10, hz10, nx⟩ => ?_
        exact app_ok (X := blkE X s3 H3 scope ce fp xe) I10 hD10 hz10 r10 fun s11 I11 => fin I11 nx
  exact codeAny_compStart_list loop (T.self X.A 0 _ _ _ st4 loop)
/-- as a value -/
theorem pe_lcE {W : WX} {E : XK} {elt tg iter : Expr} {ifs : List Expr} {scope : Scope} {own : List (Str × Nat)} {pos : Pos} {wi : L2.TI} {g : TG} {tt : TT} {te : TE}
    (tk : Takes X W) (hst : X.stack = X.env :: X.outer) (hf : X.env.frame = some X.env.locals) (hW : ∀ cls d σ H', E cls d H' → W cls d σ H')
    (hc : X.calm = true) (hN : X.N.Nodup) (hi : PI X tg iter wi) (ok : BlkOk X.N X.env.scope scope own)
    (hg : BlkR X scope E fun Y => PG Y tg g) (ht : BlkR X scope E fun Y => PTs Y ifs tt) (he : BlkR X scope E fun Y => PE Y elt te) (hs : ∀ x, foldedSetIterable iter X.env x = pure x := by intro _; rfl) :
    PE X (.ListComp elt [⟨tg, iter, ifs, 0⟩] scope pos) (tLc wi g tt te (own.map (·.2))) := by
  refine ⟨fun pins s σ H Q I h => ?_⟩
  rw [eval_ListComp]
  refine lc_coreE tk hst hf (fun cls d H' => hW cls d σ H') hc hN I hi ok hg ht he hs h fun D C s' m H' I' q hn f => ⟨m, hn, fun h'' sb => ?_⟩
  obtain ⟨f0, f1, f2, f3, f4, f5⟩ := f
  exact ⟨.ref D, H', I'.turned (t' := s'.toks) (fun b o hb e => (sb.2 b hb).trans e) f0 f1 f3 f4 f5, rfl, q⟩
end
end Lk

/-! ## D97 -/
set_option Elab.async false
set_option linter.all false
set_option maxRecDepth 100000
set_option maxHeartbeats 2000000
namespace Lk
open PySem PySem.Spec PyProof.Rows L2 Gx
variable [Own]
abbrev s_tables : Stmt := top 31
theorem sc_tables : FnScope ["web", "folk"] ["web", "folk"] (defScope s_tables) := ⟨rfl, rfl, rfl, by decide +kernel, rfl, by decide +kernel, by decide +kernel⟩
abbrev s_count_rules : Stmt := top 32
theorem sc_count_rules : FnScope ["web"] ["web"] (defScope s_count_rules) := ⟨rfl, rfl, rfl, by decide +kernel, rfl, by decide +kernel, by decide +kernel⟩
/-- the folks' tables, each of 3000 or less -/
def Few3 (W : Web) : Prop := ∀ f : Int, 0 ≤ f → f < W.tops.length → (tablesOf W f).length ≤ 3000
/-- TooMany of 3000, new, is what comes out -/
def Many3 (C : Addr) (H : Hp) (E : XK) : Prop := ∀ H' d, Ext H H' → H d = none → H' d = some (.xd [("most", .int 3000)]) → E (.ref C) (some d) H'
theorem Many3.ext {C : Addr} {H H1 : Hp} {E : XK} (k : Many3 C H E) (e : Ext H H1) : Many3 C H1 E := fun H' d e' hd hx => k H' d (e.trans e') (e.free hd) hx
def spTablesOfAllX (C : Addr) : Sp := fun vs H Q E => ∃ (v : V) (W : Web), vs = [v] ∧ WebAt H v W ∧ W.Ok ∧ (Few3 W → ∀ H' p us, Ext H H' → H' p = some (.lst us) → Paired (TT2 H') us ((nums 0 W.tops.length).map (tablesOf W)) → Q (.ref p) H') ∧ (¬ Few3 W → Many3 C H E)
def spCountRulesX (Ps : List Addr) (C : Addr) : Sp := fun vs H Q E => ∃ (v : V) (W : Web), vs = [v] ∧ WebAt H v W ∧ W.Ok ∧ Tabs Ps H ∧ (Few3 W → ∀ H', Ext H H' → Q (.int ((lensOf ((nums 0 W.tops.length).map (tablesOf W)) : Nat) : Int)) H') ∧ (¬ Few3 W → Many3 C H E)
def spTablesX (Ps : List Addr) (C : Addr) : Sp := fun vs H Q E => ∃ (v : V) (W : Web) (f : Int), vs = [v, .int f] ∧ WebAt H v W ∧ W.Ok ∧ (0 ≤ f ∧ f < W.tops.length) ∧ Tabs Ps H ∧
  ((tablesOf W f).length ≤ 3000 → ∀ H' q, Ext H H' → TT2 H' (.ref q) (tablesOf W f) → Q (.ref q) H') ∧ (3000 < (tablesOf W f).length → Many3 C H E)
/-- tables told, 3000 or less -/
def TT3 : Hp → V → List (List Int) → Prop := fun H v a => TT2 H v a ∧ a.length ≤ 3000
theorem stTT3 : Stays TT3 := ⟨fun e h => ⟨stTT2.ext e h.1, h.2⟩, fun hD h => ⟨stTT2.put hD h.1, h.2⟩⟩
section
variable {P : Program} {w : World} {K : PySem.W.Frag} {mg : Str → Option Value} {base : Heap} {Ps : List Addr} {C : Addr}
theorem ok_tables_of_allX {f : Addr} {fd : FuncData} (F : Fun K "tables_of_all" "tables_of_all" s_tables_of_all f fd) (B : Blt mg)
    (c_all_tables : Cal P w K mg base (L2.CX P w) 3 "all_tables" ["web", "folk"] (spAllTablesX C)) : FnOk P w K mg base (L2.CX P w) 4 f fd ["web"] (spTablesOfAllX C) := by
  refine F.okX sc_tables_of_all (fun vs H Q E h => ?_) (fun cdv A outer s0 H vs Q E hr h => ?_)
  · obtain ⟨v, W, rfl, _⟩ := h
    rfl
  · obtain ⟨v, W, rfl, hW, ok, k, kE⟩ := h
    obtain ⟨a, t, l, rfl, ha, ⟨b, rfl, hb⟩, hl⟩ := id hW
    refine ⟨_, (pss_cons (ps_asg (pv 0) (pg_tupT (n := 2) rfl (pgs_cons (pg_name (i := 1) sc_tables_of_all.nd rfl (by first | exact Or.inl rfl | exact Or.inr rfl)) (pgs_cons (pg_name (i := 2) sc_tables_of_all.nd rfl (by first | exact Or.inl rfl | exact Or.inr rfl)) pgs_nil))))
      (pss_one (ps_ret (pe_lcE (takes_of rfl rfl rfl rfl) rfl rfl (fun _ _ _ _ h => h) (own := [("folk", 3)]) rfl sc_tables_of_all.nd (pi_range1 (by rfl) B.range (pa_cons (pe_callB call_lenT (by rfl) B.len PySem.boot_len (pa_cons (pv 1) pa_nil)) pa_nil)) (blkOk_by (N := ["web", "tops", "_", "folk"]) (sc := defScope s_tables_of_all) (by decide +kernel)) (fun _ _ _ _ _ _ px => (pg_name (i := 3) sc_tables_of_all.nd rfl (by first | exact Or.inl rfl | exact Or.inr rfl))) (fun _ _ _ _ _ _ px => pts_nil) (fun _ _ _ _ _ _ px => (pe_cal c_all_tables (hr.mono (by decide)) (by rfl) (E := E) px (pa_cons (pv 0) (pa_cons (pv 3) pa_nil)))))))), ?_⟩
    have l6 := ok.few
    refine ⟨_, rfl, a, _, rfl, ha, rfl, _, _, rfl, _, _, rfl, rfl, ?_⟩
    refine ⟨_, rfl, _, _, rfl, .inr hb, _, rfl, by omega, by rw [iv_len]; omega, fun D hD => ?_⟩
    have en : ((iv W.tops).length : Int).toNat = W.tops.length := by rw [iv_len]; omega
    rw [en]
    refine lc_fmR (lo := 0) (n := W.tops.length) (S := TT3) stTT3 (fun m => some (tablesOf W m)) hD (Nat.le_of_lt (small1000 (by omega))) (fun m H' Ky Kn e h1 h2 k1 k2 => ?_) fun H' acc e hacc hp => ?_
    · refine ⟨rfl, yes ⟨_, rfl, _, rfl, _, W, m, rfl, hW.ext e, ok, ⟨h1, by omega⟩, fun hle H3 q e3 hq => ?_, fun hgt H3 d e3 hd hx => ?_⟩⟩
      · exact k1 _ _ _ rfl e3 ⟨hq, hle⟩
      · exact kE (fun z => absurd (z m h1 (by omega)) (by omega)) H3 d (e.trans e3) (e.free hd) hx
    · rw [List.filterMap_eq_map', Int.zero_add] at hp
      have few : Few3 W := fun f h1 h2 => by
        have hg : ((nums 0 (W.tops.length : Int)).map (tablesOf W))[f.toNat]? = some (tablesOf W f) := by
          rw [List.getElem?_map, nums_get (by omega)]
          show some (tablesOf W (0 + (f.toNat : Int))) = _
          rw [show (0 : Int) + (f.toNat : Int) = f by omega]
        have hl : f.toNat < acc.length := by
          rw [paired_len hp]
          exact (List.getElem?_eq_some_iff.mp hg).1
        obtain ⟨b', hb', hr'⟩ := paired_get' hp (List.getElem?_eq_getElem hl)
        rw [hg] at hb'; cases hb'
        exact hr'.2
      exact k few H' D acc e hacc (paired_mono (fun v a h => h.1) hp)
theorem ok_count_rulesX {f : Addr} {fd : FuncData} (F : Fun K "count_rules" "count_rules" s_count_rules f fd)
    (c_check_web : Cal P w K mg base CX0 6 "check_web" ["web"] (spCheckWeb Ps)) (c_tables_of_all : Cal P w K mg base (L2.CX P w) 4 "tables_of_all" ["web"] (spTablesOfAllX C)) (c_many_choices : Cal P w K mg base CX0 1 "many_choices" ["choices"] spManyChoices) :
    FnOk P w K mg base (L2.CX P w) 7 f fd ["web"] (spCountRulesX Ps C) := by
  refine F.okX sc_count_rules (fun vs H Q E h => ?_) (fun cdv A outer s0 H vs Q E hr h => ?_)
  · obtain ⟨v, W, rfl, _⟩ := h
    rfl
  · obtain ⟨v, W, rfl, hW, ok, hTb, k, kE⟩ := h
    refine ⟨_, (pss_cons (ps_expr (pe_c0 c_check_web (hr.mono (by decide)) (by rfl) (pa_cons (pv 0) pa_nil)))
      (pss_one (ps_ret (pe_c0 c_many_choices (hr.mono (by decide)) (by rfl) (pa_cons (pe_cal c_tables_of_all (hr.mono (by decide)) (by rfl) (E := E) (passes_call (takes_of rfl rfl rfl rfl) fun _ _ _ _ h => h) (pa_cons (pv 0) pa_nil)) pa_nil))))), ?_⟩
    refine ⟨_, rfl, _, W, rfl, hW, ok, hTb, fun H1 e1 => ?_⟩
    refine ⟨_, rfl, _, W, rfl, hW.ext e1, ok, fun few H2 p us e2 hp hus => ?_, fun nf => (kE nf).ext e1⟩
    refine ⟨p, us, _, rfl, hp, hus, fun c hc => ?_, k few H2 (e1.trans e2)⟩
    obtain ⟨g, hg, rfl⟩ := List.mem_map.mp hc
    obtain ⟨h1, h2⟩ := mem_nums.mp hg
    exact Nat.le_trans (few g h1 (by omega)) (by decide)
theorem ok_tablesX {f : Addr} {fd : FuncData} (F : Fun K "tables" "tables" s_tables f fd)
    (c_check_web : Cal P w K mg base CX0 6 "check_web" ["web"] (spCheckWeb Ps)) (c_check_folk : Cal P w K mg base CX0 2 "check_folk" ["web", "folk"] spCheckFolk) (c_all_tables : Cal P w K mg base (L2.CX P w) 3 "all_tables" ["web", "folk"] (spAllTablesX C)) :
    FnOk P w K mg base (L2.CX P w) 7 f fd ["web", "folk"] (spTablesX Ps C) := by
  refine F.okX sc_tables (fun vs H Q E h => ?_) (fun cdv A outer s0 H vs Q E hr h => ?_)
  · obtain ⟨v, W, n, rfl, _⟩ := h
    rfl
  · obtain ⟨v, W, n, rfl, hW, ok, hn, hTb, k, kE⟩ := h
    refine ⟨_, (pss_cons (ps_expr (pe_c0 c_check_web (hr.mono (by decide)) (by rfl) (pa_cons (pv 0) pa_nil)))
      (pss_cons (ps_expr (pe_c0 c_check_folk (hr.mono (by decide)) (by rfl) (pa_cons (pv 0) (pa_cons (pv 1) pa_nil))))
      (pss_one (ps_ret (pe_cal c_all_tables (hr.mono (by decide)) (by rfl) (E := E) (passes_call (takes_of rfl rfl rfl rfl) fun _ _ _ _ h => h) (pa_cons (pv 0) (pa_cons (pv 1) pa_nil))))))), ?_⟩
    refine ⟨_, rfl, _, W, rfl, hW, ok, hTb, fun H1 e1 => ?_⟩
    refine ⟨_, rfl, _, rfl, _, W, n, rfl, hW.ext e1, hn, ?_⟩
    refine ⟨_, rfl, _, rfl, _, W, n, rfl, hW.ext e1, ok, hn, fun hle H2 q e2 hq => k hle H2 q (e1.trans e2) hq, fun hgt => (kE hgt).ext e1⟩
end
end Lk


/-! ## D25 -/
set_option Elab.async false
set_option linter.all false
set_option maxRecDepth 100000
set_option maxHeartbeats 2000000
namespace Lk
open PySem PySem.Spec PyProof.Rows L2 Gx
open GxR (TabG Tabbed TabB)
variable [Own]
def spLawState (K : PySem.W.Frag) : Sp := fun vs H Q _ => ∃ (r sc : Addr) (ns : List Int) (v : V) (W : Web), vs = [.ref r, v] ∧ Rw K H r sc ns ∧ WebAt H v W ∧ W.Ok ∧
  ∀ H' u st, ExtB r H H' → Rw K H' r sc ns → H u = none → H' u = some (.tup (iv st)) → StOk W st → Q (.ref u) H'
section
variable {P : Program} {w : World} {K : PySem.W.Frag} {mg : Str → Option Value} {base : Heap} {Ps : List Addr}
end
end Lk


/-! ## D27 -/
set_option Elab.async false
set_option linter.all false
set_option maxRecDepth 100000
set_option maxHeartbeats 2000000
namespace Lk
open PySem PySem.Spec PyProof.Rows L2 Gx
open GxR (TabG Tabbed TabB)
variable [Own]
def spLawRules (K : PySem.W.Frag) : Sp := fun vs H Q _ => ∃ (r sc : Addr) (ns : List Int) (v : V) (W : Web), vs = [.ref r, v] ∧ Rw K H r sc ns ∧ WebAt H v W ∧ W.Ok ∧
  ∀ H' u us ru, ExtB r H H' → Rw K H' r sc ns → H u = none → H' u = some (.tup us) → Paired (TI H') us ru → Ru0 W ru → firstBad W ru = none → Q (.ref u) H'
theorem bad_none {W : Web} {ru : List (List Int)} (h : ∀ f, f < W.tops.length → isTable W (f : Int) (ru.getD f []) = true) : firstBad W ru = none := by
  unfold firstBad
  rw [List.find?_eq_none]
  intro f hf
  rw [h f (List.mem_range.mp hf)]
  simp
theorem table_len27 {W : Web} (ok : W.Ok) {f : Int} {tb : List Int} (h : isTable W f tb = true) : tb.length ≤ 256 := by
  rw [isTable_iff ok] at h
  rw [h.1, ← rws_len, ← rowsAt_rws]
  exact (rowsAt_len ok f).2
section
variable {P : Program} {w : World} {K : PySem.W.Frag} {mg : Str → Option Value} {base : Heap} {Ps : List Addr}
end
end Lk


/-! ## CsN -/
set_option Elab.async false
set_option linter.all false
set_option maxRecDepth 100000
set_option maxHeartbeats 2000000
/-! What k00's law says of rules and their settled states, without its law (for others). -/
namespace Lk
open PySem PySem.Spec PyProof.Rows L2 Gx
open GxR (TabG Tabbed TabB)
variable [Own]
/-- each number once, how often it was met -/
def kvN (keys ns : List Nat) : List (Key × V) := keys.map fun n : Nat => ((Sum.inl (n : Int) : Key), V.int ((ns.count n : Nat) : Int))
theorem kvN_val (ns : List Nat) (x : Nat) : ∀ keys : List Nat, valV (kvN keys ns) (Sum.inl (x : Int)) = if x ∈ keys then some (.int ((ns.count x : Nat) : Int)) else none
  | [] => rfl
  | n :: keys => by
    show valV ((((Sum.inl (n : Int) : Key), V.int ((ns.count n : Nat) : Int))) :: kvN keys ns) _ = _
    by_cases e : n = x
    · subst e
      rw [valV_pos rfl, if_pos (List.mem_cons_self ..)]
    · rw [valV_neg (fun h => e (Int.ofNat.inj (Sum.inl.inj h))), kvN_val ns x keys]
      by_cases hm : x ∈ keys
      · rw [if_pos hm, if_pos (List.mem_cons_of_mem _ hm)]
      · rw [if_neg hm, if_neg (fun h => by
          rcases List.mem_cons.mp h with h | h
          · exact e h.symm
          · exact hm h)]
theorem kvN_put {keys ns : List Nat} (hk : ∀ n, n ∈ keys ↔ n ∈ ns) (x : Nat) :
    ∃ keys' : List Nat, putK (kvN keys ns) (Sum.inl (x : Int)) (.int (((ns.count x : Nat) : Int) + 1)) = kvN keys' (ns ++ [x]) ∧ (∀ n, n ∈ keys' ↔ n ∈ ns ++ [x]) ∧ keys'.length ≤ keys.length + 1 := by
  by_cases hm : x ∈ keys
  · refine ⟨keys, ?_, fun n => ?_, by omega⟩
    · unfold putK
      rw [valV_any, kvN_val, if_pos hm]
      show List.map _ (kvN keys ns) = _
      unfold kvN
      rw [List.map_map]
      refine List.map_congr_left fun n _ => ?_
      show (if (Sum.inl (n : Int) : Key) = Sum.inl (x : Int) then _ else _) = _
      by_cases e : n = x
      · subst e
        rw [if_pos rfl, List.count_append, List.count_singleton_self]
        rfl
      · have e' : ¬ ((Sum.inl (n : Int) : Key) = Sum.inl (x : Int)) := fun h => e (Int.ofNat.inj (Sum.inl.inj h))
        rw [if_neg e', List.count_append, List.count_singleton, if_neg (by simpa using fun h => e h.symm)]
        rfl
    · rw [hk n, List.mem_append]
      refine ⟨.inl, fun h => ?_⟩
      rcases h with h | h
      · exact h
      · rw [List.mem_singleton.mp h]
        exact (hk x).mp hm
  · have hx : x ∉ ns := fun h => hm ((hk x).mpr h)
    refine ⟨keys ++ [x], ?_, fun n => ?_, by rw [List.length_append]; exact Nat.le_refl _⟩
    · rw [putK_new _ (by rw [kvN_val, if_neg hm])]
      unfold kvN
      rw [List.map_append]
      congr 1
      · refine List.map_congr_left fun n hn => ?_
        rw [List.count_append, List.count_singleton, if_neg (by simpa using fun h : x = n => hm (by rw [h]; exact hn))]
        rfl
      · have e2 : (ns ++ [x]).count x = ns.count x + 1 := by rw [List.count_append, List.count_singleton_self]
        show _ = [((Sum.inl (x : Int) : Key), V.int (((ns ++ [x]).count x : Nat) : Int))]
        rw [e2]
        rfl
    · rw [List.mem_append, List.mem_append, hk n]
theorem cases_get {W : Web} {j : Nat} (h : j < W.tops.length) : (casesOf W).getD j [] = tablesOf W (j : Int) := by
  unfold casesOf
  rw [List.getD_eq_getElem?_getD, List.getElem?_map, nums_get (by omega), Int.zero_add]
  rfl
theorem all_rules {W : Web} (ok : W.Ok) {ru : List (List Int)} : ru ∈ rulesAll (casesOf W) ↔ Ru0 W ru ∧ firstBad W ru = none := by
  have lc := cases_len W
  have e : rulesAll (casesOf W) = rulesAll ((casesOf W).take (casesOf W).length) := by rw [List.take_length]
  rw [e]
  constructor
  · intro h
    obtain ⟨h1, h2⟩ := rules_mem (Nat.le_refl _) h
    have h2 : ∀ j, j < W.tops.length → isTable W (j : Int) (ru.getD j []) = true := fun j hj => by
      have := h2 j (by omega)
      rw [cases_get hj] at this
      exact (mem_tables ok).mp this
    refine ⟨⟨by omega, fun t ht => ?_⟩, bad_none h2⟩
    obtain ⟨i, hi, rfl⟩ := List.mem_iff_getElem.mp ht
    have h3 := h2 i (by omega)
    rw [List.getD_eq_getElem?_getD, List.getElem?_eq_getElem hi] at h3
    have h4 : ru[i].length ≤ 256 := table_len27 ok h3
    omega
  · rintro ⟨r0, hb⟩
    refine mem_rules (Nat.le_refl _) (by rw [r0.len, lc]) fun j hj => ?_
    rw [cases_get (by omega)]
    refine (mem_tables ok).mpr ?_
    have := firstBad_none hb (j : Int) (by omega) (by omega)
    rw [Int.toNat_natCast] at this
    exact this
theorem numbers_eq (W : Web) : numbersOf W = (rulesAll (casesOf W)).map fun ru => (settledStates W ru).length := by
  have lc := cases_len W
  unfold numbersOf
  rw [lefts_rules W (casesOf W) W.tops.length (by omega), show (casesOf W).take W.tops.length = casesOf W from List.take_of_length_le (by omega), List.map_map]
  refine List.map_congr_left fun ru hru => ?_
  have e : rulesAll (casesOf W) = rulesAll ((casesOf W).take (casesOf W).length) := by rw [List.take_length]
  rw [e] at hru
  show (selR W ru).length = _
  rw [sel_settled (by rw [(rules_mem (Nat.le_refl _) hru).1, lc])]
theorem numbers_mem {W : Web} (ok : W.Ok) {n : Nat} : n ∈ numbersOf W ↔ ∃ ru, Ru0 W ru ∧ firstBad W ru = none ∧ (settledStates W ru).length = n := by
  rw [numbers_eq, List.mem_map]
  constructor
  · rintro ⟨ru, h, e⟩
    obtain ⟨h1, h2⟩ := (all_rules ok).mp h
    exact ⟨ru, h1, h2, e⟩
  · rintro ⟨ru, h1, h2, e⟩
    exact ⟨ru, (all_rules ok).mpr ⟨h1, h2⟩, e⟩
theorem numbers_some {W : Web} (ok : W.Ok) : numbersOf W ≠ [] := by
  let ru := (List.range W.tops.length).map fun f : Nat => List.replicate (manyRows W (f : Int)).toNat (0 : Int)
  have hg : ∀ f, f < W.tops.length → ru.getD f [] = List.replicate (manyRows W (f : Int)).toNat 0 := fun f hf => by
    show List.getD (List.map _ _) _ _ = _
    rw [List.getD_eq_getElem?_getD, List.getElem?_map, List.getElem?_range hf]
    rfl
  have hb : firstBad W ru = none := bad_none fun f hf => by
    rw [hg f hf]
    exact zeros_ok ok ⟨by omega, by omega⟩
  have r0 : Ru0 W ru := by
    refine ⟨by show List.length (List.map _ _) = _; rw [List.length_map, List.length_range], fun t ht => ?_⟩
    obtain ⟨f, hf, rfl⟩ := List.mem_map.mp ht
    have := many_le ok (f : Int)
    rw [List.length_replicate]
    omega
  intro h
  have := (numbers_mem ok).mpr ⟨ru, r0, hb, rfl⟩
  rw [h] at this
  cases this
theorem few_rules {W : Web} (ok : W.Ok) (h1 : ∀ j, j < W.tops.length → (tablesOf W (j : Int)).length ≤ 150) (h2 : ∀ j, 0 < j → j ≤ W.tops.length → lensOf ((casesOf W).take j) ≤ 150) : FewR W := by
  have lc := cases_len W
  have l1 := ok.some_
  refine ⟨fun f f0 f1 => ?_, fun i => ?_, numbers_some ok⟩
  · have := h1 f.toNat (by omega)
    rw [show ((f.toNat : Nat) : Int) = f by omega] at this
    omega
  · rcases Nat.eq_zero_or_pos i with h | h
    · rw [h]
      exact (by decide : 1 ≤ 20000)
    · by_cases hi : i ≤ W.tops.length
      · have := h2 i h hi
        omega
      · have := h2 W.tops.length (by omega) (Nat.le_refl _)
        rw [List.take_of_length_le (by omega)] at this ⊢
        omega
end Lk

/-! ## D98 -/
set_option Elab.async false
set_option linter.all false
set_option maxRecDepth 100000
set_option maxHeartbeats 2000000
namespace Lk
open PySem PySem.Spec PyProof.Rows L2 Gx
variable [Own]
/-- TooMany of 20000, new, is what comes out -/
def Many20 (C : Addr) (H : Hp) (E : XK) : Prop := ∀ H' d, Ext H H' → H d = none → H' d = some (.xd [("most", .int 20000)]) → E (.ref C) (some d) H'
def spSettledCountsX (Ps : List Addr) (C : Addr) : Sp := fun vs H Q E => ∃ (v : V) (W : Web), vs = [v] ∧ WebAt H v W ∧ W.Ok ∧ Tabs Ps H ∧ (FewR W → ∀ H' q, Ext H H' → H' q = some (.tup (iv (countsOf (numbersOf W)))) → Q (.ref q) H') ∧ (¬ Few3 W → Many3 C H E) ∧ (Few3 W → 20000 < lensOf (casesOf W) → Many20 C H E)
theorem fold_up {α : Type} : ∀ (l : List (List α)) (m : Nat), (∀ c ∈ l, 1 ≤ c.length) → m ≤ l.foldl (fun m c => m * c.length) m
  | [], _, _ => Nat.le_refl _
  | c :: l, m, h => by
    have h1 := h c (List.mem_cons_self ..)
    have h2 := fold_up l (m * c.length) fun d hd => h d (List.mem_cons_of_mem _ hd)
    exact Nat.le_trans (by simpa using Nat.mul_le_mul_left m h1) h2
theorem lens_take {α : Type} {cs : List (List α)} (h : ∀ c ∈ cs, 1 ≤ c.length) (n : Nat) : lensOf (cs.take n) ≤ lensOf cs := by
  have e : lensOf cs = (cs.drop n).foldl (fun m c => m * c.length) (lensOf (cs.take n)) := by
    unfold lensOf
    rw [← List.foldl_append, List.take_append_drop]
  rw [e]
  exact fold_up _ _ fun c hc => h c (List.mem_of_mem_drop hc)
theorem tables_some {W : Web} (ok : W.Ok) {f : Int} (h0 : 0 ≤ f) (h1 : f < W.tops.length) : 1 ≤ (tablesOf W f).length := by
  have tk := topAt_ok ok h0 h1
  have h := below_more (W := W) (f := f) ok (by omega) (Nat.zero_le (rowsAt W f).length)
  rw [tables_below ok] at h
  exact h
theorem fewR_of {W : Web} (ok : W.Ok) (few3 : Few3 W) (h : lensOf (casesOf W) ≤ 20000) : FewR W := by
  refine ⟨few3, fun i => Nat.le_trans (lens_take (fun c hc => ?_) i) h, ?_⟩
  · obtain ⟨g, hg, rfl⟩ := List.mem_map.mp hc
    obtain ⟨h1, h2⟩ := mem_nums.mp hg
    exact tables_some ok h1 (by omega)
  · exact numbers_some ok
section
variable {P : Program} {w : World} {K : PySem.W.Frag} {mg : Str → Option Value} {base : Heap} {Ps : List Addr} {C fI cc : Addr}
theorem ok_settled_countsX {f : Addr} {fd : FuncData} (F : Fun K "settled_counts" "settled_counts" s_settled_counts f fd) (B : Blt mg) (M : NumsC mg) (TM : Mn.BadTxt P K mg C fI cc)
    (c_check_web : Cal P w K mg base CX0 6 "check_web" ["web"] (spCheckWeb Ps)) (c_tables_of_all : Cal P w K mg base (L2.CX P w) 4 "tables_of_all" ["web"] (spTablesOfAllX C)) (c_many_choices : Cal P w K mg base CX0 1 "many_choices" ["choices"] spManyChoices)
    (c_settled_by_choices : Cal P w K mg base CX0 3 "settled_by_choices" ["web", "choices"] spSettledByC) : FnOk P w K mg base (L2.CX P w) 7 f fd ["web"] (spSettledCountsX Ps C) := by
  refine F.okX sc_settled_counts (fun vs H Q E h => ?_) (fun cdv A outer s0 H vs Q E hr h => ?_)
  · obtain ⟨v, W, rfl, _⟩ := h
    rfl
  · obtain ⟨v, W, rfl, hW, ok, hTb, k, kE, kR⟩ := h
    refine ⟨_, (pss_cons (ps_expr (pe_c0 c_check_web (hr.mono (by decide)) (by rfl) (pa_cons (pv 0) pa_nil)))
      (pss_cons (ps_set (i := 1) sc_settled_counts.nd rfl (by first | exact Or.inl rfl | exact Or.inr rfl) (pe_cal c_tables_of_all (hr.mono (by decide)) (by rfl) (E := E) (passes_call (takes_of rfl rfl rfl rfl) fun _ _ _ _ h => h) (pa_cons (pv 0) pa_nil)))
      (pss_cons (ps_if (pt_cmpR op_gt (pe_c0 c_many_choices (hr.mono (by decide)) (by rfl) (pa_cons (pv 1) pa_nil)) (pe_num M.MOST_RULES (by rfl)) (nomark _))
        (pss_one (Mn.ps_raiseBad rfl TM hr (takes_of rfl rfl rfl rfl) (pa_cons (pe_num M.MOST_RULES (by rfl)) pa_nil))) pss_nil)
      (pss_cons (ps_setLc (i := 3) (own := [("states", 2)]) rfl sc_settled_counts.nd rfl rfl (sw_true rfl rfl rfl (by decide +kernel)) (pi_list (pe_c0 c_settled_by_choices (hr.mono (by decide)) (by rfl) (pa_cons (pv 0) (pa_cons (pv 1) pa_nil)))) (blkOk_by (N := ["web", "choices", "states", "numbers", "found", "number"]) (sc := defScope s_settled_counts) (by decide +kernel)) (fun _ _ _ _ _ => (pg_name (i := 2) sc_settled_counts.nd rfl (by first | exact Or.inl rfl | exact Or.inr rfl))) (fun _ _ _ _ _ => pts_nil) (fun _ _ _ _ _ => (pe_callB call_lenT (by rfl) B.len PySem.boot_len (pa_cons (pv 2) pa_nil))))
      (pss_cons (ps_set (i := 4) sc_settled_counts.nd rfl (by first | exact Or.inl rfl | exact Or.inr rfl) (pe_op op_rep (pe_lst (pa_cons pe_int pa_nil)) (pe_op op_add (pe_callB (cr_max rfl) (by rfl) B.max boot_max (pa_cons (pv 3) pa_nil)) pe_int)))
      (pss_cons (ps_for (passes_of rfl) rfl (pi_list (pv 3)) (pg_name (i := 5) sc_settled_counts.nd rfl (by first | exact Or.inl rfl | exact Or.inr rfl))
        (pss_one (ps_augS (pv 4) (pv 5) pget_listI pe_int ip_add set_list)))
      (pss_one (ps_ret (pe_tupleL (by rfl) B.tuple (pv 4)))))))))), ?_⟩
    refine ⟨_, rfl, _, W, rfl, hW, ok, hTb, fun H1 e1 => ?_⟩
    refine ⟨_, rfl, _, W, rfl, hW.ext e1, ok, fun few3 H2 p us e2 hp hus => ?_, fun nf => (kE nf).ext e1⟩
    have l6 := ok.few
    have lcs : (casesOf W).length = W.tops.length := by
      unfold casesOf
      rw [List.length_map, nums_len]
      omega
    have E2 := e1.trans e2
    have cget : ∀ (f : Nat) (tbs : List (List Int)), (casesOf W)[f]? = some tbs → f < W.tops.length ∧ tbs = tablesOf W (f : Int) := fun f tbs h => by
      have hf : f < W.tops.length := by
        have := (List.getElem?_eq_some_iff.mp h).1
        omega
      refine ⟨hf, ?_⟩
      unfold casesOf at h
      rw [List.getElem?_map, nums_get (by omega)] at h
      have := Option.some.inj h
      rw [← this, Int.zero_add]
    refine ⟨_, rfl, p, us, casesOf W, rfl, hp, hus, fun c hc => ?_, ?_⟩
    · obtain ⟨i, hi⟩ := List.mem_iff_getElem?.mp hc
      obtain ⟨h1, rfl⟩ := cget i c hi
      have := few3 (i : Int) (by omega) (by omega)
      omega
    refine ⟨_, _, rfl, rfl, _, rfl, ?_⟩
    by_cases hgt : 20000 < lensOf (casesOf W)
    · rw [decide_eq_true (by omega)]
      exact ⟨20000, rfl, .inr rfl, fun d hd => kR few3 hgt _ d (E2.trans (Ext.new hd _)) (E2.free hd) upd_same⟩
    have few := fewR_of ok few3 (by omega)
    have la := few.all (casesOf W).length
    rw [List.take_length] at la
    rw [decide_eq_false (by omega)]
    refine iteF ?_
    refine ⟨_, rfl, _, rfl, _, p, us, W, casesOf W, rfl, hW.ext E2, ok, hp, hus, lcs, fun f tbs h tb hm => ?_, few.all, fun H3 q ls e3 hq hls => ?_⟩
    · obtain ⟨h1, rfl⟩ := cget f tbs h
      exact table_len ok ((mem_tables ok).mp hm)
    have E3 := E2.trans e3
    have lls := paired_len hls
    have ll := lefts_len W (casesOf W) W.tops.length (by omega)
    have la2 := few.all W.tops.length
    have rl : (rowsOf W.tops).length ≤ 4096 := by
      have h1 := rows_len4 (tops := W.tops) (fun t ht => (ok.tops t ht).2) [[]]
      have h2 : 4 ^ W.tops.length ≤ 4 ^ 6 := Nat.pow_le_pow_right (by decide) ok.few
      simp only [List.length_singleton, Nat.one_mul] at h1
      exact Nat.le_trans h1 h2
    refine ⟨q, rfl, ⟨_, SqL.of hq⟩, fun D hD => ?_⟩
    refine lc_list (K := K) (a := q) (xs := ls) (fun i H' => H' D = some (.lst (iv (natInts (((leftsOf W (casesOf W) W.tops.length).take i).map List.length)))) ∧ Ext H3 H') ⟨by rw [upd_same]; rfl, Ext.new hD _⟩ (fun i H' _ ⟨_, e⟩ => SqL.of (e.lst hq)) (fun i x H' hi ⟨h1, e⟩ => ?_) fun H4 ⟨h4, e4⟩ => ?_
    · obtain ⟨left, hleft, la, lvs, rfl, hla, hlv⟩ := paired_get' hls hi
      have hi2 := (List.getElem?_eq_some_iff.mp hi).1
      refine ⟨rfl, yes ⟨_, rfl, _, _, rfl, .inl (e.lst hla), _, h1, ?_, ?_, e.put hD _⟩⟩
      · unfold natInts
        rw [iv_len, List.length_map, List.length_map, List.length_take]
        exact Nat.lt_of_le_of_lt (Nat.le_trans (Nat.min_le_left _ _) (show i ≤ 20000 by omega)) (by decide)
      · rw [upd_same, take_snoc hleft, List.map_append, paired_len hlv]
        unfold natInts iv
        rw [List.map_append, List.map_append]
        rfl
    rw [lls, List.take_length] at h4
    have h4 : H4 D = some (.lst (iv (natInts (numbersOf W)))) := h4
    have E4 := E3.trans e4
    have nb : ∀ y ∈ natInts (numbersOf W), 0 ≤ y ∧ y ≤ 4096 := fun y hy => by
      obtain ⟨n, hn, rfl⟩ := List.mem_map.mp hy
      obtain ⟨left, hl, rfl⟩ := List.mem_map.mp hn
      have := (lefts_sub W (casesOf W) _ left hl).length_le
      omega
    have nne : 0 < (natInts (numbersOf W)).length := by
      have := few.some
      unfold natInts
      rw [List.length_map]
      exact List.length_pos_iff.mpr this
    refine ⟨(by show 1 ≤ sizeLine; decide), fun L0 hL0 => ?_⟩
    have eL0 := Ext.new hL0 (.lst [.int 0])
    refine ⟨_, rfl, D, _, rfl, SqL.of (eL0.lst h4), nne, fun m hm hmax => ?_⟩
    have em : m = maxFrom 0 (natInts (numbersOf W)) := maxFrom_of (fun y hy => (nb y hy).1) hm hmax
    have mb := nb m hm
    refine ⟨_, _, rfl, rfl, L0, _, _, rfl, rfl, upd_same, by omega, by omega, Nat.le_trans (show [V.int 0].length * (m + 1).toNat ≤ 5000 by simp only [List.length_singleton]; omega) (by decide), fun F0 hF0 => ?_⟩
    have erep : (List.replicate (m + 1).toNat [V.int 0]).flatten = iv (cntTo (m + 1).toNat []) := by
      refine List.ext_getElem? fun j => ?_
      unfold iv cntTo
      rw [List.flatten_replicate_singleton, List.getElem?_map, List.getElem?_map, List.getElem?_replicate]
      by_cases hj : j < (m + 1).toNat
      · rw [if_pos hj, List.getElem?_range hj]
        rfl
      · rw [if_neg hj, List.getElem?_eq_none (by rw [List.length_range]; omega)]
        rfl
    have hF0' : H4 F0 = none := eL0.free hF0
    have eF := eL0.trans (Ext.new hF0 (.lst (iv (cntTo (m + 1).toNat []))))
    rw [erep]
    have hDF := eF.lst h4
    refine ⟨_, rfl, D, rfl, ⟨_, SqL.of hDF⟩, for_list (K := K) (a := D) (xs := iv (natInts (numbersOf W))) (fun i σ H' => ∃ (o5 : Option V), σ = [some v, some (.ref p), none, some (.ref D), some (.ref F0), o5] ∧ Ext H4 H' ∧ H' F0 = some (.lst (iv (cntTo (m + 1).toNat ((numbersOf W).take i))))) ⟨_, rfl, eF, by rw [upd_same]; rfl⟩ (fun i σ H' _ ⟨_, _, e, _⟩ => SqL.of (e.lst h4)) ?_ ?_⟩
    · rintro i x σ H5 hi ⟨o5, rfl, e5, h5⟩
      obtain ⟨y, hy, rfl⟩ := iv_get hi
      unfold natInts at hy
      rw [List.getElem?_map] at hy
      cases hn : (numbersOf W)[i]? with
      | none => rw [hn] at hy; cases hy
      | some n =>
        rw [hn] at hy
        obtain rfl := Option.some.inj hy
        have hnm : (n : Int) ≤ m := hmax _ (List.mem_map.mpr ⟨n, List.mem_of_getElem? hn, rfl⟩)
        have hlt : n < (m + 1).toNat := by omega
        refine ⟨_, rfl, _, rfl, F0, _, n, _, rfl, rfl, h5, iv_at (cntTo_get hlt), _, _, rfl, rfl, F0, _, _, n, rfl, rfl, h5, ?_, ?_⟩
        · show ixN _ ((n : Nat) : Int) = _
          unfold ixN
          rw [iv_len, cntTo_len]
          simp
          omega
        · refine ⟨some (.int (n : Int)), rfl, e5.put hF0' _, ?_⟩
          rw [upd_same, take_snoc hn, ← cntTo_snoc hlt]
          unfold iv
          rw [List.map_set]
    · rintro σ H5 ⟨o5, rfl, e5, h5⟩
      unfold natInts at h5
      rw [iv_len, List.length_map, List.take_length] at h5
      refine ⟨_, rfl, F0, _, rfl, h5, fun r hr => ?_⟩
      refine k few _ r ((E4.trans e5).trans (Ext.new hr _)) ?_
      rw [upd_same]
      unfold countsOf
      rw [← em]
end
end Lk


/-! ## D31 -/
set_option Elab.async false
set_option linter.all false
set_option maxRecDepth 100000
set_option maxHeartbeats 2000000
namespace Lk
open PySem PySem.Spec PyProof.Rows L2 Gx
open GxR (TabG Tabbed TabB)
variable [Own]
abbrev s__law_alike : Stmt := top 41
theorem sc__law_alike : FnScope ["found", "due", "k"] ["found", "due"] (defScope s__law_alike) := ⟨rfl, rfl, rfl, by decide +kernel, rfl, by decide +kernel, by decide +kernel⟩
/-- the same int, the same truth value -/
def spAlike0 : Sp := fun vs H Q _ => ((∃ i : Int, vs = [.int i, .int i]) ∨ ∃ b : Bool, vs = [.bl b, .bl b]) ∧ ∀ H', Ext H H' → Q (.bl true) H'
/-- two lists, two tuples, whose items are alike -/
def spAlikeS (sp : Sp) : Sp := fun vs H Q _ => ∃ (a b : Addr) (k : Bool) (xs ys : List V), vs = [.ref a, .ref b] ∧ SqB k H a xs ∧ SqB k H b ys ∧ ys.length = xs.length ∧ xs.length ≤ 1000000 ∧
  (∀ (H' : Hp) (i : Nat) (x y : V) (Q' : VK) (E' : XK), Ext H H' → xs[i]? = some x → ys[i]? = some y → (∀ H'', Ext H' H'' → Q' (.bl true) H'') → sp [x, y] H' Q' E') ∧ ∀ H', Ext H H' → Q (.bl true) H'
def rIxS : R2 := fun x y H Q => ∃ p k xs i v, x = .ref p ∧ y = .int i ∧ SqB k H p xs ∧ atI xs i = some v ∧ Q v H
theorem ix_sT {X : Cx} : IxR X rIxS := by
  intro value slice pins s σ H x y v u Q I rx ry h hs
  obtain ⟨p, k, xs, i, z, e1, e2, hq, he, q⟩ := h
  cases k with
  | true => exact ix_lT value slice pins s σ H x y v u Q I rx ry ⟨p, xs, i, z, e1, e2, hq, he, q⟩ hs
  | false => exact ix_tT value slice pins s σ H x y v u Q I rx ry ⟨p, xs, i, z, e1, e2, hq, he, q⟩ hs
theorem kit2 {K : PySem.W.Frag} {t a b : String} {r1 r2 : Bool} (h1 : kitB t a = some r1) (h2 : kitB t b = some r2) : W.kitAny K (.type t) [.type a, .type b] = some (r1 || r2) := by
  unfold W.kitAny
  rw [kit_ty h1]
  cases r1 with
  | true => rfl
  | false =>
    show W.kitAny K _ _ = _
    unfold W.kitAny
    rw [kit_ty h2]
    cases r2 <;> rfl
theorem isi_seq {K : PySem.W.Frag} {k : Bool} {H : Hp} {a : Addr} {xs : List V} (h : SqB k H a xs) : TyX K H (.ref a) (.type (if k = true then "list" else "tuple")) := by
  cases k with
  | true => exact .base (.lst h)
  | false => exact .base (.tup h)
section
variable {P : Program} {w : World} {K : PySem.W.Frag} {mg : Str → Option Value} {base : Heap} {Ps : List Addr}
theorem ok_alike0 {f : Addr} {fd : FuncData} (F : Fun K "_law_alike" "_law_alike" s__law_alike f fd) (B : Blt mg) : FnOk P w K mg base CX0 1 f fd ["found", "due"] spAlike0 := by
  refine F.ok sc__law_alike (fun vs H Q E h => ?_) (fun cdv A outer s0 H vs Q E hr h => ?_)
  · obtain ⟨⟨i, rfl⟩ | ⟨b, rfl⟩, _⟩ := h <;> rfl
  · obtain ⟨hv, k⟩ := h
    refine ⟨_, (pss_cons (ps_if (pt_val (pe_callB call_isiT (by rfl) B.isi boot_isinstance (pa_cons (pv 1) (pa_cons (pe_tup (pa_cons (pe_bltn (v := .ty "tuple") (by rfl) B.tuple boot_tyTuple rfl) (pa_cons (pe_bltn (v := .ty "list") (by rfl) B.list boot_tyList rfl) pa_nil))) pa_nil))))
        (pss_cons (ps_if (PW.pt (pw_or (pt_not (pt_val (pe_callB call_isiT (by rfl) B.isi boot_isinstance (pa_cons (pv 0) (pa_cons (pe_tup (pa_cons (pe_bltn (v := .ty "tuple") (by rfl) B.tuple boot_tyTuple rfl) (pa_cons (pe_bltn (v := .ty "list") (by rfl) B.list boot_tyList rfl) pa_nil))) pa_nil))))) (pw_or1 (pt_cmpR op_ne (pe_callB call_isi (by rfl) B.isi boot_isinstance (pa_cons (pv 0) (pa_cons (pe_bltn (v := .ty "list") (by rfl) B.list boot_tyList rfl) pa_nil))) (pe_callB call_isi (by rfl) B.isi boot_isinstance (pa_cons (pv 1) (pa_cons (pe_bltn (v := .ty "list") (by rfl) B.list boot_tyList rfl) pa_nil))) (nomark _)))))
          (pss_one (ps_ret pe_bl)) pss_nil)
        (pss_cons (ps_if (pt_cmpR op_ne (pe_callB call_lenT (by rfl) B.len PySem.boot_len (pa_cons (pv 0) pa_nil)) (pe_callB call_lenT (by rfl) B.len PySem.boot_len (pa_cons (pv 1) pa_nil)) (nomark _))
          (pss_one (ps_ret pe_bl)) pss_nil)
        (pss_one ps_never))) pss_nil)
      (pss_cons (ps_if (PW.pt (pw_or (pt_cmpR op_isN (pv 1) pe_non (nomark _)) (pw_or1 (pt_val (pe_callB call_isi (by rfl) B.isi boot_isinstance (pa_cons (pv 1) (pa_cons (pe_bltn (v := .ty "str") (by rfl) B.str boot_tyStr rfl) pa_nil)))))))
        (pss_one (ps_ret (pe_and (pe_cmpR op_eq (pv 0) (pv 1) (nomark _)) (pe_one (pe_cmpR op_eq (pe_callB call_isi (by rfl) B.isi boot_isinstance (pa_cons (pv 0) (pa_cons (pe_bltn (v := .ty "str") (by rfl) B.str boot_tyStr rfl) pa_nil))) (pe_callB call_isi (by rfl) B.isi boot_isinstance (pa_cons (pv 1) (pa_cons (pe_bltn (v := .ty "str") (by rfl) B.str boot_tyStr rfl) pa_nil))) (nomark _)))))) pss_nil)
      (pss_one (ps_ret (pe_and (pe_callB call_isi (by rfl) B.isi boot_isinstance (pa_cons (pv 0) (pa_cons (pe_bltn (v := .ty "int") (by rfl) B.int boot_tyInt rfl) pa_nil))) (pe_and (pe_cmpR op_eq (pe_callB call_isi (by rfl) B.isi boot_isinstance (pa_cons (pv 0) (pa_cons (pe_bltn (v := .ty "bool") (by rfl) B.bool boot_tyBool rfl) pa_nil))) (pe_callB call_isi (by rfl) B.isi boot_isinstance (pa_cons (pv 1) (pa_cons (pe_bltn (v := .ty "bool") (by rfl) B.bool boot_tyBool rfl) pa_nil))) (nomark _)) (pe_one (pe_cmpR op_eq (pv 0) (pv 1) (nomark _))))))))), ?_⟩
    obtain ⟨t, r1, x, hx, k1, k2, k3, k4, k5, ty, nn, sc⟩ : ∃ (t : String) (r1 : Bool) (x : V), vs = [x, x] ∧ kitB t "tuple" = some false ∧ kitB t "list" = some false ∧ kitB t "str" = some false ∧ kitB t "int" = some true ∧ kitB t "bool" = some r1 ∧ (∀ H', TyX K H' x (.type t)) ∧ x ≠ .non ∧ scal x x = true := by
      rcases hv with ⟨i, rfl⟩ | ⟨b, rfl⟩
      · exact ⟨"int", false, _, rfl, by decide +kernel, by decide +kernel, by decide +kernel, by decide +kernel, by decide +kernel, fun H' => .base (.int i), (by intro z; cases z), rfl⟩
      · exact ⟨"bool", true, _, rfl, by decide +kernel, by decide +kernel, by decide +kernel, by decide +kernel, by decide +kernel, fun H' => .base (.bl b), (by intro z; cases z), rfl⟩
    subst hx
    refine ⟨_, rfl, (by show 2 ≤ sizeLine; decide), fun p hp => ⟨_, p, _, _, _, _, rfl, upd_same, .cons (.ty _) (.cons (.ty _) .nil), ty _, kit2 k1 k2, _, rfl, iteF ?_⟩⟩
    have e := Ext.new hp (.tup [V.ty "tuple", V.ty "list"])
    refine ⟨_, rfl, rfl, _, rfl, ?_⟩
    rw [decide_eq_false nn]
    refine iteF ?_
    refine ⟨_, rfl, _, _, _, _, false, rfl, .ty "str", ty _, kit_ty k3, _, rfl, iteF ?_⟩
    refine ⟨_, rfl, _, _, _, _, true, rfl, .ty "int", ty _, kit_ty k4, _, rfl, iteT ?_⟩
    refine ⟨_, rfl, _, _, _, _, r1, rfl, .ty "bool", ty _, kit_ty k5, _, rfl, _, _, _, _, r1, rfl, .ty "bool", ty _, kit_ty k5, rfl, _, rfl, ?_⟩
    rw [decide_eq_true rfl]
    refine iteT ⟨_, rfl, _, rfl, sc, ?_⟩
    rw [decide_eq_true rfl]
    exact k _ e
theorem ok_alikeS {n : Nat} {sp : Sp} (len : ∀ vs H Q E, sp vs H Q E → vs.length = 2) {f : Addr} {fd : FuncData} (F : Fun K "_law_alike" "_law_alike" s__law_alike f fd) (B : Blt mg) (c__law_alike : Cal P w K mg base CX0 (n + 1) "_law_alike" ["found", "due"] sp) : FnOk P w K mg base CX0 (n + 2) f fd ["found", "due"] (spAlikeS sp) := by
  refine F.ok sc__law_alike (fun vs H Q E h => ?_) (fun cdv A outer s0 H vs Q E hr h => ?_)
  · obtain ⟨a, b, k, xs, ys, rfl, _⟩ := h
    rfl
  · obtain ⟨a, b, kk, xs, ys, rfl, ha, hb, ly, hl, ks, k⟩ := h
    refine ⟨_, (pss_cons (ps_if (pt_val (pe_callB call_isiT (by rfl) B.isi boot_isinstance (pa_cons (pv 1) (pa_cons (pe_tup (pa_cons (pe_bltn (v := .ty "tuple") (by rfl) B.tuple boot_tyTuple rfl) (pa_cons (pe_bltn (v := .ty "list") (by rfl) B.list boot_tyList rfl) pa_nil))) pa_nil))))
        (pss_cons (ps_if (PW.pt (pw_or (pt_not (pt_val (pe_callB call_isiT (by rfl) B.isi boot_isinstance (pa_cons (pv 0) (pa_cons (pe_tup (pa_cons (pe_bltn (v := .ty "tuple") (by rfl) B.tuple boot_tyTuple rfl) (pa_cons (pe_bltn (v := .ty "list") (by rfl) B.list boot_tyList rfl) pa_nil))) pa_nil))))) (pw_or1 (pt_cmpR op_ne (pe_callB call_isi (by rfl) B.isi boot_isinstance (pa_cons (pv 0) (pa_cons (pe_bltn (v := .ty "list") (by rfl) B.list boot_tyList rfl) pa_nil))) (pe_callB call_isi (by rfl) B.isi boot_isinstance (pa_cons (pv 1) (pa_cons (pe_bltn (v := .ty "list") (by rfl) B.list boot_tyList rfl) pa_nil))) (nomark _)))))
          (pss_one (ps_ret pe_bl)) pss_nil)
        (pss_cons (ps_if (pt_cmpR op_ne (pe_callB call_lenT (by rfl) B.len PySem.boot_len (pa_cons (pv 0) pa_nil)) (pe_callB call_lenT (by rfl) B.len PySem.boot_len (pa_cons (pv 1) pa_nil)) (nomark _))
          (pss_one (ps_ret pe_bl)) pss_nil)
        (pss_one (ps_ret (pe_cmpR (op_eqLn hr.units) (pe_lc (own := [("k", 2)]) rfl sc__law_alike.nd (pi_range1 (by rfl) B.range (pa_cons (pe_callB call_lenT (by rfl) B.len PySem.boot_len (pa_cons (pv 1) pa_nil)) pa_nil)) (blkOk_by (N := ["found", "due", "k"]) (sc := defScope s__law_alike) (by decide +kernel)) (fun _ _ _ _ _ => (pg_name (i := 2) sc__law_alike.nd rfl (by first | exact Or.inl rfl | exact Or.inr rfl))) (fun _ _ _ _ _ => (pts_one (pt_not (pt_val (pe_c0 c__law_alike hr (by rfl) (pa_cons (pe_ix ix_sT (pv 0) (pv 2) (fun _ _ => rfl)) (pa_cons (pe_ix ix_sT (pv 1) (pv 2) (fun _ _ => rfl)) pa_nil))))))) (fun _ _ _ _ _ => (pv 2))) (pe_lst pa_nil) (nomark _)))))) pss_nil)
      (pss_cons (ps_if (PW.pt (pw_or (pt_cmpR op_isN (pv 1) pe_non (nomark _)) (pw_or1 (pt_val (pe_callB call_isi (by rfl) B.isi boot_isinstance (pa_cons (pv 1) (pa_cons (pe_bltn (v := .ty "str") (by rfl) B.str boot_tyStr rfl) pa_nil)))))))
        (pss_one (ps_ret (pe_and (pe_cmpR op_eq (pv 0) (pv 1) (nomark _)) (pe_one (pe_cmpR op_eq (pe_callB call_isi (by rfl) B.isi boot_isinstance (pa_cons (pv 0) (pa_cons (pe_bltn (v := .ty "str") (by rfl) B.str boot_tyStr rfl) pa_nil))) (pe_callB call_isi (by rfl) B.isi boot_isinstance (pa_cons (pv 1) (pa_cons (pe_bltn (v := .ty "str") (by rfl) B.str boot_tyStr rfl) pa_nil))) (nomark _)))))) pss_nil)
      (pss_one (ps_ret (pe_and (pe_callB call_isi (by rfl) B.isi boot_isinstance (pa_cons (pv 0) (pa_cons (pe_bltn (v := .ty "int") (by rfl) B.int boot_tyInt rfl) pa_nil))) (pe_and (pe_cmpR op_eq (pe_callB call_isi (by rfl) B.isi boot_isinstance (pa_cons (pv 0) (pa_cons (pe_bltn (v := .ty "bool") (by rfl) B.bool boot_tyBool rfl) pa_nil))) (pe_callB call_isi (by rfl) B.isi boot_isinstance (pa_cons (pv 1) (pa_cons (pe_bltn (v := .ty "bool") (by rfl) B.bool boot_tyBool rfl) pa_nil))) (nomark _)) (pe_one (pe_cmpR op_eq (pv 0) (pv 1) (nomark _))))))))), ?_⟩
    have both : W.kitAny K (.type (if kk = true then "list" else "tuple")) [.type "tuple", .type "list"] = some true := by
      cases kk with
      | true => exact kit2 (r1 := false) (r2 := true) (by decide +kernel) (by decide +kernel)
      | false => exact kit2 (r1 := true) (r2 := false) (by decide +kernel) (by decide +kernel)
    have isl : W.kitOne K (.type (if kk = true then "list" else "tuple")) (.type "list") = some kk := by
      cases kk with
      | true => exact kit_ty (by decide +kernel)
      | false => exact kit_ty (by decide +kernel)
    refine ⟨_, rfl, (by show 2 ≤ sizeLine; decide), fun p hp => ?_⟩
    have e1 := Ext.new hp (.tup [V.ty "tuple", V.ty "list"])
    refine ⟨_, p, _, _, _, _, rfl, upd_same, .cons (.ty _) (.cons (.ty _) .nil), isi_seq (hb.ext e1), both, _, rfl, iteT ?_⟩
    refine ⟨_, rfl, (by show 2 ≤ sizeLine; decide), fun p2 hp2 => ?_⟩
    have e2 := e1.trans (Ext.new hp2 (.tup [V.ty "tuple", V.ty "list"]))
    refine ⟨_, p2, _, _, _, _, rfl, upd_same, .cons (.ty _) (.cons (.ty _) .nil), isi_seq (ha.ext e2), both, _, rfl, iteF ?_⟩
    refine ⟨_, rfl, _, _, _, _, _, rfl, .ty "list", isi_seq (ha.ext e2), isl, _, rfl, _, _, _, _, _, rfl, .ty "list", isi_seq (hb.ext e2), isl, rfl, _, rfl, ?_⟩
    have en : (!decide (V.bl kk = V.bl kk)) = false := by rw [decide_eq_true rfl]; rfl
    rw [en]
    refine iteF ?_
    have lenOf : ∀ {H' : Hp} {c : Addr} {zs : List V}, SqB kk H' c zs → H' c = some (.lst zs) ∨ H' c = some (.tup zs) := fun {H' c zs} h => by
      cases kk with
      | true => exact .inl h
      | false => exact .inr h
    refine ⟨_, rfl, a, xs, rfl, lenOf (ha.ext e2), _, rfl, b, ys, rfl, lenOf (hb.ext e2), rfl, _, rfl, ?_⟩
    have en2 : (!decide (V.int (xs.length : Nat) = V.int (ys.length : Nat))) = false := by rw [ly, decide_eq_true rfl]; rfl
    rw [en2]
    refine iteF ?_
    refine ⟨_, rfl, b, ys, rfl, lenOf (hb.ext e2), _, rfl, by omega, by omega, fun D hD => ?_⟩
    have en3 : ((ys.length : Nat) : Int).toNat = xs.length := by omega
    rw [en3]
    generalize hH2 : L2.upd (L2.upd H p _) p2 _ = H2 at e2 hD ⊢
    clear hH2
    refine lc_range (lo := 0) (n := xs.length) (fun i H' => H' D = some (.lst []) ∧ Ext H2 H') ⟨upd_same, Ext.new hD _⟩ (fun i H' hi ⟨h1, e⟩ => ?_) fun H' ⟨h1, e⟩ => ?_
    · have ei : (0 : Int) + (i : Int) = (i : Int) := Int.zero_add _
      rw [ei]
      have hx : xs[i]? = some xs[i] := List.getElem?_eq_getElem hi
      have hy : ys[i]? = some (ys[i]'(by omega)) := List.getElem?_eq_getElem (by omega)
      refine ⟨rfl, ?_⟩
      refine ⟨_, rfl, _, rfl, a, kk, xs, _, _, rfl, rfl, (ha.ext e2).ext e, at_of (j := i) rfl hx, _, rfl, _, rfl, b, kk, ys, _, _, rfl, rfl, (hb.ext e2).ext e, at_of (j := i) rfl hy, ?_⟩
      refine ks H' i _ _ _ _ (e2.trans e) hx hy fun H'' e'' => ⟨_, rfl, iteF ⟨e''.lst h1, e.trans e''⟩⟩
    · refine ⟨(by show 0 ≤ sizeLine; decide), fun u hu => ?_⟩
      refine ⟨D, u, 0, rfl, rfl, by rw [upd_ne (ne_of_none h1 hu)]; exact h1, upd_same, ?_⟩
      exact k _ ((e2.trans e).trans (Ext.new hu _))
end
end Lk


/-! ## DA1 -/
set_option Elab.async false
set_option linter.all false
set_option maxRecDepth 100000
set_option maxHeartbeats 2000000
namespace Lk
open PySem PySem.Spec PyProof.Rows L2 Gx
open GxR (TabG Tabbed TabB)
variable [Own]
/-- the same int, truth value or text -/
def spAlikeW : Sp := fun vs H Q _ => ((∃ i : Int, vs = [.int i, .int i]) ∨ (∃ b : Bool, vs = [.bl b, .bl b]) ∨ ∃ t : Str, vs = [.str t, .str t]) ∧ ∀ H', Ext H H' → Q (.bl true) H'
section
variable {P : Program} {w : World} {K : PySem.W.Frag} {mg : Str → Option Value} {base : Heap} {Ps : List Addr}
theorem ok_alikeW {f : Addr} {fd : FuncData} (F : Fun K "_law_alike" "_law_alike" s__law_alike f fd) (B : Blt mg) : FnOk P w K mg base CX0 1 f fd ["found", "due"] spAlikeW := by
  refine F.ok sc__law_alike (fun vs H Q E h => ?_) (fun cdv A outer s0 H vs Q E hr h => ?_)
  · obtain ⟨⟨i, rfl⟩ | ⟨b, rfl⟩ | ⟨t, rfl⟩, _⟩ := h <;> rfl
  · obtain ⟨hv, k⟩ := h
    refine ⟨_, (pss_cons (ps_if (pt_val (pe_callB call_isiT (by rfl) B.isi boot_isinstance (pa_cons (pv 1) (pa_cons (pe_tup (pa_cons (pe_bltn (v := .ty "tuple") (by rfl) B.tuple boot_tyTuple rfl) (pa_cons (pe_bltn (v := .ty "list") (by rfl) B.list boot_tyList rfl) pa_nil))) pa_nil))))
        (pss_cons (ps_if (PW.pt (pw_or (pt_not (pt_val (pe_callB call_isiT (by rfl) B.isi boot_isinstance (pa_cons (pv 0) (pa_cons (pe_tup (pa_cons (pe_bltn (v := .ty "tuple") (by rfl) B.tuple boot_tyTuple rfl) (pa_cons (pe_bltn (v := .ty "list") (by rfl) B.list boot_tyList rfl) pa_nil))) pa_nil))))) (pw_or1 (pt_cmpR op_ne (pe_callB call_isi (by rfl) B.isi boot_isinstance (pa_cons (pv 0) (pa_cons (pe_bltn (v := .ty "list") (by rfl) B.list boot_tyList rfl) pa_nil))) (pe_callB call_isi (by rfl) B.isi boot_isinstance (pa_cons (pv 1) (pa_cons (pe_bltn (v := .ty "list") (by rfl) B.list boot_tyList rfl) pa_nil))) (nomark _)))))
          (pss_one (ps_ret pe_bl)) pss_nil)
        (pss_cons (ps_if (pt_cmpR op_ne (pe_callB call_lenT (by rfl) B.len PySem.boot_len (pa_cons (pv 0) pa_nil)) (pe_callB call_lenT (by rfl) B.len PySem.boot_len (pa_cons (pv 1) pa_nil)) (nomark _))
          (pss_one (ps_ret pe_bl)) pss_nil)
        (pss_one ps_never))) pss_nil)
      (pss_cons (ps_if (PW.pt (pw_or (pt_cmpR op_isN (pv 1) pe_non (nomark _)) (pw_or1 (pt_val (pe_callB call_isi (by rfl) B.isi boot_isinstance (pa_cons (pv 1) (pa_cons (pe_bltn (v := .ty "str") (by rfl) B.str boot_tyStr rfl) pa_nil)))))))
        (pss_one (ps_ret (pe_and (pe_cmpR op_eq (pv 0) (pv 1) (nomark _)) (pe_one (pe_cmpR op_eq (pe_callB call_isi (by rfl) B.isi boot_isinstance (pa_cons (pv 0) (pa_cons (pe_bltn (v := .ty "str") (by rfl) B.str boot_tyStr rfl) pa_nil))) (pe_callB call_isi (by rfl) B.isi boot_isinstance (pa_cons (pv 1) (pa_cons (pe_bltn (v := .ty "str") (by rfl) B.str boot_tyStr rfl) pa_nil))) (nomark _)))))) pss_nil)
      (pss_one (ps_ret (pe_and (pe_callB call_isi (by rfl) B.isi boot_isinstance (pa_cons (pv 0) (pa_cons (pe_bltn (v := .ty "int") (by rfl) B.int boot_tyInt rfl) pa_nil))) (pe_and (pe_cmpR op_eq (pe_callB call_isi (by rfl) B.isi boot_isinstance (pa_cons (pv 0) (pa_cons (pe_bltn (v := .ty "bool") (by rfl) B.bool boot_tyBool rfl) pa_nil))) (pe_callB call_isi (by rfl) B.isi boot_isinstance (pa_cons (pv 1) (pa_cons (pe_bltn (v := .ty "bool") (by rfl) B.bool boot_tyBool rfl) pa_nil))) (nomark _)) (pe_one (pe_cmpR op_eq (pv 0) (pv 1) (nomark _))))))))), ?_⟩
    by_cases ht : ∃ t : Str, vs = [.str t, .str t]
    · obtain ⟨t, rfl⟩ := ht
      have ty : ∀ H' : Hp, TyX K H' (.str t) (.type "str") := fun H' => .base (.str t)
      refine ⟨_, rfl, (by show 2 ≤ sizeLine; decide), fun p hp => ⟨_, p, _, _, _, _, rfl, upd_same, .cons (.ty _) (.cons (.ty _) .nil), ty _, kit2 (t := "str") (r1 := false) (r2 := false) (by decide +kernel) (by decide +kernel), _, rfl, iteF ?_⟩⟩
      have e := Ext.new hp (.tup [V.ty "tuple", V.ty "list"])
      refine ⟨_, rfl, rfl, _, rfl, ?_⟩
      rw [decide_eq_false (fun z => by cases z)]
      refine iteF ?_
      refine ⟨_, rfl, _, _, _, _, true, rfl, .ty "str", ty _, kit_ty (by decide +kernel), _, rfl, iteT ?_⟩
      refine ⟨_, rfl, _, rfl, rfl, ?_⟩
      rw [decide_eq_true rfl]
      refine ⟨_, rfl, iteT ?_⟩
      refine ⟨_, rfl, _, _, _, _, true, rfl, .ty "str", ty _, kit_ty (by decide +kernel), _, rfl, _, _, _, _, true, rfl, .ty "str", ty _, kit_ty (by decide +kernel), rfl, ?_⟩
      rw [decide_eq_true rfl]
      exact k _ e
    have hv : (∃ i : Int, vs = [.int i, .int i]) ∨ ∃ b : Bool, vs = [.bl b, .bl b] := by
      rcases hv with h | h | h
      · exact .inl h
      · exact .inr h
      · exact absurd h ht
    obtain ⟨t, r1, x, hx, k1, k2, k3, k4, k5, ty, nn, sc⟩ : ∃ (t : String) (r1 : Bool) (x : V), vs = [x, x] ∧ kitB t "tuple" = some false ∧ kitB t "list" = some false ∧ kitB t "str" = some false ∧ kitB t "int" = some true ∧ kitB t "bool" = some r1 ∧ (∀ H', TyX K H' x (.type t)) ∧ x ≠ .non ∧ scal x x = true := by
      rcases hv with ⟨i, rfl⟩ | ⟨b, rfl⟩
      · exact ⟨"int", false, _, rfl, by decide +kernel, by decide +kernel, by decide +kernel, by decide +kernel, by decide +kernel, fun H' => .base (.int i), (by intro z; cases z), rfl⟩
      · exact ⟨"bool", true, _, rfl, by decide +kernel, by decide +kernel, by decide +kernel, by decide +kernel, by decide +kernel, fun H' => .base (.bl b), (by intro z; cases z), rfl⟩
    subst hx
    refine ⟨_, rfl, (by show 2 ≤ sizeLine; decide), fun p hp => ⟨_, p, _, _, _, _, rfl, upd_same, .cons (.ty _) (.cons (.ty _) .nil), ty _, kit2 k1 k2, _, rfl, iteF ?_⟩⟩
    have e := Ext.new hp (.tup [V.ty "tuple", V.ty "list"])
    refine ⟨_, rfl, rfl, _, rfl, ?_⟩
    rw [decide_eq_false nn]
    refine iteF ?_
    refine ⟨_, rfl, _, _, _, _, false, rfl, .ty "str", ty _, kit_ty k3, _, rfl, iteF ?_⟩
    refine ⟨_, rfl, _, _, _, _, true, rfl, .ty "int", ty _, kit_ty k4, _, rfl, iteT ?_⟩
    refine ⟨_, rfl, _, _, _, _, r1, rfl, .ty "bool", ty _, kit_ty k5, _, rfl, _, _, _, _, r1, rfl, .ty "bool", ty _, kit_ty k5, rfl, _, rfl, ?_⟩
    rw [decide_eq_true rfl]
    refine iteT ⟨_, rfl, _, rfl, sc, ?_⟩
    rw [decide_eq_true rfl]
    exact k _ e
/-- the word of a TooMany, alike to its due -/
theorem alike_word {K : PySem.W.Frag} {H : Hp} {a b : Addr} {n : Int} {Q : VK} {E : XK} (ha : H a = some (.tup [.str "many", .int n])) (hb : H b = some (.tup [.str "many", .int n])) (q : ∀ H', Ext H H' → Q (.bl true) H') : spAlikeS spAlikeW [.ref a, .ref b] H Q E := by
  refine ⟨a, b, false, _, _, rfl, ha, hb, rfl, (by show 2 ≤ 1000000; decide), fun H' i x y Q' E' e hx hy k => ?_, q⟩
  rcases i with _ | _ | i
  · cases hx
    cases hy
    exact ⟨.inr (.inr ⟨_, rfl⟩), k⟩
  · cases hx
    cases hy
    exact ⟨.inl ⟨_, rfl⟩, k⟩
  · cases hx
end
end Lk


/-! ## D30 -/
set_option Elab.async false
set_option linter.all false
set_option maxRecDepth 100000
set_option maxHeartbeats 2000000
namespace Lk
open PySem PySem.Spec PyProof.Rows L2 Gx
open GxR (TabG Tabbed TabB)
variable [Own]
abbrev s__law_web : Stmt := top 36
theorem sc__law_web : FnScope ["row", "folk", "most", "looks", "one", "tops", "found", "seen", "turn", "other", "sign", "key"] ["row", "folk", "most", "looks"] (defScope s__law_web) := ⟨rfl, rfl, rfl, by decide +kernel, rfl, by decide +kernel, by decide +kernel⟩
def spLawWeb (K : PySem.W.Frag) : Sp := fun vs H Q _ => ∃ (r sc : Addr) (ns : List Int) (n most looks : Nat), vs = [.ref r, .int n, .int most, .int looks] ∧ Rw K H r sc ns ∧ (1 ≤ n ∧ n ≤ 6) ∧ (1 ≤ most ∧ most ≤ 3) ∧ looks ≤ 1000 ∧
  ∀ H' v W, ExtB r H H' → Rw K H' r sc ns → WebAt H' v W → W.Ok → W.tops.length = n → (∀ t ∈ W.tops, t ≤ most) → Q v H'
/-- looks drawn so far, the first first -/
structure FdOk (n : Nat) (L : List Look3) : Prop where
  nd : (L.map fun l => (l.1, l.2.1)).Nodup
  rng : ∀ l ∈ L, (0 ≤ l.1 ∧ l.1 < n) ∧ (0 ≤ l.2.1 ∧ l.2.1 < n) ∧ (l.2.2 = 1 ∨ l.2.2 = -1)
  len : L.length ≤ 14
  four : ∀ f : Int, (L.filter fun l => l.2.1 == f).length ≤ 4
def kvOf (L : List Look3) : List (List Key × V) := L.map fun l => ([Sum.inl l.1, Sum.inl l.2.1], V.int l.2.2)
def cntOf (n : Nat) (L : List Look3) : List Int := (List.range n).map fun o : Nat => (((L.filter fun l => l.2.1 == (o : Int)).length : Nat) : Int)
theorem cntOf_len (n : Nat) (L : List Look3) : (cntOf n L).length = n := by unfold cntOf; rw [List.length_map, List.length_range]
theorem cntOf_at {n : Nat} {L : List Look3} {b : Int} (h0 : 0 ≤ b) (h1 : b < n) : (cntOf n L)[b.toNat]? = some (((L.filter fun l => l.2.1 == b).length : Nat) : Int) := by
  unfold cntOf
  rw [List.getElem?_map, List.getElem?_range (by omega)]
  show some (((L.filter fun l => l.2.1 == ((b.toNat : Nat) : Int)).length : Nat) : Int) = _
  rw [show ((b.toNat : Nat) : Int) = b by omega]
theorem cntOf_snoc {n : Nat} {L : List Look3} {l : Look3} (h0 : 0 ≤ l.2.1) (h1 : l.2.1 < n) : (cntOf n L).set l.2.1.toNat ((((L.filter fun k => k.2.1 == l.2.1).length : Nat) : Int) + 1) = cntOf n (L ++ [l]) := by
  refine List.ext_getElem? fun j => ?_
  rw [List.getElem?_set, cntOf_len]
  by_cases hj : j < n
  · have e : (cntOf n (L ++ [l]))[j]? = some ((((L ++ [l]).filter fun k => k.2.1 == (j : Int)).length : Nat) : Int) := by
      unfold cntOf
      rw [List.getElem?_map, List.getElem?_range hj]
      rfl
    rw [e, List.filter_append, List.length_append]
    by_cases hb : l.2.1.toNat = j
    · have hb2 : (j : Int) = l.2.1 := by omega
      rw [if_pos hb, if_pos (by omega), hb2, List.filter_cons, if_pos (by simp)]
      simp
    · have e1 : (cntOf n L)[j]? = some (((L.filter fun k => k.2.1 == (j : Int)).length : Nat) : Int) := by
        unfold cntOf
        rw [List.getElem?_map, List.getElem?_range hj]
        rfl
      have hb2 : (l.2.1 == (j : Int)) = false := by
        rw [beq_eq_false_iff_ne]
        omega
      rw [if_neg hb, e1, List.filter_cons, hb2]
      simp
  · have e : (cntOf n (L ++ [l]))[j]? = none := List.getElem?_eq_none (by rw [cntOf_len]; omega)
    have e1 : (cntOf n L)[j]? = none := List.getElem?_eq_none (by rw [cntOf_len]; omega)
    rw [e, e1]
    by_cases hb : l.2.1.toNat = j
    · omega
    · rw [if_neg hb]
theorem kv_not {L : List Look3} {a b : Int} (h : valV (kvOf L) [Sum.inl a, Sum.inl b] = none) : (a, b) ∉ L.map fun l => (l.1, l.2.1) := by
  intro hm
  refine valV_not h ?_
  obtain ⟨l, hl, e⟩ := List.mem_map.mp hm
  refine List.mem_map.mpr ⟨([Sum.inl l.1, Sum.inl l.2.1], V.int l.2.2), List.mem_map.mpr ⟨l, hl, rfl⟩, ?_⟩
  injection e with e1 e2
  show [Sum.inl l.1, Sum.inl l.2.1] = _
  rw [e1, e2]
theorem kv_get : ∀ {L : List Look3} {l : Look3}, (L.map fun l => (l.1, l.2.1)).Nodup → l ∈ L → valV (kvOf L) [Sum.inl l.1, Sum.inl l.2.1] = some (.int l.2.2)
  | [], l, _, h => by cases h
  | k :: L, l, nd, h => by
    rw [List.map_cons, List.nodup_cons] at nd
    show valV (([Sum.inl k.1, Sum.inl k.2.1], V.int k.2.2) :: kvOf L) _ = _
    rcases List.mem_cons.mp h with e | h
    · rw [e]
      exact valV_pos rfl
    · rw [valV_neg]
      · exact kv_get nd.2 h
      · intro e
        injection e with e1 e2
        injection e1 with e1
        injection e2 with e2
        injection e2 with e2
        exact nd.1 (List.mem_map.mpr ⟨l, h, by rw [e1, e2]⟩)
theorem FdOk.nil (n : Nat) : FdOk n [] := ⟨by simp, (fun _ h => by cases h), by simp, fun _ => by simp⟩
theorem FdOk.snoc {n : Nat} {L : List Look3} (h : FdOk n L) {l : Look3} (h1 : (l.1, l.2.1) ∉ L.map fun l => (l.1, l.2.1)) (h2 : (0 ≤ l.1 ∧ l.1 < n) ∧ (0 ≤ l.2.1 ∧ l.2.1 < n) ∧ (l.2.2 = 1 ∨ l.2.2 = -1)) (h3 : L.length < 14) (h4 : (L.filter fun k => k.2.1 == l.2.1).length < 4) : FdOk n (L ++ [l]) := by
  refine ⟨?_, fun k hk => ?_, by rw [List.length_append]; simp; omega, fun f => ?_⟩
  · rw [List.map_append, List.nodup_append]
    refine ⟨h.nd, by simp, fun x hx y hy e => ?_⟩
    rw [List.mem_singleton.mp hy] at e
    rw [e] at hx
    exact h1 hx
  · rcases List.mem_append.mp hk with q | q
    · exact h.rng k q
    · rw [List.mem_singleton.mp q]
      exact h2
  · rw [List.filter_append, List.length_append]
    by_cases hf : l.2.1 = f
    · rw [← hf]
      have := List.length_filter_le (fun k : Look3 => k.2.1 == l.2.1) [l]
      simp only [List.length_singleton] at this
      omega
    · have hb2 : (l.2.1 == f) = false := by rw [beq_eq_false_iff_ne]; exact hf
      rw [List.filter_cons, hb2]
      simp
      exact h.four f
theorem perm_paired {α β : Type} {R : α → β → Prop} {ys xs : List α} (p : ys.Perm xs) : ∀ {L : List β}, Paired R xs L → ∃ L', L'.Perm L ∧ Paired R ys L' := by
  induction p with
  | nil => intro L h; exact ⟨L, .refl _, h⟩
  | cons x _ ih =>
    intro L h
    cases h with
    | cons r t =>
      obtain ⟨L', p', q⟩ := ih t
      exact ⟨_, p'.cons _, .cons r q⟩
  | swap x y l =>
    intro L h
    cases h with
    | cons r t =>
      cases t with
      | cons r2 t => exact ⟨_, .swap _ _ _, .cons r2 (.cons r t)⟩
  | trans _ _ ih1 ih2 =>
    intro L h
    obtain ⟨L1, p1, q1⟩ := ih2 h
    obtain ⟨L2, p2, q2⟩ := ih1 q1
    exact ⟨L2, p2.trans p1, q2⟩
theorem paired_pw {α β : Type} {R : α → β → Prop} {S : α → α → Prop} {T : β → β → Prop} (h : ∀ x y a b, R x a → R y b → S x y → T a b) : ∀ {ys : List α} {L : List β}, Paired R ys L → ys.Pairwise S → L.Pairwise T
  | _, _, .nil, _ => .nil
  | x :: ys, a :: L, .cons r t, p => by
    obtain ⟨p1, p2⟩ := List.pairwise_cons.mp p
    refine List.pairwise_cons.mpr ⟨fun b hb => ?_, paired_pw h t p2⟩
    obtain ⟨i, hi, rfl⟩ := List.getElem_of_mem hb
    obtain ⟨y, hy, ry⟩ := paired_get t (List.getElem?_eq_getElem hi)
    exact h x y _ _ r ry (p1 y (List.mem_of_getElem? hy))
/-- a key as a value -/
def KyAt (H : Hp) (y : V) (l : Look3) : Prop := ∃ b, y = .ref b ∧ H b = some (.tup [.int l.1, .int l.2.1])
theorem keys_ky {H : Hp} : ∀ {L : List Look3} {bs : List Addr}, IsKeys H (kvOf L) bs → Paired (KyAt H) (bs.map V.ref) L
  | [], _, .nil => .nil
  | l :: L, _, .cons r t => .cons ⟨_, rfl, r⟩ (keys_ky t)
section
variable {P : Program} {w : World} {K : PySem.W.Frag} {mg : Str → Option Value} {base : Heap} {Ps : List Addr}
theorem ok_law_web {f : Addr} {fd : FuncData} (F : Fun K "_law_web" "_law_web" s__law_web f fd) (B : Blt mg) (c__law_taken : Cal P w K mg base CX0 1 "_law_taken" ["row", "many"] (spTaken K)) : FnOk P w K mg base CX0 2 f fd ["row", "folk", "most", "looks"] (spLawWeb K) := by
  refine F.ok sc__law_web (fun vs H Q E h => ?_) (fun cdv A outer s0 H vs Q E hr h => ?_)
  · obtain ⟨r, sc, ns, n, most, looks, rfl, _⟩ := h
    rfl
  · obtain ⟨r, sc, ns, n, most, looks, rfl, hR, hn, hmost, hlooks, k⟩ := h
    refine ⟨_, (pss_cons (ps_asg (pe_tup (pa_cons (pe_tupleL (by rfl) B.tuple (pe_lc (own := [("one", 4)]) rfl sc__law_web.nd (pi_range1 (by rfl) B.range (pa_cons (pv 1) pa_nil)) (blkOk_by (N := ["row", "folk", "most", "looks", "one", "tops", "found", "seen", "turn", "other", "sign", "key"]) (sc := defScope s__law_web) (by decide +kernel)) (fun _ _ _ _ _ => (pg_name (i := 4) sc__law_web.nd rfl (by first | exact Or.inl rfl | exact Or.inr rfl))) (fun _ _ _ _ _ => pts_nil) (fun _ _ _ _ _ => (pe_op op_add pe_int (pe_c0 c__law_taken (hr.mono (by decide)) (by rfl) (pa_cons (pv 0) (pa_cons (pv 2) pa_nil))))))) (pa_cons pe_dnewT (pa_cons (pe_op op_rep (pe_lst (pa_cons pe_int pa_nil)) (pv 1)) pa_nil)))) (pg_tupT (n := 3) rfl (pgs_cons (pg_name (i := 5) sc__law_web.nd rfl (by first | exact Or.inl rfl | exact Or.inr rfl)) (pgs_cons (pg_name (i := 6) sc__law_web.nd rfl (by first | exact Or.inl rfl | exact Or.inr rfl)) (pgs_cons (pg_name (i := 7) sc__law_web.nd rfl (by first | exact Or.inl rfl | exact Or.inr rfl)) pgs_nil)))))
      (pss_cons (ps_for PassesOwn.never rfl (pi_range1 (by rfl) B.range (pa_cons (pe_c0 c__law_taken (hr.mono (by decide)) (by rfl) (pa_cons (pv 0) (pa_cons (pe_op op_add (pv 3) pe_int) pa_nil))) pa_nil)) (pg_name (i := 8) sc__law_web.nd rfl (by first | exact Or.inl rfl | exact Or.inr rfl))
        (pss_cons (ps_par (i := 4) (j := 9) rfl sc__law_web.nd rfl rfl (by decide) rfl rfl (pa_cons (pe_c0 c__law_taken (hr.mono (by decide)) (by rfl) (pa_cons (pv 0) (pa_cons (pv 1) pa_nil))) (pa_cons (pe_c0 c__law_taken (hr.mono (by decide)) (by rfl) (pa_cons (pv 0) (pa_cons (pv 1) pa_nil))) pa_nil)) (by rfl))
        (pss_cons (ps_set (i := 10) sc__law_web.nd rfl (by first | exact Or.inl rfl | exact Or.inr rfl) (pe_ix ix_lT (pe_lst (pa_cons pe_int (pa_cons (pe_un un_neg pe_int) pa_nil))) (pe_c0 c__law_taken (hr.mono (by decide)) (by rfl) (pa_cons (pv 0) (pa_cons pe_int pa_nil))) (fun _ _ => rfl)))
        (pss_one (ps_if (PW.pt (pw_and (pt_cmp (pc_dnotin (hu_of hr) (pe_tup (pa_cons (pv 4) (pa_cons (pv 9) pa_nil))) (pv 6))) (pw_and (pt_cmpR op_lt (pe_ix ix_lT (pv 7) (pv 9) (fun _ _ => rfl)) pe_int (nomark _)) (pw_and1 (pt_cmpR op_lt (pe_callB call_lenT (by rfl) B.len PySem.boot_len (pa_cons (pe_callTy (call_list_dT rfl) (by rfl) B.list boot_tyList (pa_cons (pv 6) pa_nil)) pa_nil)) pe_int (nomark _))))))
          (pss_cons (ps_dput (hu_of hr) (pv 6) (pe_tup (pa_cons (pv 4) (pa_cons (pv 9) pa_nil))) (pv 10) rfl)
          (pss_one (ps_asg (pe_op op_add (pe_ix ix_lT (pv 7) (pv 9) (fun _ _ => rfl)) pe_int) (pg_sub (pv 7) (pv 9) set_list)))) pss_nil)))))
      (pss_one (ps_ret (pe_tup (pa_cons (pv 5) (pa_cons (pe_tupleL (by rfl) B.tuple (pe_lc (own := [("key", 11)]) rfl sc__law_web.nd (pi_list (pe_callB (cr_sortT (d := 2) (B := 64) (by decide)) (by rfl) B.sorted boot_sorted (pa_cons (pe_callTy (call_list_dT rfl) (by rfl) B.list boot_tyList (pa_cons (pv 6) pa_nil)) pa_nil))) (blkOk_by (N := ["row", "folk", "most", "looks", "one", "tops", "found", "seen", "turn", "other", "sign", "key"]) (sc := defScope s__law_web) (by decide +kernel)) (fun _ _ _ _ _ => (pg_name (i := 11) sc__law_web.nd rfl (by first | exact Or.inl rfl | exact Or.inr rfl))) (fun _ _ _ _ _ => pts_nil) (fun _ _ _ _ _ => (pe_op op_catTT (pv 11) (pe_tup (pa_cons (pe_dget (hu_of hr) (pv 6) (pv 11) (fun _ _ => rfl)) pa_nil)))))) pa_nil))))))), ?_⟩
    refine ⟨_, rfl, n, rfl, by omega, by omega, fun D hD => ?_⟩
    have hDr := hR.ne_none hD
    have en : ((n : Nat) : Int).toNat = n := by omega
    rw [en]
    refine lc_range (lo := 0) (n := n) (fun i H' => ∃ ts, H' D = some (.lst (iv ts)) ∧ ExtB r H H' ∧ Rw K H' r sc ns ∧ ts.length = i ∧ ∀ t ∈ ts, 1 ≤ t ∧ t ≤ most) ⟨[], upd_same, (Ext.new hD _).b, hR.new hD _, rfl, (fun _ h => by cases h)⟩ (fun i H' hi ⟨ts, h1, e1, R1, l1, b1⟩ => ?_) fun H1 ⟨ts, h1, e1, R1, l1, b1⟩ => ?_
    · refine ⟨rfl, yes ?_⟩
      refine ⟨_, rfl, _, rfl, r, sc, ns, _, rfl, R1, ⟨by omega, by omega⟩, fun H2 m e2 R2 same hm => ?_⟩
      refine ⟨_, _, rfl, rfl, iv ts, same_at same hDr h1, by rw [iv_len]; exact small1000 (by omega), ts ++ [1 + m], ?_, (e1.trans e2).put hD _, R2.put hR hD _, by rw [List.length_append, l1]; rfl, fun t ht => ?_⟩
      · rw [upd_same]
        unfold iv
        rw [List.map_append]
        rfl
      · rcases List.mem_append.mp ht with q | q
        · exact b1 t q
        · rw [List.mem_singleton.mp q]
          omega
    refine ⟨D, _, rfl, h1, fun tu htu => ?_⟩
    refine fun d hd => ?_
    refine ⟨(by show 1 ≤ sizeLine; decide), fun z hz => ?_⟩
    refine ⟨_, rfl, z, _, _, rfl, rfl, upd_same, by omega, by omega, by rw [en]; exact Nat.le_of_lt (small1000 (by simp only [List.length_singleton]; omega)), fun s hs => ?_⟩
    refine ⟨(by show 3 ≤ sizeLine; decide), fun u hu => ⟨u, _, rfl, upd_same, rfl, _, _, rfl, _, _, rfl, _, _, rfl, rfl, ?_⟩⟩
    have erep : (List.replicate ((n : Nat) : Int).toNat [V.int 0]).flatten = iv (cntOf n []) := by
      rw [en]
      refine List.ext_getElem? fun j => ?_
      unfold iv cntOf
      rw [List.flatten_replicate_singleton, List.getElem?_map, List.getElem?_map, List.getElem?_replicate]
      by_cases hj : j < n
      · rw [if_pos hj, List.getElem?_range hj]
        rfl
      · rw [if_neg hj, List.getElem?_eq_none (by rw [List.length_range]; omega)]
        rfl
    rw [erep] at hu ⊢
    generalize hH2 : L2.upd _ tu _ = H2 at hd hz hs hu ⊢
    have ed : H2 d = none := hd
    generalize hH3 : L2.upd H2 d _ = H3 at hz hs hu ⊢
    have ez : H3 z = none := hz
    generalize hH4 : L2.upd H3 z _ = H4 at hs hu ⊢
    have es : H4 s = none := hs
    generalize hH5 : L2.upd H4 s _ = H5 at hu ⊢
    have X2 : Ext H1 H2 := by rw [← hH2]; exact Ext.new htu _
    have X3 : Ext H2 H3 := by rw [← hH3]; exact Ext.new ed _
    have X4 : Ext H3 H4 := by rw [← hH4]; exact Ext.new ez _
    have X5 : Ext H4 H5 := by rw [← hH5]; exact Ext.new es _
    have X6 : Ext H5 (L2.upd H5 u (.tup [.ref tu, .ref d, .ref s])) := Ext.new hu _
    have E6 : ExtB r H (L2.upd H5 u (.tup [.ref tu, .ref d, .ref s])) := e1.trans ((((X2.trans X3).trans X4).trans X5).trans X6).b
    have R6 : Rw K (L2.upd H5 u (.tup [.ref tu, .ref d, .ref s])) r sc ns := R1.ext ((((X2.trans X3).trans X4).trans X5).trans X6)
    have t6 : L2.upd H5 u (.tup [.ref tu, .ref d, .ref s]) tu = some (.tup (iv ts)) := (((X3.trans X4).trans X5).trans X6).tup (by rw [← hH2]; exact upd_same)
    have d3 : H3 d = some (.dT []) := by rw [← hH3]; exact upd_same
    have d6 : L2.upd H5 u (.tup [.ref tu, .ref d, .ref s]) d = some (.dT []) := ((X4.trans X5).trans X6).keep _ _ d3 rfl
    have s6 : L2.upd H5 u (.tup [.ref tu, .ref d, .ref s]) s = some (.lst (iv (cntOf n []))) := X6.lst (by rw [← hH5]; exact upd_same)
    have d0 : H d = none := e1.free (X2.free ed)
    have s0' : H s = none := e1.free (X2.free (X3.free (X4.free es)))
    have htd : tu ≠ d := ne_of t6 d6 (by intro q; cases q)
    have hts : tu ≠ s := ne_of t6 s6 (by intro q; cases q)
    have hds : d ≠ s := ne_of d6 s6 (by intro q; cases q)
    have hdr := hR.ne_none d0
    have hsr := hR.ne_none s0'
    have htr : tu ≠ r := by
      have : H1 tu = none := htu
      exact R1.ne_none this
    clear hH2 hH3 hH4 hH5 X2 X3 X4 X5 X6 erep
    generalize L2.upd H5 u (.tup [.ref tu, .ref d, .ref s]) = H6 at E6 R6 t6 d6 s6 ⊢
    refine ⟨_, rfl, _, rfl, _, _, rfl, rfl, r, sc, ns, _, rfl, R6, ⟨by omega, by omega⟩, fun H7 m E7 R7 same7 hm => ?_⟩
    refine ⟨_, rfl, by omega, by omega, for_range (lo := 0) (n := m.toNat) (fun i σ H' => ∃ (L : List Look3) (o4 o8 o9 o10 o11 : Option V), σ = [some (.ref r), some (.int n), some (.int most), some (.int looks), o4, some (.ref tu), some (.ref d), some (.ref s), o8, o9, o10, o11] ∧ ExtB r H H' ∧ Rw K H' r sc ns ∧ H' tu = some (.tup (iv ts)) ∧ H' d = some (.dT (kvOf L)) ∧ H' s = some (.lst (iv (cntOf n L))) ∧ FdOk n L)
      ⟨[], _, _, _, _, _, rfl, E6.trans E7, R7, E7.keep _ _ htr t6 rfl, same_at same7 hdr d6, same_at same7 hsr s6, .nil n⟩ ?_ ?_⟩
    · rintro i σ H8 hi ⟨L, o4, o8, o9, o10, o11, rfl, e8, R8, t8, d8, s8, ok8⟩
      refine ⟨_, rfl, _, rfl, r, sc, ns, _, rfl, R8, ⟨by omega, by omega⟩, fun H9 a E9 R9 same9 ha => ?_⟩
      refine ⟨_, rfl, _, rfl, r, sc, ns, _, rfl, R9, ⟨by omega, by omega⟩, fun HA b EA RA sameA hb => ?_⟩
      refine ⟨_, _, rfl, ?_⟩
      refine ⟨_, rfl, (by show 2 ≤ sizeLine; decide), fun q hq => ?_⟩
      refine ⟨_, rfl, r, sc, ns, _, rfl, RA.new hq _, ⟨by decide, by decide⟩, fun HB g EB RB sameB hg => ?_⟩
      have hqr := RA.ne_none hq
      have q8 : HB q = some (.lst [.int 1, .int (-1)]) := same_at sameB hqr upd_same
      have tB := EB.keep _ _ htr ((Ext.new hq (.lst [.int 1, .int (-1)])).keep _ _ (EA.keep _ _ htr (E9.keep _ _ htr t8 rfl) rfl) rfl) rfl
      have dA : HA d = some (.dT (kvOf L)) := same_at sameA hdr (same_at same9 hdr d8)
      have sA : HA s = some (.lst (iv (cntOf n L))) := same_at sameA hsr (same_at same9 hsr s8)
      have dB : HB d = some (.dT (kvOf L)) := same_at sameB hdr ((Ext.new hq (.lst [.int 1, .int (-1)])).keep _ _ dA rfl)
      have sB : HB s = some (.lst (iv (cntOf n L))) := same_at sameB hsr ((Ext.new hq (.lst [.int 1, .int (-1)])).keep _ _ sA rfl)
      have eB : ExtB r H HB := ((e8.trans E9).trans EA).trans ((Ext.new hq _).b.trans EB)
      obtain ⟨sg, hsg, hat⟩ : ∃ sg : Int, (sg = 1 ∨ sg = -1) ∧ atI [V.int 1, V.int (-1)] g = some (.int sg) := by
        rcases (by omega : g = 0 ∨ g = 1) with e | e <;> subst e
        · exact ⟨1, .inl rfl, rfl⟩
        · exact ⟨-1, .inr rfl, rfl⟩
      refine ⟨q, _, _, _, rfl, rfl, q8, hat, ?_⟩
      refine ⟨_, rfl, _, rfl, (by show 2 ≤ sizeLine; decide), fun y hy => ?_⟩
      have XC := Ext.new hy (.tup [.int a, .int b])
      have tC := XC.tup tB
      have dC := XC.keep _ _ dB rfl
      have sC := XC.lst sB
      have RC := RB.ext XC
      have eC := eB.trans XC.b
      have inv0 : ∀ (H' : Hp) (L' : List Look3), ExtB r H H' → Rw K H' r sc ns → H' tu = some (.tup (iv ts)) → H' d = some (.dT (kvOf L')) → H' s = some (.lst (iv (cntOf n L'))) → FdOk n L' →
          ∃ (L : List Look3) (p4 p8 p9 p10 p11 : Option V), ([some (.ref r), some (.int n), some (.int most), some (.int looks), some (.int a), some (.ref tu), some (.ref d), some (.ref s), some (.int (0 + (i : Int))), some (.int b), some (.int sg), o11] : L2.St) = [some (.ref r), some (.int n), some (.int most), some (.int looks), p4, some (.ref tu), some (.ref d), some (.ref s), p8, p9, p10, p11] ∧ ExtB r H H' ∧ Rw K H' r sc ns ∧ H' tu = some (.tup (iv ts)) ∧ H' d = some (.dT (kvOf L)) ∧ H' s = some (.lst (iv (cntOf n L))) ∧ FdOk n L :=
        fun H' L' h1 h2 h3 h4 h5 h6 => ⟨L', _, _, _, _, _, rfl, h1, h2, h3, h4, h5, h6⟩
      refine ⟨_, rfl, d, valV (kvOf L) [Sum.inl a, Sum.inl b], rfl, .inr ⟨kvOf L, _, y, .inl dC, rfl, upd_same, rfl⟩, _, rfl, ?_⟩
      cases ev : valV (kvOf L) [Sum.inl a, Sum.inl b] with
      | some v => exact iteF (inv0 _ L eC RC tC dC sC ok8)
      | none =>
        refine iteT ?_
        have hbn : 0 ≤ b ∧ b < n := by omega
        refine ⟨_, rfl, _, rfl, s, _, _, _, rfl, rfl, sC, at_of (j := b.toNat) (by omega) (iv_at (cntOf_at hbn.1 hbn.2)), _, _, rfl, rfl, _, rfl, ?_⟩
        by_cases h4 : (((L.filter fun l => l.2.1 == b).length : Nat) : Int) < 4
        · rw [decide_eq_true h4]
          refine iteT ?_
          refine ⟨_, rfl, d, kvOf L, rfl, .inl dC, fun p bs hp hk => ?_⟩
          have XD := Ext.new hp (.lst (bs.map V.ref))
          have lbs : (bs.map V.ref).length = L.length := by rw [paired_len (keys_ky hk)]
          refine ⟨p, _, rfl, .inl upd_same, _, _, rfl, rfl, _, rfl, ?_⟩
          rw [lbs]
          have tD := XD.tup tC
          have dD := XD.keep _ _ dC rfl
          have sD := XD.lst sC
          have RD := RC.ext XD
          have eD := eC.trans XD.b
          by_cases h14 : ((L.length : Nat) : Int) < 14
          · rw [decide_eq_true h14]
            refine iteT ?_
            refine ⟨_, rfl, _, rfl, _, rfl, _, rfl, (by show 2 ≤ sizeLine; decide), fun y2 hy2 => ?_⟩
            have XE := Ext.new hy2 (.tup [.int a, .int b])
            have dE := XE.keep _ _ dD rfl
            have lkv : (kvOf L).length = L.length := by unfold kvOf; rw [List.length_map]
            refine ⟨d, _, rfl, .inr ⟨kvOf L, [Sum.inl a, Sum.inl b], y2, dE, rfl, upd_same, by rw [lkv]; exact small1000 (by omega), rfl⟩, ?_⟩
            have ek : putK (kvOf L) [Sum.inl a, Sum.inl b] (V.int sg) = kvOf (L ++ [(a, b, sg)]) := by
              rw [putK_new _ ev]
              unfold kvOf
              rw [List.map_append]
              rfl
            rw [ek]
            have eE := (eD.trans XE.b).put d0 (.dT (kvOf (L ++ [(a, b, sg)])))
            have RE := (RD.ext XE).put hR d0 (.dT (kvOf (L ++ [(a, b, sg)])))
            have sE : L2.upd (L2.upd (L2.upd (L2.upd HB y (.tup [.int a, .int b])) p (.lst (bs.map V.ref))) y2 (.tup [.int a, .int b])) d (.dT (kvOf (L ++ [(a, b, sg)]))) s = some (.lst (iv (cntOf n L))) := by rw [upd_ne hds.symm]; exact XE.lst sD
            refine ⟨_, rfl, _, rfl, s, _, _, _, rfl, rfl, sE, at_of (j := b.toNat) (by omega) (iv_at (cntOf_at hbn.1 hbn.2)), _, _, rfl, rfl, ?_⟩
            refine ⟨_, rfl, _, rfl, s, _, _, b.toNat, rfl, rfl, sE, ?_, ?_⟩
            · rw [iv_len, cntOf_len]
              unfold ixN
              rw [if_pos hbn.1, if_pos hbn.2]
            · have es : (iv (cntOf n L)).set b.toNat (V.int ((((L.filter fun l => l.2.1 == b).length : Nat) : Int) + 1)) = iv (cntOf n (L ++ [(a, b, sg)])) := by
                rw [← cntOf_snoc (l := (a, b, sg)) hbn.1 hbn.2]
                unfold iv
                rw [List.map_set]
              rw [es]
              refine inv0 _ (L ++ [(a, b, sg)]) (eE.put s0' _) (RE.put hR s0' _) ?_ ?_ upd_same (ok8.snoc (kv_not ev) ⟨by omega, hbn, hsg⟩ (by omega) (by show (L.filter fun k => k.2.1 == b).length < 4; omega))
              · rw [upd_ne hts, upd_ne htd]
                exact XE.tup tD
              · rw [upd_ne hds, upd_same]
          · rw [decide_eq_false h14]
            exact iteF (inv0 _ L eD RD tD dD sD ok8)
        · rw [decide_eq_false h4]
          exact iteF (inv0 _ L eC RC tC dC sC ok8)
    · rintro σ H8 ⟨L, o4, o8, o9, o10, o11, rfl, e8, R8, t8, d8, s8, ok8⟩
      refine ⟨_, rfl, _, rfl, d, kvOf L, rfl, .inl d8, fun p bs hp hk => ?_⟩
      have XA := Ext.new hp (.lst (bs.map V.ref))
      have hky : Paired (KyAt (L2.upd H8 p (.lst (bs.map V.ref)))) (bs.map V.ref) L := paired_mono (fun x l ⟨b, e, h⟩ => ⟨b, e, XA.tup h⟩) (keys_ky hk)
      have lbs : (bs.map V.ref).length = L.length := paired_len hky
      refine ⟨p, _, rfl, SqL.of upd_same, by rw [lbs]; have := ok8.len; omega, fun x hx => ?_, fun ys q perm pw hq => ?_⟩
      · obtain ⟨i, hi, rfl⟩ := List.getElem_of_mem hx
        obtain ⟨l, hl, b, e, hb⟩ := paired_get' hky (List.getElem?_eq_getElem hi)
        have h1 := ok8.rng l (List.mem_of_getElem? hl)
        rw [e]
        refine ⟨[l.1, l.2.1], ⟨b, rfl, SqT.of hb⟩, rfl, fun m hm => ?_⟩
        rcases List.mem_cons.mp hm with h | hm
        · omega
        · rw [List.mem_singleton.mp hm]
          omega
      obtain ⟨L', pL, hys⟩ := perm_paired perm hky
      have rng' : ∀ l ∈ L', (0 ≤ l.1 ∧ l.1 < n) ∧ (0 ≤ l.2.1 ∧ l.2.1 < n) ∧ (l.2.2 = 1 ∨ l.2.2 = -1) := fun l hl => ok8.rng l (pL.mem_iff.mp hl)
      have pw1 : L'.Pairwise fun k l => TS.code 64 [k.1, k.2.1] ≤ TS.code 64 [l.1, l.2.1] := paired_pw (fun x y k l ⟨b, e1, h1⟩ ⟨c, e2, h2⟩ hs => hs _ _ ⟨b, e1, SqT.of h1⟩ ⟨c, e2, SqT.of h2⟩) hys pw
      have nd' : (L'.map fun l => (l.1, l.2.1)).Nodup := (pL.map _).nodup_iff.mpr ok8.nd
      have asc : L'.Pairwise fun k l => k.1 < l.1 ∨ k.1 = l.1 ∧ k.2.1 < l.2.1 := by
        refine List.Pairwise.imp_of_mem (fun {k l} hk hl h => ?_) (pw1.and (List.pairwise_map.mp nd'))
        have g1 := rng' k hk
        have g2 := rng' l hl
        refine pair_lt h.1 (fun e => h.2 ?_) ⟨by omega, by omega⟩ ⟨by omega, by omega⟩ ⟨by omega, by omega⟩ ⟨by omega, by omega⟩
        injection e with e1 e2
        injection e2 with e2
        rw [e1, e2]
      have lL : L'.length = L.length := pL.length_eq
      have l14 := ok8.len
      have Wok : Web.Ok ⟨ts, L'⟩ := by
        refine ⟨by show 1 ≤ ts.length; omega, by show ts.length ≤ 6; omega, fun t ht => by have := b1 t ht; omega, by show L'.length ≤ 14; omega, fun l hl => ?_, asc, fun f => ?_⟩
        · have := rng' l hl
          have e : ts.length = n := l1
          show (0 ≤ l.1 ∧ l.1 < (ts.length : Int)) ∧ (0 ≤ l.2.1 ∧ l.2.1 < (ts.length : Int)) ∧ _
          rw [e]
          exact this
        · show ((L'.map fun l => l.2.1).filter fun o => o == f).length ≤ 4
          rw [List.filter_map, List.length_map, (pL.filter _).length_eq]
          exact ok8.four f
      have XB := XA.trans (Ext.new hq (.lst ys))
      have hys2 : Paired (KyAt (L2.upd (L2.upd H8 p (.lst (bs.map V.ref))) q (.lst ys))) ys L' := paired_mono (fun x l ⟨b, e, h⟩ => ⟨b, e, (Ext.new hq (.lst ys)).tup h⟩) hys
      refine ⟨q, rfl, ⟨_, SqL.of upd_same⟩, fun D2 hD2 => ?_⟩
      have lys : ys.length = L'.length := paired_len hys
      generalize hHB : L2.upd (L2.upd H8 p (.lst (bs.map V.ref))) q (.lst ys) = HB at XB hys2 hD2 ⊢
      have hqB : HB q = some (.lst ys) := by rw [← hHB]; exact upd_same
      clear hHB
      refine lc_list (K := K) (a := q) (xs := ys) (fun i H' => ∃ acc, H' D2 = some (.lst acc) ∧ Ext HB H' ∧ acc.length = i ∧ Paired (TI H') acc ((L'.take i).map row3)) ⟨[], upd_same, Ext.new hD2 _, rfl, by simpa using Paired.nil⟩ (fun i H' _ ⟨_, _, e, _⟩ => SqL.of (e.lst hqB)) (fun i x H' hi ⟨acc, hacc, e, hl, hpa⟩ => ?_) fun H' ⟨acc, hacc, e, hl, hpa⟩ => ?_
      · obtain ⟨l, hlk, b, rfl, hb⟩ := paired_get' hys2 hi
        have hlL : l ∈ L := pL.mem_iff.mp (List.mem_of_getElem? hlk)
        have hi14 : i < L'.length := (List.getElem?_eq_some_iff.mp hlk).1
        refine ⟨rfl, yes ?_⟩
        refine ⟨_, rfl, _, rfl, _, rfl, d, .int l.2.2, rfl, .inr ⟨kvOf L, [Sum.inl l.1, Sum.inl l.2.1], b, .inl ((XB.trans e).keep _ _ d8 rfl), rfl, e.tup hb, (kv_get ok8.nd hlL).symm⟩, (by show 1 ≤ sizeLine; decide), fun w hw => ?_⟩
        have hb' := e.tup hb
        have hbw : b ≠ w := ne_of_none hb' hw
        refine ⟨b, w, [.int l.1, .int l.2.1], [.int l.2.2], rfl, rfl, by rw [upd_ne hbw]; exact hb', upd_same, (by show 3 ≤ sizeLine; decide), (fun h => by cases h), (fun _ h => by cases h), fun _ _ x hx => ?_⟩
        have EE := (Ext.new hw (.tup [V.int l.2.2])).trans (Ext.new hx (.tup ([.int l.1, .int l.2.1] ++ [.int l.2.2])))
        have hac := EE.lst hacc
        refine ⟨acc, hac, small1000 (by omega), acc ++ [.ref x], upd_same, (e.trans EE).put hD2 _, by rw [List.length_append, hl]; rfl, ?_⟩
        rw [take_snoc hlk, List.map_append]
        exact pTI.put hac (fun _ _ h => h) (paired_snoc ⟨x, rfl, upd_same⟩ (pTI.ext EE hpa))
      · rw [lys, List.take_length] at hpa
        refine ⟨D2, acc, rfl, hacc, fun v hv => ⟨(by show 2 ≤ sizeLine; decide), fun wv hwv => ?_⟩⟩
        have EV := (XB.trans e).trans ((Ext.new hv (.tup acc)).trans (Ext.new hwv (.tup [.ref tu, .ref v])))
        refine k _ _ ⟨ts, L'⟩ (e8.trans EV.b) (R8.ext EV) ⟨wv, .ref tu, .ref v, rfl, upd_same, ⟨tu, rfl, EV.tup t8⟩, ⟨v, acc, rfl, ?_, pTI.ext ((Ext.new hv _).trans (Ext.new hwv _)) hpa⟩⟩ Wok l1 fun t ht => (b1 t ht).2
        exact (Ext.new hwv _).tup upd_same
end
end Lk


/-! ## OpLI -/
set_option Elab.async false
set_option linter.all false
set_option maxRecDepth 100000
set_option maxHeartbeats 2000000
namespace Lk
open PySem PySem.Spec PyProof.Rows L2 Gx
variable [Own]
/-- t[a:b], one tuple of these or another -/
def rSlU : V → Option Int → Option Int → Hp → VK → Prop := fun x lo hi H Q => ∃ a xs, x = .ref a ∧ H a = some (.tup xs) ∧ ∀ H' p, Ext H H' → H' p = some (.tup (cutV xs lo hi)) → Q (.ref p) H'
theorem sl_tU {X : Cx} : SlR X rSlU := by
  intro pins s σ H x v vl vu lo hi sl Q I rx hs h1 h2 h
  obtain ⟨a, xs, rfl, ha, k⟩ := h
  refine sl_tupA pins s σ H _ v vl vu lo hi sl Q I rx hs h1 h2 ⟨a, xs, rfl, SqT.of ha, fun hf => k H a (Ext.refl H) ?_, fun _ p hp => k _ p (Ext.new hp _) upd_same⟩
  rw [ha]
  unfold cutV
  rw [hf.1, hf.2]
  simp
/-- t + u, one tuple of these or another -/
def rCatU : R2 := fun x y H Q => ∃ a b xs ys, x = .ref a ∧ y = .ref b ∧ H a = some (.tup xs) ∧ H b = some (.tup ys) ∧ xs.length + ys.length ≤ sizeLine ∧ ∀ H' p, Ext H H' → H' p = some (.tup (xs ++ ys)) → Q (.ref p) H'
theorem op_catU {X : Cx} : OpR X (binaryOp .Add) rCatU := by
  intro pins s σ H x y v u Q I rx ry h
  obtain ⟨a, b, xs, ys, e1, e2, h1, h2, hl, k⟩ := h
  refine op_catTT pins s σ H x y v u Q I rx ry ⟨a, b, xs, ys, e1, e2, h1, h2, hl, fun e => ?_, fun _ e => ?_, fun _ _ p hp => k _ p (Ext.new hp _) upd_same⟩
  · subst e
    exact k H b (Ext.refl H) h2
  · subst e
    exact k H a (Ext.refl H) (by rw [List.append_nil]; exact h1)
/-- two lists of ints -/
def rNeLI : R2 := fun x y H Q => ∃ a b : List Int, LI H x a ∧ LI H y b ∧ Q (.bl (!decide (a = b))) H
def rEqLI : R2 := fun x y H Q => ∃ a b : List Int, LI H x a ∧ LI H y b ∧ Q (.bl (decide (a = b))) H
theorem eqv_li (a b : List Int) : PyData.eqv (.list (a.map .int)) (.list (b.map .int)) = decide (a = b) := by
  simp only [PyData.eqv]
  exact eqvAll_ints a b
theorem LI.dp {K : PySem.W.Frag} {H : Hp} {v : V} {ns : List Int} (h : LI H v ns) : Dp K H v (.list (ns.map .int)) := by
  obtain ⟨a, rfl, h⟩ := h
  exact .lst (SqL.of h) (dpAll_ints ns)
theorem op_eqLI {X : Cx} (hu : X.A.units + 64 < cLine) : OpR X (compareOp .Eq) rEqLI := by
  intro pins s σ H x y v u Q I rx ry h
  obtain ⟨a, b, h1, h2, q⟩ := h
  exact op_eqD hu pins s σ H x y v u Q I rx ry ⟨_, _, h1.dp, h2.dp, shaped_li a, shaped_li b, by rw [eqv_li]; exact q⟩
theorem op_neLI {X : Cx} (hu : X.A.units + 64 < cLine) : OpR X (compareOp .NotEq) rNeLI := by
  intro pins s σ H x y v u Q I rx ry h
  obtain ⟨a, b, h1, h2, q⟩ := h
  exact op_neD hu pins s σ H x y v u Q I rx ry ⟨_, _, h1.dp, h2.dp, shaped_li a, shaped_li b, by rw [eqv_li]; exact q⟩
theorem sIx_nat (n d k : Nat) (h : k ≤ n) : HT.sIx n d (some (k : Int)) = k := by
  show (if (k : Int) < 0 then ((k : Int) + n).toNat else min (k : Int).toNat n) = k
  rw [if_neg (by omega)]
  omega
theorem cut_take (xs : List V) (n : Nat) (h : n ≤ xs.length) : cutV xs none (some (n : Int)) = xs.take n := by
  unfold cutV
  rw [sIx_nat _ _ _ h]
  rfl
theorem cut_drop (xs : List V) (n : Nat) (h : n ≤ xs.length) : cutV xs (some (n : Int)) none = xs.drop n := by
  unfold cutV
  rw [sIx_nat _ _ _ h]
  exact List.take_of_length_le (by rw [List.length_drop]; exact Nat.le_refl _)

/-- an int in a row of ints -/
def rInI : R2 := fun x y H Q => ∃ (n : Int) (ns : List Int), x = .int n ∧ (TI H y ns ∨ LI H y ns) ∧ Q (.bl (ns.contains n)) H
def rNotInI : R2 := fun x y H Q => ∃ (n : Int) (ns : List Int), x = .int n ∧ (TI H y ns ∨ LI H y ns) ∧ Q (.bl (!ns.contains n)) H
theorem op_inI {X : Cx} : OpR X (compareOp .In) rInI := by
  intro pins s σ H x y v u Q I rx ry h
  obtain ⟨n, ns, rfl, h | h, q⟩ := h
  · obtain ⟨a, rfl, ha⟩ := h
    exact op_in_seq pins s σ H _ _ v u Q I rx ry ⟨a, _, rfl, .inr (SqT.of ha), rfl, flat_iv _, by rw [inV_iv]; exact q⟩
  · obtain ⟨a, rfl, ha⟩ := h
    exact op_in_seq pins s σ H _ _ v u Q I rx ry ⟨a, _, rfl, .inl (SqL.of ha), rfl, flat_iv _, by rw [inV_iv]; exact q⟩
theorem op_notInI {X : Cx} : OpR X (compareOp .NotIn) rNotInI := by
  intro pins s σ H x y v u Q I rx ry h
  obtain ⟨n, ns, rfl, h | h, q⟩ := h
  · obtain ⟨a, rfl, ha⟩ := h
    exact op_notIn_seq pins s σ H _ _ v u Q I rx ry ⟨a, _, rfl, .inr (SqT.of ha), rfl, flat_iv _, by rw [inV_iv]; exact q⟩
  · obtain ⟨a, rfl, ha⟩ := h
    exact op_notIn_seq pins s σ H _ _ v u Q I rx ry ⟨a, _, rfl, .inl (SqL.of ha), rfl, flat_iv _, by rw [inV_iv]; exact q⟩
end Lk

/-! ## OpLS -/
set_option Elab.async false
set_option linter.all false
set_option maxRecDepth 100000
set_option maxHeartbeats 2000000
/-! Lists of texts, tuples of rows, compared. -/
namespace Lk
open PySem PySem.Spec PyProof.Rows L2 Gx
variable [Own]
/-- a list of texts -/
def LS (H : Hp) (v : V) (ss : List Str) : Prop := ∃ a, v = .ref a ∧ H a = some (.lst (ss.map V.str))
theorem eqv_str (a b : Str) : PyData.eqv (.str a) (.str b) = decide (a = b) := by
  simp only [PyData.eqv]
  first | rfl | exact Bool.beq_eq_decide_eq .. | (by_cases h : a = b <;> simp [h])
theorem eqvAll_strs : ∀ a b : List Str, PyData.eqvAll (a.map .str) (b.map .str) = decide (a = b)
  | [], [] => by simp [PyData.eqvAll]
  | [], _ :: _ => by simp [PyData.eqvAll]
  | _ :: _, [] => by simp [PyData.eqvAll]
  | x :: xs, y :: ys => by
    rw [List.map_cons, List.map_cons]
    simp only [PyData.eqvAll]
    rw [eqv_str, eqvAll_strs xs ys]
    by_cases h1 : x = y <;> by_cases h2 : xs = ys <;> simp [h1, h2]
theorem canLay_strs : ∀ a : List Str, a.all PyData.strOk = true → PyData.canLayAll0 (a.map .str) = true
  | [], _ => by simp [PyData.canLayAll0]
  | x :: xs, h => by
    rw [List.all_cons, Bool.and_eq_true] at h
    rw [List.map_cons]
    simp only [PyData.canLayAll0, PyData.canLay0, canLay_strs xs h.2, h.1, Bool.and_self]
theorem depth_strs : ∀ a : List Str, PyData.depthAll (a.map .str) = 0
  | [] => by simp [PyData.depthAll]
  | x :: xs => by
    rw [List.map_cons]
    simp only [PyData.depthAll, PyData.depth, depth_strs xs, Nat.max_self]
theorem shaped_ls (a : List Str) (h : a.all PyData.strOk = true) : SeqAt.shaped (.list (a.map .str)) = true := by
  unfold SeqAt.shaped
  simp only [PyData.canLay0, canLay_strs a h, PyData.depth, depth_strs a, Bool.true_and]
  decide
theorem dpAll_strs {K : PySem.W.Frag} {H : Hp} : ∀ ss : List Str, DpAll K H (ss.map V.str) (ss.map .str)
  | [] => .nil
  | s :: ss => .cons (.str s) (dpAll_strs ss)
theorem LS.dp {K : PySem.W.Frag} {H : Hp} {v : V} {ss : List Str} (h : LS H v ss) : Dp K H v (.list (ss.map .str)) := by
  obtain ⟨a, rfl, h⟩ := h
  exact .lst (SqL.of h) (dpAll_strs ss)
theorem eqv_ls (a b : List Str) : PyData.eqv (.list (a.map .str)) (.list (b.map .str)) = decide (a = b) := by
  simp only [PyData.eqv]
  exact eqvAll_strs a b
def rEqLS : R2 := fun x y H Q => ∃ a b : List Str, LS H x a ∧ LS H y b ∧ a.all PyData.strOk = true ∧ b.all PyData.strOk = true ∧ Q (.bl (decide (a = b))) H
theorem op_eqLS {X : Cx} (hu : X.A.units + 64 < cLine) : OpR X (compareOp .Eq) rEqLS := by
  intro pins s σ H x y v u Q I rx ry h
  obtain ⟨a, b, h1, h2, ha, hb, q⟩ := h
  exact op_eqD hu pins s σ H x y v u Q I rx ry ⟨_, _, h1.dp, h2.dp, shaped_ls a ha, shaped_ls b hb, by rw [eqv_ls]; exact q⟩
theorem eqv_tl (a b : List (List Int)) : PyData.eqv (.tuple (a.map dI)) (.tuple (b.map dI)) = decide (a = b) := by
  simp only [PyData.eqv]
  exact eqvAll_rows a b
/-- two tuples of rows -/
def rNeTT2 : R2 := fun x y H Q => ∃ a b : List (List Int), TT2 H x a ∧ TT2 H y b ∧ Q (.bl (!decide (a = b))) H
def rEqTT2 : R2 := fun x y H Q => ∃ a b : List (List Int), TT2 H x a ∧ TT2 H y b ∧ Q (.bl (decide (a = b))) H
theorem op_neTT2 {X : Cx} (hu : X.A.units + 64 < cLine) : OpR X (compareOp .NotEq) rNeTT2 := by
  intro pins s σ H x y v u Q I rx ry h
  obtain ⟨a, b, h1, h2, q⟩ := h
  exact op_neD hu pins s σ H x y v u Q I rx ry ⟨_, _, h1.dp, h2.dp, shaped_tl a, shaped_tl b, by rw [eqv_tl]; exact q⟩
theorem op_eqTT2 {X : Cx} (hu : X.A.units + 64 < cLine) : OpR X (compareOp .Eq) rEqTT2 := by
  intro pins s σ H x y v u Q I rx ry h
  obtain ⟨a, b, h1, h2, q⟩ := h
  exact op_eqD hu pins s σ H x y v u Q I rx ry ⟨_, _, h1.dp, h2.dp, shaped_tl a, shaped_tl b, by rw [eqv_tl]; exact q⟩
end Lk

/-! ## OpWd -/
set_option Elab.async false
set_option linter.all false
set_option maxRecDepth 100000
set_option maxHeartbeats 2000000
/-! == of two words of TooMany: tuples of the same text and an int. -/
namespace Lk
open PySem PySem.Spec PyProof.Rows L2 Gx
variable [Own]
def Wd (t : Str) : Hp → V → Int → Prop := fun H v n => ∃ a, v = .ref a ∧ H a = some (.tup [.str t, .int n])
theorem Wd.dp {K : PySem.W.Frag} {t : Str} {H : Hp} {v : V} {n : Int} (h : Wd t H v n) : Dp K H v (.tuple [.str t, .int n]) := by
  obtain ⟨a, rfl, h⟩ := h
  exact .tup (SqT.of h) (.cons (.str t) (.cons (.int n) .nil))
theorem eqv_wd (t : Str) (a b : Int) : PyData.eqv (.tuple [.str t, .int a]) (.tuple [.str t, .int b]) = decide (a = b) := by
  simp only [PyData.eqv, PyData.eqvAll]
  by_cases h : a = b <;> simp [h]
theorem shaped_wd {t : Str} {a : Int} (ht : PyData.strOk t = true) (ha : PyData.canLay0 (.int a) = true) : SeqAt.shaped (.tuple [.str t, .int a]) = true := by
  unfold SeqAt.shaped
  simp only [PyData.canLay0] at ha
  simp only [PyData.canLay0, PyData.canLayAll0, PyData.depth, PyData.depthAll, ht, ha, Bool.true_and, Bool.and_true, Bool.and_self, Nat.max_self]
  decide
def rEqWd (t : Str) : R2 := fun x y H Q => ∃ a b : Int, Wd t H x a ∧ Wd t H y b ∧ PyData.strOk t = true ∧ PyData.canLay0 (.int a) = true ∧ PyData.canLay0 (.int b) = true ∧ Q (.bl (decide (a = b))) H
theorem op_eqWd {X : Cx} {t : Str} (hu : X.A.units + 64 < cLine) : OpR X (compareOp .Eq) (rEqWd t) := by
  intro pins s σ H x y v u Q I rx ry h
  obtain ⟨a, b, h1, h2, ht, ha, hb, q⟩ := h
  exact op_eqD hu pins s σ H x y v u Q I rx ry ⟨_, _, h1.dp, h2.dp, shaped_wd ht ha, shaped_wd ht hb, by rw [eqv_wd]; exact q⟩
end Lk

/-! ## SumT -/
set_option Elab.async false
set_option linter.all false
set_option maxRecDepth 100000
set_option maxHeartbeats 2000000
/-! sum(t) of a tuple of ints. -/
namespace Lk
open PySem PySem.Spec PyProof.Rows L2 Gx
variable [Own]
theorem preSum_getD (ns : List Int) : ∀ j, preSum (fun i => ns.getD i 0) j = (ns.take j).sum
  | 0 => by simp [preSum]
  | j + 1 => by
    rw [preSum, preSum_getD ns j]
    by_cases h : j < ns.length
    · rw [List.take_succ_eq_append_getElem h, List.sum_append, List.getD_eq_getElem?_getD, List.getElem?_eq_getElem h]
      simp
    · rw [List.take_of_length_le (by omega), List.take_of_length_le (by omega), List.getD_eq_getElem?_getD, List.getElem?_eq_none (by omega)]
      simp
def rSumT : List V → Hp → VK → Prop := fun vs H Q => ∃ (x : V) (ns : List Int), vs = [x] ∧ TI H x ns ∧ Q (.int ns.sum) H
theorem cr_sumT {X : Cx} (hc : X.calm = true) : CallR X (.builtin "sum") rSumT := by
  intro pins s σ H vs us Q I r h
  obtain ⟨x, ns, rfl, ⟨a, rfl, ha⟩, q⟩ := h
  rw [Vals.ref1 r]
  obtain ⟨its, rv, hl, hz⟩ := I.tuple (SqT.of ha)
  have hlt : a < s.heap.objs.size := by
    obtain ⟨_, e, _⟩ := hl
    exact Heap.lt_size e
  have hlen : ns.length = its.length := by rw [← iv_len ns]; exact rv.length
  have hval : ∀ (i : Nat) (v : Value), its.toArray[i]? = some v → ∃ t, v = Value.int (ns.getD i 0) t := fun i v hv => by
    have hv' : its[i]? = some v := by simpa using hv
    have hi := (List.getElem?_eq_some_iff.mp hv').1
    have hx : ns[i]? = some ns[i] := List.getElem?_eq_getElem (by omega)
    obtain ⟨u, hu, t, ru⟩ := rv.get (iv_at hx)
    rw [hv'] at hu
    cases hu
    exact ⟨t, by rw [ru, List.getD_eq_getElem?_getD, hx] <;> rfl⟩
  refine call_sum_walkG (wpAny_pyIter_tuple hl ?_)
  refine ⟨_, _, _, _, _, _, fun i => ns.getD i 0, rfl, Walks.tuple (A := X.A.in1) (I.ok.hd hc) s.heap.objs.size a (Nat.ne_of_lt hlt) its.toArray, ⟨⟨_, Heap.get?_push_size _ rfl, rfl, rfl⟩, ?_⟩, fun b hb => ?_, hval, fun h' tk t' hk => ?_⟩
  · obtain ⟨o, e, r⟩ := hl
    exact ⟨o, Heap.get?_push_of_some _ e, r⟩
  · show b < (s.heap.push _).objs.size
    rw [Heap.size_push]
    rcases List.mem_cons.mp hb with e | hb
    · rw [e]
      exact Nat.lt_succ_self _
    · rw [List.mem_singleton.mp hb]
      exact Nat.lt_succ_of_lt hlt
  · refine ⟨.int _, H, I.kept (t' := tk) fun b u e => hk b u (fun hmem => ?_) (Heap.get?_push_of_some _ e), ⟨t', rfl⟩, ?_⟩
    · have e1 : b = s.heap.objs.size := List.mem_singleton.mp hmem
      have e2 := Heap.lt_size e
      rw [e1] at e2
      exact absurd e2 (Nat.lt_irrefl _)
    · rw [preSum_getD, List.size_toArray, ← hlen, List.take_length]
      exact q
end Lk

/-! ## CntS -/
set_option Elab.async false
set_option linter.all false
/-! How many of each, summed: as many as there are. -/
namespace Lk
theorem sum_addm (l : List Nat) (f g : Nat → Nat) : (l.map fun k => f k + g k).sum = (l.map f).sum + (l.map g).sum := by
  induction l with
  | nil => rfl
  | cons a l ih => simp only [List.map_cons, List.sum_cons, ih]; omega
theorem sum_zero (l : List Nat) : (l.map fun _ => 0).sum = 0 := by
  induction l with
  | nil => rfl
  | cons a l ih => simp only [List.map_cons, List.sum_cons, ih]
theorem sum_hit (a : Nat) : ∀ N, ((List.range N).map fun k => if a = k then 1 else 0).sum = if a < N then 1 else 0
  | 0 => by simp
  | N + 1 => by
    rw [List.range_succ, List.map_append, List.sum_append, sum_hit a N]
    by_cases h1 : a < N
    · have h2 : a ≠ N := by omega
      have h3 : a < N + 1 := by omega
      simp [h1, h2, h3]
    · by_cases h2 : a = N
      · subst h2
        simp
      · have h3 : ¬ a < N + 1 := by omega
        simp [h1, h2, h3]
theorem cnt_sum : ∀ (ns : List Nat) (N : Nat), (∀ n ∈ ns, n < N) → ((List.range N).map fun k => ns.count k).sum = ns.length
  | [], N, _ => by
    have e : (fun k : Nat => ([] : List Nat).count k) = fun _ => 0 := by funext k; simp
    rw [e, sum_zero]
    rfl
  | a :: ns, N, h => by
    have e : (fun k : Nat => (a :: ns).count k) = fun k => ns.count k + (if a = k then 1 else 0) := by
      funext k
      rw [List.count_cons]
      by_cases q : a = k <;> simp [q]
    rw [e, sum_addm, cnt_sum ns N fun n hn => h n (List.mem_cons_of_mem _ hn), sum_hit, if_pos (h a (List.mem_cons_self ..))]
    rfl
end Lk

/-! ## DA2 -/
set_option Elab.async false
set_option linter.all false
set_option maxRecDepth 100000
set_option maxHeartbeats 2000000
/-! What k09's law says of sizes and counts, without its heap. -/
namespace Lk
open PySem PySem.Spec PyProof.Rows L2 Gx
variable [Own]
/-- how many tables, 0 for too many -/
def szOf (W : Web) (f : Int) : Int := if 3000 < (tablesOf W f).length then 0 else ((tablesOf W f).length : Int)
def szTo (W : Web) (i : Nat) : List Int := (List.range i).map fun f : Nat => szOf W (f : Int)
/-- somebody so far has too many -/
def grTo (W : Web) (i : Nat) : Bool := (List.range i).any fun f : Nat => decide (3000 < (tablesOf W (f : Int)).length)
theorem grTo_succ (W : Web) (i : Nat) : grTo W (i + 1) = (grTo W i || decide (3000 < (tablesOf W (i : Int)).length)) := by
  unfold grTo
  rw [List.range_succ, List.any_append]
  simp
theorem szTo_succ (W : Web) (i : Nat) : szTo W (i + 1) = szTo W i ++ [szOf W (i : Int)] := by
  unfold szTo
  rw [List.range_succ, List.map_append]
  rfl
theorem szTo_len (W : Web) (i : Nat) : (szTo W i).length = i := by unfold szTo; rw [List.length_map, List.length_range]
theorem few_gr {W : Web} (h : grTo W W.tops.length = false) : Few3 W := by
  intro f h0 h1
  have h2 := List.any_eq_false.mp h f.toNat (List.mem_range.mpr (by omega))
  rw [show ((f.toNat : Nat) : Int) = f by omega] at h2
  have := of_decide_eq_false (by simpa using h2 : decide (3000 < (tablesOf W f).length) = false)
  omega
theorem gr_few {W : Web} (h : grTo W W.tops.length = true) : ¬ Few3 W := by
  intro few
  obtain ⟨f, hf, h2⟩ := List.any_eq_true.mp h
  have h3 := of_decide_eq_true h2
  have := few (f : Int) (by omega) (by have := List.mem_range.mp hf; omega)
  omega
/-- all multiplied -/
def prodI (l : List Int) : Int := l.foldl (fun m c => m * c) 1
theorem prodI_snoc (l : List Int) (x : Int) : prodI (l ++ [x]) = prodI l * x := by
  unfold prodI
  rw [List.foldl_append]
  rfl
theorem fold_cast {α : Type} (g : Nat → List α) : ∀ (l : List Nat) (m : Nat), (l.map fun f => ((g f).length : Int)).foldl (fun m c => m * c) (m : Int) = (((l.map g).foldl (fun m c => m * c.length) m : Nat) : Int)
  | [], _ => rfl
  | f :: l, m => by
    simp only [List.map_cons, List.foldl_cons]
    have h := fold_cast g l (m * (g f).length)
    rw [Int.natCast_mul] at h
    exact h
theorem cases_rng (W : Web) : casesOf W = (List.range W.tops.length).map fun f : Nat => tablesOf W (f : Int) := by
  unfold casesOf
  rw [nums_nat, List.map_map]
  rfl
theorem prod_lens {W : Web} (few : Few3 W) : prodI (szTo W W.tops.length) = ((lensOf (casesOf W) : Nat) : Int) := by
  have e : szTo W W.tops.length = (List.range W.tops.length).map fun f : Nat => ((tablesOf W (f : Int)).length : Int) := by
    unfold szTo
    refine List.map_congr_left fun f hf => ?_
    have := few (f : Int) (by omega) (by have := List.mem_range.mp hf; omega)
    unfold szOf
    rw [if_neg (by omega)]
  rw [e, cases_rng]
  exact fold_cast (fun f : Nat => tablesOf W (f : Int)) _ 1
theorem fold_mem {α : Type} : ∀ (l : List (List α)) (m : Nat), 1 ≤ m → (∀ c ∈ l, 1 ≤ c.length) → ∀ c ∈ l, c.length ≤ l.foldl (fun m c => m * c.length) m
  | [], _, _, _, c, h => by cases h
  | d :: l, m, hm, h, c, hc => by
    have h1 := h d (List.mem_cons_self ..)
    have hl : ∀ c ∈ l, 1 ≤ c.length := fun c hc => h c (List.mem_cons_of_mem _ hc)
    show c.length ≤ l.foldl (fun m c => m * c.length) (m * d.length)
    rcases List.mem_cons.mp hc with e | e
    · subst e
      exact Nat.le_trans (by simpa using Nat.mul_le_mul_right c.length hm) (fold_up l _ hl)
    · exact fold_mem l _ (Nat.mul_le_mul hm h1) hl c e
theorem cases_some {W : Web} (ok : W.Ok) : ∀ c ∈ casesOf W, 1 ≤ c.length := fun c hc => by
  obtain ⟨g, hg, rfl⟩ := List.mem_map.mp hc
  obtain ⟨h1, h2⟩ := mem_nums.mp hg
  exact tables_some ok h1 (by omega)
theorem few_every {W : Web} (ok : W.Ok) {most : Nat} (h : lensOf (casesOf W) ≤ most) : (∀ j, j < W.tops.length → (tablesOf W (j : Int)).length ≤ most) ∧ ∀ j, 0 < j → j ≤ W.tops.length → lensOf ((casesOf W).take j) ≤ most := by
  refine ⟨fun j hj => ?_, fun j _ _ => Nat.le_trans (lens_take (cases_some ok) j) h⟩
  refine Nat.le_trans (fold_mem (casesOf W) 1 (Nat.le_refl _) (cases_some ok) _ ?_) h
  rw [cases_rng]
  exact List.mem_map.mpr ⟨j, List.mem_range.mpr hj, rfl⟩
theorem numbers_len (W : Web) : (numbersOf W).length = lensOf (casesOf W) := by
  have lc := cases_len W
  unfold numbersOf
  rw [List.length_map, lefts_len W (casesOf W) W.tops.length (by omega), List.take_of_length_le (by omega)]
theorem sum_castI : ∀ l : List Nat, (l.map fun n : Nat => (n : Int)).sum = ((l.sum : Nat) : Int)
  | [] => rfl
  | a :: l => by
    rw [List.map_cons, List.sum_cons, List.sum_cons, sum_castI l, Int.natCast_add]
theorem counts_sum {W : Web} : (countsOf (numbersOf W)).sum = ((lensOf (casesOf W) : Nat) : Int) := by
  have h : ∀ n ∈ numbersOf W, n < (maxFrom 0 (natInts (numbersOf W)) + 1).toNat := fun n hn => by
    have := ((maxFrom_le (natInts (numbersOf W)) 0 _).mp (Int.le_refl _)).2 (n : Int) (List.mem_map.mpr ⟨n, hn, rfl⟩)
    omega
  have h2 := cnt_sum (numbersOf W) _ h
  unfold countsOf cntTo
  rw [← numbers_len, ← h2, ← sum_castI, List.map_map]
  rfl
end Lk


/-! ## DA0 -/
set_option Elab.async false
set_option linter.all false
set_option maxRecDepth 100000
set_option maxHeartbeats 4000000
namespace Lk
open PySem PySem.Spec PyProof.Rows L2 Gx LamX NdefX
open GxR (Tabbed TabG)
variable [Own]
abbrev s_law : Stmt := top 47
theorem sc_law : FnScope ["script", "row", "web", "sizes", "great", "folk", "some", "whole", "size", "counts", "rules", "many", "due"] ["script"] (defScope s_law) := ⟨rfl, rfl, rfl, by decide +kernel, rfl, by decide +kernel, by decide +kernel⟩
def spLaw (K : PySem.W.Frag) (Ps : List Addr) (T : Addr) : Sp := fun vs H Q _ => ∃ (sc : Addr) (ns : List Int), vs = [.ref sc] ∧ SqL K H sc (iv ns) ∧ ns.length ≤ 63 ∧ Lk.Tabs Ps H ∧ H T = some (.tbl #[]) ∧ ∀ H', Q (.bl true) H'
/-- what lambdas of the law are called -/
abbrev lamQ : Str := ("law" : Str) ++ ".<locals>." ++ "<lambda>"
/-- as seen without tables of one's own -/
abbrev ExtF (H H' : Hp) : Prop := @Ext ⟨fun _ => False⟩ H H'
theorem weak {H H' : Hp} (e : Ext H H') : ExtF H H' := @Ext.mk ⟨fun _ => False⟩ _ _ e.keep e.tab e.tb (fun _ _ z _ => z.elim)
theorem extF_tup {H H' : Hp} (e : ExtF H H') {a : Addr} {xs : List V} (h : H a = some (.tup xs)) : H' a = some (.tup xs) := @Ext.tup ⟨fun _ => False⟩ _ _ e _ _ h
theorem extF_web {H H' : Hp} (e : ExtF H H') {v : V} {W : Web} (h : WebAt H v W) : WebAt H' v W := @WebAt.ext ⟨fun _ => False⟩ _ _ _ _ e h
theorem extF_tabs {H H' : Hp} (e : ExtF H H') {Ps : List Addr} (h : Lk.Tabs Ps H) : Lk.Tabs Ps H' := @Lk.Tabs.ext ⟨fun _ => False⟩ _ _ _ h e
theorem extF_lst {H H' : Hp} (e : ExtF H H') {a : Addr} {xs : List V} (h : H a = some (.lst xs)) : H' a = some (.lst xs) := @Ext.lst ⟨fun _ => False⟩ _ _ e _ _ h
theorem extF_trans {H H' H'' : Hp} (e : ExtF H H') (e2 : ExtF H' H'') : ExtF H H'' := @Ext.trans ⟨fun _ => False⟩ _ _ _ e e2
theorem extF_TI {H H' : Hp} (e : ExtF H H') {xs : List V} {ys : List (List Int)} (h : Paired (TI H) xs ys) : Paired (TI H') xs ys := @pTI.ext ⟨fun _ => False⟩ _ _ _ _ e h
theorem alike_ints {H : Hp} (ns : List Int) : ∀ (H' : Hp) (i : Nat) (x y : V) (Q' : VK) (E' : XK), Ext H H' → (iv ns)[i]? = some x → (iv ns)[i]? = some y → (∀ H'', Ext H' H'' → Q' (.bl true) H'') → spAlike0 [x, y] H' Q' E' := fun H' i x y Q' E' e hx hy k' => by
  obtain ⟨n, hn, rfl⟩ := iv_get hx
  obtain ⟨m, hm, rfl⟩ := iv_get hy
  rw [hn] at hm
  cases hm
  exact ⟨.inl ⟨n, rfl⟩, k'⟩
theorem alike_rows2 {H : Hp} {xs ys : List V} {rows : List (List Int)} (p1 : Paired (TI H) xs rows) (p2 : Paired (TI H) ys rows) (hr : ∀ r ∈ rows, r.length ≤ 1000000) :
    ∀ (H' : Hp) (i : Nat) (x y : V) (Q' : VK) (E' : XK), Ext H H' → xs[i]? = some x → ys[i]? = some y → (∀ H'', Ext H' H'' → Q' (.bl true) H'') → spAlikeS spAlike0 [x, y] H' Q' E' := fun H' i x y Q' E' e hx hy k' => by
  obtain ⟨r1, g1, c, rfl, hc⟩ := paired_get' (pTI.ext e p1) hx
  obtain ⟨r2, g2, d, rfl, hd⟩ := paired_get' (pTI.ext e p2) hy
  rw [g1] at g2
  cases g2
  exact ⟨c, d, false, iv r1, iv r1, rfl, hc, hd, rfl, by rw [iv_len]; exact hr _ (List.mem_of_getElem? g1), alike_ints _, k'⟩
/-- a heap without what stands at d -/
def cutH (H : Hp) (d : Addr) : Hp := fun a => if a = d then none else H a
theorem cut_at {H : Hp} {d : Addr} : cutH H d d = none := if_pos rfl
theorem cut_ne {H : Hp} {a d : Addr} (h : a ≠ d) : cutH H d a = H a := if_neg h
theorem cut_of {H : Hp} {a d : Addr} {o : HO} (h : cutH H d a = some o) : H a = some o := by
  by_cases e : a = d
  · rw [e, cut_at] at h
    cases h
  · rw [cut_ne e] at h
    exact h
theorem cut_ext (H : Hp) (d : Addr) : Ext (cutH H d) H := ⟨fun _ _ h _ => cut_of h, fun _ ⟨ps, e, t⟩ => ⟨ps, cut_of e, t⟩, fun _ o h => ⟨o, cut_of h⟩, fun _ _ _ h => cut_of h⟩
section
variable {H : Hp} {d : Addr} {kvs : List (Key × V)} (hd : H d = some (.dK kvs))
include hd
theorem cut_tup {a : Addr} {xs : List V} (h : H a = some (.tup xs)) : cutH H d a = some (.tup xs) := (cut_ne (fun z => by rw [z, hd] at h; cases h)).trans h
theorem cut_lst {a : Addr} {xs : List V} (h : H a = some (.lst xs)) : cutH H d a = some (.lst xs) := (cut_ne (fun z => by rw [z, hd] at h; cases h)).trans h
theorem cut_TI {v : V} {ns : List Int} (h : TI H v ns) : TI (cutH H d) v ns := by
  obtain ⟨a, q, h⟩ := h
  exact ⟨a, q, cut_tup hd h⟩
theorem cut_TT2 {v : V} {rows : List (List Int)} (h : TT2 H v rows) : TT2 (cutH H d) v rows := by
  obtain ⟨a, vs, q, h, p⟩ := h
  exact ⟨a, vs, q, cut_tup hd h, paired_mono (fun _ _ r => cut_TI hd r) p⟩
theorem cut_web {v : V} {W : Web} (h : WebAt H v W) : WebAt (cutH H d) v W := by
  obtain ⟨a, t, l, q, h, p1, p2⟩ := h
  exact ⟨a, t, l, q, cut_tup hd h, cut_TI hd p1, cut_TT2 hd p2⟩
theorem cut_tabs {Ps : List Addr} (h : Lk.Tabs Ps H) : Lk.Tabs Ps (cutH H d) := fun P hP => by
  obtain ⟨ps, e, t⟩ := h P hP
  exact ⟨ps, (cut_ne (fun z => by rw [z, hd] at e; cases e)).trans e, t⟩
end
theorem tabS_put {H : Hp} {T a : Addr} {q : Str} {x y : List V} (t : LamX.TabS H T q) (h : H a = some (.lst x)) : LamX.TabS (L2.upd H a (.lst y)) T q := by
  obtain ⟨ps, a1, a2, a3⟩ := t
  have nT : T ≠ a := fun z => by rw [z, h] at a1; cases a1
  refine ⟨ps, by rw [upd_ne nT]; exact a1, a2, fun pos cv hc => ?_⟩
  obtain ⟨c, e1, e2⟩ := a3 pos cv hc
  exact ⟨c, e1, by rw [upd_ne (fun z => by rw [z, h] at e2; cases e2)]; exact e2⟩
section
variable {P : Program} {w : World} {K : PySem.W.Frag} {mg : Str → Option Value} {base : Heap} {Ps : List Addr} {CF C T gW : Addr} {cdW : Value}
theorem ok_law {f : Addr} {fd : FuncData} (F : FunL K mg base "law" s_law f fd T) (own : Own.own T) (B : Blt mg) (bsum : mg "sum" = none) (GW : GDef K mg "_law_word" s__law_word gW cdW) (TW : WrdG K mg CF C)
    (c__law_taken : Cal P w K mg base CX0 1 "_law_taken" ["row", "many"] (spTaken K)) (c__law_web : Cal P w K mg base CX0 2 "_law_web" ["row", "folk", "most", "looks"] (spLawWeb K))
    (c__law_tables : Cal P w K mg base CX0 2 "_law_tables" ["web", "folk", "most"] spLawTables) (c__law_every : Cal P w K mg base CX0 3 "_law_every" ["web", "most"] spLawEvery) (c__law_settled : Cal P w K mg base CX0 4 "_law_settled" ["web", "rules"] spLawSettled)
    (c_alike1 : Cal P w K mg base CX0 2 "_law_alike" ["found", "due"] (spAlikeS spAlike0))
    (c_alikeA : Cal P w K mg base CX0 3 "_law_alike" ["found", "due"] (fun vs H Q E => spAlikeS (spAlikeS spAlike0) vs H Q E ∨ spAlikeS spAlikeW vs H Q E)) (c_alikeB : Cal P w K mg base CX0 2 "_law_alike" ["found", "due"] (fun vs H Q E => spAlikeW vs H Q E ∨ spAlikeS spAlikeW vs H Q E))
    (c_tables : Cal P w K mg base (L2.CX P w) 7 "tables" ["web", "folk"] (spTablesX Ps C)) (c_count_rules : Cal P w K mg base (L2.CX P w) 7 "count_rules" ["web"] (spCountRulesX Ps C)) (c_settled_counts : Cal P w K mg base (L2.CX P w) 7 "settled_counts" ["web"] (spSettledCountsX Ps C)) :
    FnOk P w K mg base CX0 10 f fd ["script"] (spLaw K Ps T) := by
  refine F.ok sc_law (fun vs H Q E h => ?_) (fun cT A outer s0 H vs Q E TB hr h => ?_)
  · obtain ⟨sc, ns, rfl, _⟩ := h
    rfl
  · obtain ⟨sc, ns, rfl, hsc, hlen, hTb, hTT, k⟩ := h
    refine ⟨_, (pss_cons (ps_set (i := 1) sc_law.nd rfl (by first | exact Or.inl rfl | exact Or.inr rfl) (pe_lst (pa_cons (pv 0) (pa_cons pe_int (pa_cons pe_int (pa_cons pe_int pa_nil))))))
      (pss_cons (ps_set (i := 2) sc_law.nd rfl (by first | exact Or.inl rfl | exact Or.inr rfl) (pe_c0 c__law_web (hr.mono (by decide)) (by rfl) (pa_cons (pv 1) (pa_cons (pe_op op_add pe_int (pe_c0 c__law_taken (hr.mono (by decide)) (by rfl) (pa_cons (pv 1) (pa_cons pe_int pa_nil)))) (pa_cons pe_int (pa_cons (pe_op op_add pe_int (pe_c0 c__law_taken (hr.mono (by decide)) (by rfl) (pa_cons (pv 1) (pa_cons pe_int pa_nil)))) pa_nil))))))
      (pss_cons (ps_par (i := 3) (j := 4) rfl sc_law.nd rfl rfl (by decide) rfl rfl (pa_cons (pe_lst pa_nil) (pa_cons pe_bl pa_nil)) (by rfl))
      (pss_cons (ps_for PassesOwn.never rfl (pi_range1 (by rfl) B.range (pa_cons (pe_callB call_lenT (by rfl) B.len PySem.boot_len (pa_cons (pe_ix ix_tT (pv 2) pe_int (fun _ _ => rfl)) pa_nil)) pa_nil)) (pg_name (i := 5) sc_law.nd rfl (by first | exact Or.inl rfl | exact Or.inr rfl))
        (pss_cons (ps_set (i := 6) sc_law.nd rfl (by first | exact Or.inl rfl | exact Or.inr rfl) (pe_c0 c__law_tables (hr.mono (by decide)) (by rfl) (pa_cons (pv 2) (pa_cons (pv 5) (pa_cons pe_int pa_nil)))))
        (pss_cons (ps_if (pt_not (pt_val (pe_c0 c_alikeA (hr.mono (by decide)) (by rfl) (pa_cons (pe_give (k := 7) (q := lamQ) (by rfl) GW sc__law_word rfl (by first | exact Or.inl rfl | exact Or.inr rfl) rfl (word_gives TW B) TB rfl (hr.mono (by decide)) (lamS_by (by rfl)) (by rfl) (fun _ _ _ _ _ => rfl) (fun A2 o2 s2 H2 E2 f2' c2 hr2 => pe_cal c_tables hr2 (by rfl) (passes_call (takes_of rfl rfl rfl rfl) fun _ _ _ _ h => h) (pa_cons (pv 2) (pa_cons (pv 5) pa_nil)))) (pa_cons (pe_ifExp (pt_cmpR op_isN (pv 6) pe_non (nomark _)) (pe_tup (pa_cons pe_str (pa_cons pe_int pa_nil))) (pe_tupleL (by rfl) B.tuple (pv 6))) pa_nil)))))
          (pss_one (ps_ret pe_bl)) pss_nil)
        (pss_cons (ps_set (i := 4) sc_law.nd rfl (by first | exact Or.inl rfl | exact Or.inr rfl) (pe_or (pv 4) (pe_one (pe_cmpR op_isN (pv 6) pe_non (nomark _)))))
        (pss_one (ps_expr (pe_bmL PySem.F.plainAttrs_list PySem.F.slot_list_append PySem.F.type_list_append mt_append (pv 3) (pa_cons (pe_ifExp (pt_cmpR op_isN (pv 6) pe_non (nomark _)) pe_int (pe_callB call_lenT (by rfl) B.len PySem.boot_len (pa_cons (pv 6) pa_nil))) pa_nil))))))))
      (pss_cons (ps_set (i := 7) sc_law.nd rfl (by first | exact Or.inl rfl | exact Or.inr rfl) pe_int)
      (pss_cons (ps_for PassesOwn.never rfl (pi_list (pv 3)) (pg_name (i := 8) sc_law.nd rfl (by first | exact Or.inl rfl | exact Or.inr rfl))
        (pss_one (ps_set (i := 7) sc_law.nd rfl (by first | exact Or.inl rfl | exact Or.inr rfl) (pe_op op_mul (pv 7) (pv 8)))))
      (pss_cons (ps_if (pt_not (pt_val (pe_c0 c_alikeB (hr.mono (by decide)) (by rfl) (pa_cons (pe_give (k := 7) (q := lamQ) (by rfl) GW sc__law_word rfl (by first | exact Or.inl rfl | exact Or.inr rfl) rfl (word_gives TW B) TB rfl (hr.mono (by decide)) (lamS_by (by rfl)) (by rfl) (fun _ _ _ _ _ => rfl) (fun A2 o2 s2 H2 E2 f2' c2 hr2 => pe_cal c_count_rules hr2 (by rfl) (passes_call (takes_of rfl rfl rfl rfl) fun _ _ _ _ h => h) (pa_cons (pv 2) pa_nil))) (pa_cons (pe_ifExp (pt_val (pv 4)) (pe_tup (pa_cons pe_str (pa_cons pe_int pa_nil))) (pv 7)) pa_nil)))))
        (pss_one (ps_ret pe_bl)) pss_nil)
      (pss_cons (ps_if (PW.pt (pw_or (pt_val (pv 4)) (pw_or1 (pt_cmpR op_gt (pv 7) pe_int (nomark _)))))
        (pss_one (ps_ret (pe_cmpR (op_eqWd (t := "many") hr.units) (pe_give (k := 7) (q := lamQ) (by rfl) GW sc__law_word rfl (by first | exact Or.inl rfl | exact Or.inr rfl) rfl (word_gives TW B) TB rfl (hr.mono (by decide)) (lamS_by (by rfl)) (by rfl) (fun _ _ _ _ _ => rfl) (fun A2 o2 s2 H2 E2 f2' c2 hr2 => pe_cal c_settled_counts hr2 (by rfl) (passes_call (takes_of rfl rfl rfl rfl) fun _ _ _ _ h => h) (pa_cons (pv 2) pa_nil))) (pe_tup (pa_cons pe_str (pa_cons (pe_ifExp (pt_val (pv 4)) pe_int pe_int) pa_nil))) (nomark _)))) pss_nil)
      (pss_cons (ps_if (pt_cmpR op_gt (pv 7) pe_int (nomark _))
        (pss_one (ps_ret pe_bl)) pss_nil)
      (pss_cons (ps_set (i := 9) sc_law.nd rfl (by first | exact Or.inl rfl | exact Or.inr rfl) pe_dnewK)
      (pss_cons (ps_for PassesOwn.never rfl (pi_list (pe_c0 c__law_every (hr.mono (by decide)) (by rfl) (pa_cons (pv 2) (pa_cons pe_int pa_nil)))) (pg_name (i := 10) sc_law.nd rfl (by first | exact Or.inl rfl | exact Or.inr rfl))
        (pss_cons (ps_set (i := 11) sc_law.nd rfl (by first | exact Or.inl rfl | exact Or.inr rfl) (pe_callB call_lenT (by rfl) B.len PySem.boot_len (pa_cons (pe_c0 c__law_settled (hr.mono (by decide)) (by rfl) (pa_cons (pv 2) (pa_cons (pv 10) pa_nil))) pa_nil)))
        (pss_one (ps_dput (hu_of hr) (pv 9) (pv 11) (pe_op op_add (pe_dget2 (hu_of hr) (pv 9) (pv 11) pe_int (by constructor <;> (intros; rfl))) pe_int) rfl))))
      (pss_cons (ps_set (i := 12) sc_law.nd rfl (by first | exact Or.inl rfl | exact Or.inr rfl) (pe_tupleL (by rfl) B.tuple (pe_lc (own := [("many", 11)]) rfl sc_law.nd (pi_range1 (by rfl) B.range (pa_cons (pe_op op_add (pe_callB (cr_max rfl) (by rfl) B.max boot_max (pa_cons (pe_callTy (call_list_dK rfl) (by rfl) B.list boot_tyList (pa_cons (pv 9) pa_nil)) pa_nil)) pe_int) pa_nil)) (blkOk_by (N := ["script", "row", "web", "sizes", "great", "folk", "some", "whole", "size", "counts", "rules", "many", "due"]) (sc := defScope s_law) (by decide +kernel)) (fun _ _ _ _ _ => (pg_name (i := 11) sc_law.nd rfl (by first | exact Or.inl rfl | exact Or.inr rfl))) (fun _ _ _ _ _ => pts_nil) (fun _ _ _ _ _ => (pe_dget2 (hu_of hr) (pv 9) (pv 11) pe_int (by constructor <;> (intros; rfl)))))))
      (pss_one (ps_ret (pe_and (pe_c0 c_alike1 (hr.mono (by decide)) (by rfl) (pa_cons (pe_cal c_settled_counts (hr.mono (by decide)) (by rfl) passL (pa_cons (pv 2) pa_nil)) (pa_cons (pv 12) pa_nil))) (pe_one (pe_cmpR op_eq (pe_callB (cr_sumT rfl) (by rfl) bsum (by rfl) (pa_cons (pv 12) pa_nil)) (pv 7) (nomark _)))))))))))))))))), ?_⟩
    -- the row
    refine ⟨_, rfl, (by show 4 ≤ sizeLine; decide), fun rr hrr => ?_⟩
    have X0 := Ext.new hrr (.lst [.ref sc, .int 0, .int 1309, .int 0])
    have R0 : Rw K (L2.upd H rr (.lst [.ref sc, .int 0, .int 1309, .int 0])) rr sc ns := ⟨⟨0, 1309, 0⟩, upd_same, ScrAt.new hsc hrr _, hlen, ⟨by decide, by decide, by decide⟩⟩
    have T0 := hTb.ext X0
    have TT0 := X0.own T _ own hTT
    generalize L2.upd H rr (.lst [.ref sc, .int 0, .int 1309, .int 0]) = H0 at X0 R0 T0 TT0 ⊢
    -- the web
    refine ⟨_, rfl, _, rfl, rr, sc, ns, _, rfl, R0, ⟨by decide, by decide⟩, fun H1 m1 E1 R1 _ hm1 => ⟨_, _, rfl, rfl, ?_⟩⟩
    refine ⟨_, rfl, rr, sc, ns, _, rfl, R1, ⟨by decide, by decide⟩, fun H2 m2 E2 R2 _ hm2 => ⟨_, _, rfl, rfl, ?_⟩⟩
    have T2 := (T0.extB E1).extB E2
    have TT2 := E2.own T _ own (E1.own T _ own TT0)
    refine ⟨rr, sc, ns, (1 + m1).toNat, 2, (1 + m2).toNat, by rw [show (((1 + m1).toNat : Nat) : Int) = 1 + m1 by omega, show (((1 + m2).toNat : Nat) : Int) = 1 + m2 by omega]; rfl, R2, ⟨by omega, by omega⟩, ⟨by decide, by decide⟩, by omega, fun H3 wv W E3 R3 hW3 ok hnw hmw => ?_⟩
    have T3 := T2.extB E3
    have TT3 := E3.own T _ own TT2
    clear R3 R2 R1 R0 T2 T0 TT2 TT0 E3 E2 E1 X0
    have S3 : LamX.TabS H3 T lamQ := LamX.TabS.nil TT3
    obtain ⟨wa, tv, lv, rfl, hwa, ⟨tt, rfl, htt⟩, hlv⟩ := id hW3
    have h6 := ok.few
    have hsome := ok.some_
    -- sizes, great
    refine ⟨(by show 0 ≤ sizeLine; decide), fun Sz hSz => ⟨_, _, rfl, ?_⟩⟩
    have eS := weak (Ext.new hSz (.lst []))
    have tS := tabS_own own (Ext.new hSz (.lst [])) S3
    have hSx : (L2.upd H3 Sz (.lst [])) Sz = some (.lst []) := upd_same
    generalize L2.upd H3 Sz (.lst []) = H4 at eS tS hSx ⊢
    refine ⟨_, rfl, wa, _, _, _, rfl, rfl, extF_tup eS hwa, rfl, _, _, rfl, .inr (extF_tup eS htt), _, rfl, by rw [iv_len]; omega, by rw [iv_len]; omega, ?_⟩
    have en : ((iv W.tops).length : Int).toNat = W.tops.length := by rw [iv_len]; omega
    rw [en]
    refine for_range (lo := 0) (n := W.tops.length) (fun i σ H' => ∃ (o5 o6 : Option V), σ = [some (.ref sc), some (.ref rr), some (.ref wa), some (.ref Sz), some (.bl (grTo W i)), o5, o6, none, none, none, none, none, none] ∧ ExtF H3 H' ∧ LamX.TabS H' T lamQ ∧ H' Sz = some (.lst (iv (szTo W i))))
      ⟨_, _, rfl, eS, tS, hSx⟩ ?_ ?_
    · rintro i σ H5 hi ⟨o5, o6, rfl, e5, t5, h5⟩
      have hW5 := extF_web e5 hW3
      have T5 := extF_tabs e5 T3
      have ht0 : 0 ≤ (0 : Int) + (i : Int) ∧ (0 : Int) + (i : Int) < W.tops.length := by omega
      have e0i : (0 : Int) + (i : Int) = (i : Int) := Int.zero_add _
      refine ⟨_, rfl, _, rfl, _, W, (0 : Int) + (i : Int), 3000, rfl, hW5, ok, ht0, by omega, fun hgt H6 e6 => ?_, fun hle H6 q e6 hq => ?_⟩
      case' refine_1 =>
        have lq := hgt
        have xq : V.non = V.non := rfl
      case' refine_2 =>
        obtain ⟨q', sv, eq, hq, hsv⟩ := hq
        cases eq
        have lq := hle
      all_goals
        have e36 := extF_trans e5 (weak e6)
        have t6 := tabS_own own e6 t5
        have h6z := e6.lst h5
        rw [e0i] at lq
        refine ⟨t6, fun H7 gr t7 Q' hq' => ?_⟩
        have x7 := grownExt t6 gr t7
        have e37 := extF_trans e36 x7
        have h7z := extF_lst x7 h6z
        refine ⟨_, rfl, _, rfl, _, W, (0 : Int) + (i : Int), rfl, extF_web e37 hW3, ok, ht0, extF_tabs e37 T3, fun hle' H8 q8 e8 hq8 => ?_, fun hgt' H8 d8 e8 hd8 hx8 => ?_⟩
      case' refine_1.refine_1 => exact absurd hle' (by rw [e0i]; omega)
      case' refine_2.refine_2 => exact absurd hgt' (by rw [e0i]; omega)
      case' refine_1.refine_2 =>
        refine ⟨rfl, d8, 3000, rfl, hx8, fun H9 p9 e9 hp9 hx9 => ?_⟩
        refine ⟨_, rfl, rfl, _, rfl, iteT ?_⟩
        refine ⟨(by show 2 ≤ sizeLine; decide), fun tw htw => ?_⟩
        have eW := Ext.new htw (.tup [.str "many", .int 3000])
        refine .inr (alike_word (K := K) (eW.tup hx9) upd_same fun H10 e10 => ⟨_, rfl, iteF ?_⟩)
        have eA := e8.trans (e9.trans (eW.trans e10))
        have e310 := extF_trans e37 (weak eA)
        have tA := tabS_own own eA t7
        have hA := eA.lst h7z
        have g1 : grTo W (i + 1) = true := by rw [grTo_succ, decide_eq_true lq, Bool.or_true]
        have s1 : szOf W (i : Int) = 0 := by unfold szOf; rw [if_pos lq]
        refine ⟨_, rfl, grTo W i, rfl, ?_⟩
        refine ite_of (fun hc => ?_) fun hc => ?_
        case' refine_2 => refine ⟨_, rfl, rfl, ?_⟩
        all_goals
          refine ⟨_, rfl, ⟨_, _, rfl, hA⟩, _, rfl, rfl, _, rfl, iteT ?_⟩
          refine ⟨Sz, _, _, rfl, rfl, hA, ?_, ?_⟩
          · rw [iv_len, szTo_len]
            exact small1000 (by omega)
          refine ⟨_, _, by rw [g1]; rfl, @Ext.put ⟨fun _ => False⟩ _ _ _ e310 hSz _, tabS_put tA hA, ?_⟩
          rw [upd_same, szTo_succ, s1]
          unfold iv
          rw [List.map_append]
          rfl
      case' refine_2.refine_1 =>
        refine hq' _ _ ?_
        refine ⟨_, rfl, rfl, _, rfl, iteF ?_⟩
        obtain ⟨q8', us, eq8, h8, hus⟩ := hq8
        cases eq8
        have hq7 := extF_lst x7 hq
        have hsv7 := extF_TI x7 hsv
        refine ⟨_, rfl, q, _, rfl, e8.lst hq7, fun tw htw => ?_⟩
        have eW := Ext.new htw (.tup sv)
        have lus := paired_len hus
        have lsv := paired_len hsv
        rw [e0i] at hus
        refine .inl ⟨_, tw, false, us, sv, rfl, eW.tup h8, upd_same, by rw [lus, lsv], by rw [lus, e0i]; omega, alike_rows2 (pTI.ext eW hus) (pTI.ext (e8.trans eW) (by rw [← e0i]; exact hsv7)) (fun r hr => ?tl), fun H10 e10 => ⟨_, rfl, iteF ?_⟩⟩
        case tl =>
          have h1 := table_len27 ok ((mem_tables ok).mp hr)
          omega
        have eA := e8.trans (eW.trans e10)
        have e310 := extF_trans e37 (weak eA)
        have tA := tabS_own own eA t7
        have hA := eA.lst h7z
        have hqA := eA.lst hq7
        have g1 : grTo W (i + 1) = grTo W i := by rw [grTo_succ, decide_eq_false (by omega), Bool.or_false]
        have s1 : szOf W (i : Int) = (sv.length : Int) := by unfold szOf; rw [if_neg (by omega), lsv, e0i]
        refine ⟨_, rfl, grTo W i, rfl, ?_⟩
        refine ite_of (fun hc => ?_) fun hc => ?_
        case' refine_2 => refine ⟨_, rfl, rfl, ?_⟩
        all_goals
          refine ⟨_, rfl, ⟨_, _, rfl, hA⟩, _, rfl, rfl, _, rfl, iteF ?_⟩
          refine ⟨_, rfl, q, _, rfl, .inl hqA, ?_⟩
          refine ⟨Sz, _, _, rfl, rfl, hA, ?_, ?_⟩
          · rw [iv_len, szTo_len]
            exact small1000 (by omega)
          refine ⟨_, _, by rw [g1, hc]; rfl, @Ext.put ⟨fun _ => False⟩ _ _ _ e310 hSz _, tabS_put tA hA, ?_⟩
          rw [upd_same, szTo_succ, s1]
          unfold iv
          rw [List.map_append]
          rfl
    · rintro σ H5 ⟨o5, o6, rfl, e5, t5, h5⟩
      -- whole
      refine ⟨_, rfl, Sz, rfl, ⟨_, SqL.of h5⟩, for_list (K := K) (a := Sz) (xs := iv (szTo W W.tops.length)) (fun i σ H' => ∃ (o8 : Option V), σ = [some (.ref sc), some (.ref rr), some (.ref wa), some (.ref Sz), some (.bl (grTo W W.tops.length)), o5, o6, some (.int (prodI ((szTo W W.tops.length).take i))), o8, none, none, none, none] ∧ H' = H5)
        ⟨_, rfl, rfl⟩ (fun i σ H' _ ⟨_, _, e⟩ => SqL.of (by rw [e]; exact h5)) ?_ ?_⟩
      · rintro i x σ H' hi ⟨o8, rfl, rfl⟩
        obtain ⟨y, hy, rfl⟩ := iv_get hi
        have hyb : 0 ≤ y ∧ y ≤ 3000 := by
          unfold szTo at hy
          rw [List.getElem?_map] at hy
          cases hf : (List.range W.tops.length)[i]? with
          | none => rw [hf] at hy; cases hy
          | some f =>
            rw [hf] at hy
            have e := Option.some.inj hy
            rw [← e]
            show 0 ≤ szOf W (f : Int) ∧ szOf W (f : Int) ≤ 3000
            unfold szOf
            split <;> omega
        refine ⟨_, rfl, _, rfl, _, _, rfl, rfl, .inr ⟨by omega, by omega⟩, ⟨_, by rw [take_snoc hy, prodI_snoc]; rfl, rfl⟩⟩
      rintro σ H' ⟨o8, rfl, rfl⟩
      rw [iv_len, List.take_length]
      have hW5 := extF_web e5 hW3
      have T5 := extF_tabs e5 T3
      refine ⟨t5, fun H7 gr t7 Q' hq' => ?_⟩
      have x7 := grownExt t5 gr t7
      have e37 := extF_trans e5 x7
      by_cases hg : grTo W W.tops.length = true
      case pos =>
        have gT : ∀ {P Q : Prop}, P → (if grTo W W.tops.length = true then P else Q) := fun {P Q} h => by rw [if_pos hg]; exact h
        have nf0 := gr_few hg
        refine ⟨_, rfl, _, W, rfl, extF_web e37 hW3, ok, extF_tabs e37 T3, fun few => absurd few nf0, fun _ H8 d8 e8 hd8 hx8 => ?_⟩
        refine ⟨rfl, d8, 3000, rfl, hx8, fun H9 p9 e9 hp9 hx9 => ?_⟩
        refine ⟨_, rfl, _, rfl, gT ?_⟩
        refine ⟨(by show 2 ≤ sizeLine; decide), fun tw htw => ?_⟩
        have eW := Ext.new htw (.tup [.str "many", .int 3000])
        refine .inr (alike_word (K := K) (eW.tup hx9) upd_same fun H10 e10 => ⟨_, rfl, iteF ?_⟩)
        have eA := e8.trans (e9.trans (eW.trans e10))
        have e310 := extF_trans e37 (weak eA)
        have tA := tabS_own own eA t7
        refine ⟨_, rfl, _, rfl, gT (iteT ?_)⟩
        refine ⟨tA, fun H11 gr2 t11 Q2 hq2 => ?_⟩
        have e311 := extF_trans e310 (grownExt tA gr2 t11)
        refine ⟨_, rfl, _, W, rfl, extF_web e311 hW3, ok, extF_tabs e311 T3, fun fr => absurd fr.one nf0, fun _ H12 d12 e12 hd12 hx12 => ⟨rfl, d12, 3000, rfl, hx12, fun H13 p13 e13 hp13 hx13 => ?_⟩, fun few => absurd few nf0⟩
        refine ⟨_, rfl, _, rfl, gT ⟨(by show 2 ≤ sizeLine; decide), fun tu htu => ?_⟩⟩
        exact ⟨3000, 3000, ⟨p13, rfl, (Ext.new htu _).tup hx13⟩, ⟨tu, rfl, upd_same⟩, by decide +kernel, by decide +kernel, by decide +kernel, k _⟩
      case neg =>
        have hg : grTo W W.tops.length = false := by simpa using hg
        have gF : ∀ {P Q : Prop}, Q → (if grTo W W.tops.length = true then P else Q) := fun {P Q} h => by rw [if_neg (by rw [hg]; decide)]; exact h
        have few := few_gr hg
        have pl := prod_lens few
        refine ⟨_, rfl, _, W, rfl, extF_web e37 hW3, ok, extF_tabs e37 T3, fun _ H8 e8 => ?_, fun nf => absurd few nf⟩
        refine hq' _ _ ?_
        refine ⟨_, rfl, _, rfl, gF ⟨_, rfl, .inl ⟨.inl ⟨_, by rw [pl]; rfl⟩, fun H10 e10 => ⟨_, rfl, iteF ?_⟩⟩⟩⟩
        have eA := e8.trans e10
        have e310 := extF_trans e37 (weak eA)
        have tA := tabS_own own eA t7
        refine ⟨_, rfl, _, rfl, gF ⟨_, rfl, _, _, rfl, rfl, _, rfl, ?_⟩⟩
        refine ite_of (fun hc => ?_) fun hc => ?_
        · have hbig : 20000 < lensOf (casesOf W) := by
            have := of_decide_eq_true hc
            omega
          refine ⟨tA, fun H11 gr2 t11 Q2 hq2 => ?_⟩
          have e311 := extF_trans e310 (grownExt tA gr2 t11)
          refine ⟨_, rfl, _, W, rfl, extF_web e311 hW3, ok, extF_tabs e311 T3, fun fr => ?_, fun nf => absurd few nf, fun _ _ H12 d12 e12 hd12 hx12 => ⟨rfl, d12, 20000, rfl, hx12, fun H13 p13 e13 hp13 hx13 => ?_⟩⟩
          · have h1 := fr.all W.tops.length
            rw [List.take_of_length_le (Nat.le_of_eq (cases_len W))] at h1
            omega
          refine ⟨_, rfl, _, rfl, gF ⟨(by show 2 ≤ sizeLine; decide), fun tu htu => ?_⟩⟩
          exact ⟨20000, 20000, ⟨p13, rfl, (Ext.new htu _).tup hx13⟩, ⟨tu, rfl, upd_same⟩, by decide +kernel, by decide +kernel, by decide +kernel, k _⟩
        refine ⟨_, rfl, _, _, rfl, rfl, _, rfl, ?_⟩
        refine ite_of (fun hc3 => k _) fun hc3 => ?_
        have h300 : lensOf (casesOf W) ≤ 300 := by
          have := of_decide_eq_false hc3
          omega
        have fr := fewR_of ok few (by omega)
        have fe := few_every ok h300
        have hW10 := extF_web e310 hW3
        have T10 := extF_tabs e310 T3
        generalize hv : V.ref wa = wv at hW10
        clear gr x7 e37 e8 e10 eA e310 tA t7 e5 t5 hW5 T5 h5 hc hc3
        refine fun d hd => ?_
        have ed := Ext.new hd (.dK [])
        refine ⟨_, rfl, _, W, 300, rfl, hW10.ext ed, ok, by decide, fun hn => absurd fe hn, fun few1 few2 HE q us eE hq hus => ?_⟩
        have hdE : HE d = some (.dK []) := eE.keep _ _ upd_same rfl
        have hWE := cut_web hdE (hW10.ext (ed.trans eE))
        have TE := cut_tabs hdE ((T10.ext ed).ext eE)
        have hqE := cut_lst hdE hq
        have husE := paired_mono (fun _ _ r => cut_TT2 hdE r) hus
        have hdC : cutH HE d d = none := cut_at
        have eC := cut_ext HE d
        generalize cutH HE d = HC at hWE TE hqE husE hdC eC
        have lus := paired_len husE
        clear hus eE hd ed hW10 T10
        have lru : (rulesAll (casesOf W)).length ≤ 300 := by
          have e : rulesAll (casesOf W) = rulesAll ((casesOf W).take W.tops.length) := by rw [List.take_of_length_le (Nat.le_of_eq (cases_len W))]
          rw [e, rules_len _ _ (Nat.le_of_eq (cases_len W).symm)]
          exact few2 _ (by omega) (Nat.le_refl _)
        refine ⟨q, rfl, ⟨_, SqL.of hq⟩, for_list (K := K) (a := q) (xs := us) (fun i σ H' => ∃ (keys : List Nat) (o10 o11 : Option V), σ = [some (.ref sc), some (.ref rr), some wv, some (.ref Sz), some (.bl (grTo W W.tops.length)), o5, o6, some (.int (prodI (szTo W W.tops.length))), o8, some (.ref d), o10, o11, none] ∧ Ext HC H' ∧ H' d = some (.dK (kvN keys ((numbersOf W).take i))) ∧ (∀ n, n ∈ keys ↔ n ∈ (numbersOf W).take i) ∧ keys.length ≤ i)
          ⟨[], _, _, rfl, eC, hdE, fun n => Iff.rfl, by simp⟩ (fun i σ H' _ ⟨_, _, _, _, e, _⟩ => SqL.of (e.lst hqE)) ?_ ?_⟩
        · rintro i x σ H' hi ⟨keys, o10, o11, rfl, e, hd1, hk, lk⟩
          have hi2 : i < us.length := (List.getElem?_eq_some_iff.mp hi).1
          obtain ⟨ru, hru, hx⟩ := paired_get' (paired_mono (fun _ _ r => TT2.ext e r) husE) hi
          obtain ⟨r0, hbad⟩ := (all_rules ok).mp (List.mem_of_getElem? hru)
          refine ⟨_, rfl, _, rfl, _, _, W, ru, rfl, hWE.ext e, ok, hx, rules_ok r0 hbad, fun H3 v e3 hv => ?_⟩
          obtain ⟨_, vs, ev, hv, hvs⟩ := hv
          cases ev
          have lvs := paired_len hvs
          have hnum : (numbersOf W)[i]? = some vs.length := by
            rw [numbers_eq, List.getElem?_map, hru, lvs]
            rfl
          refine ⟨_, _, rfl, .inl hv, ?_⟩
          have hd3 := e3.keep _ _ hd1 rfl
          have hval : ((valV (kvN keys ((numbersOf W).take i)) (Sum.inl (vs.length : Int))).getD (.int 0)) = .int (((((numbersOf W).take i).count vs.length : Nat)) : Int) := by
            rw [kvN_val]
            by_cases hm : vs.length ∈ keys
            · rw [if_pos hm]
              rfl
            · rw [if_neg hm, List.count_eq_zero.mpr fun h => hm ((hk _).mpr h)]
              rfl
          obtain ⟨keys', p1, p2, p3⟩ := kvN_put hk vs.length
          refine ⟨_, rfl, d, rfl, (.inl ⟨_, .inl hd3⟩), _, rfl, _, DGet.k (k := Sum.inl (vs.length : Int)) hd3, _, _, hval, rfl, _, rfl, _, rfl, d, _, rfl, DPut.k (k := Sum.inl (vs.length : Int)) hd3 ?_, ?_⟩
          · show List.length (List.map _ _) < _
            rw [List.length_map]
            exact small1000 (by omega)
          · refine ⟨keys', _, _, rfl, (e.trans e3).put hdC _, ?_, ?_, by omega⟩
            · rw [upd_same, p1, take_snoc hnum]
            · rw [take_snoc hnum]
              exact p2
        rintro σ H' ⟨keys, o10, o11, rfl, e, hd1, hk, lk⟩
        have eT : (numbersOf W).take us.length = numbersOf W := List.take_of_length_le (by rw [numbers_eq, List.length_map]; omega)
        rw [eT] at hd1 hk
        have hne : numbersOf W ≠ [] := numbers_some ok
        have hkl : ∀ n : Int, n ∈ natInts keys ↔ n ∈ natInts (numbersOf W) := fun n => by
          unfold natInts
          rw [List.mem_map, List.mem_map]
          exact ⟨fun ⟨m, h1, h2⟩ => ⟨m, (hk m).mp h1, h2⟩, fun ⟨m, h1, h2⟩ => ⟨m, (hk m).mpr h1, h2⟩⟩
        have kpos : 0 < (natInts keys).length := by
          obtain ⟨n, hn⟩ := List.exists_mem_of_ne_nil _ hne
          exact List.length_pos_of_mem ((hkl _).mpr (List.mem_map.mpr ⟨n, hn, rfl⟩))
        have ekeys : (kvN keys (numbersOf W)).map (fun kv => kV kv.1) = iv (natInts keys) := by
          unfold kvN natInts iv
          rw [List.map_map, List.map_map]
          rfl
        refine ⟨_, rfl, d, _, rfl, hd1, fun q3 hq3 => ?_⟩
        rw [ekeys]
        have eq3 := Ext.new hq3 (.lst (iv (natInts keys)))
        refine ⟨q3, natInts keys, rfl, SqL.of upd_same, kpos, fun m h1 h2 => ?_⟩
        have hm1 := (hkl m).mp h1
        have hm2 : ∀ y ∈ natInts (numbersOf W), y ≤ m := fun y hy => h2 y ((hkl y).mpr hy)
        have em : m = maxFrom 0 (natInts (numbersOf W)) := maxFrom_of (fun y hy => by
          obtain ⟨n, _, rfl⟩ := List.mem_map.mp hy
          omega) hm1 hm2
        have mb : 0 ≤ m ∧ m ≤ 4096 := by
          obtain ⟨n, hn, rfl⟩ := List.mem_map.mp hm1
          obtain ⟨left, hl, rfl⟩ := List.mem_map.mp hn
          have h3 := (lefts_sub W (casesOf W) _ left hl).length_le
          have h1 := rows_len4 (tops := W.tops) (fun t ht => (ok.tops t ht).2) [[]]
          have h2 : 4 ^ W.tops.length ≤ 4 ^ 6 := Nat.pow_le_pow_right (by decide) ok.few
          simp only [List.length_singleton, Nat.one_mul] at h1
          have h4 : (rowsOf W.tops).length ≤ 4096 := Nat.le_trans h1 h2
          omega
        have hd5 := eq3.keep _ _ hd1 rfl
        refine ⟨_, _, rfl, rfl, _, rfl, by omega, by omega, fun D9 hD9 => ?_⟩
        refine lc_toIR (lo := 0) (n := (m + 1).toNat) (fun n => (((numbersOf W).count n.toNat : Nat) : Int)) hD9 (Nat.le_trans (show (m + 1).toNat ≤ 5000 by omega) (by decide)) (fun n H6 Ky e6 hn0 hn1 k1 => ?_) fun H6 e6 h6 => ?_
        · have hd6 := e6.keep _ _ hd5 rfl
          have en : n = ((n.toNat : Nat) : Int) := by omega
          have hval : ((valV (kvN keys (numbersOf W)) (Sum.inl n)).getD (.int 0)) = .int ((((numbersOf W).count n.toNat : Nat)) : Int) := by
            rw [en, kvN_val, Int.toNat_natCast]
            by_cases hm : n.toNat ∈ keys
            · rw [if_pos hm]
              rfl
            · rw [if_neg hm, List.count_eq_zero.mpr fun h => hm ((hk _).mpr h)]
              rfl
          refine ⟨rfl, _, rfl, d, rfl, (.inl ⟨_, .inl hd6⟩), _, rfl, _, DGet.k (k := Sum.inl n) hd6, ?_⟩
          rw [hval]
          exact k1 _ (Ext.refl _)
        have ecnt : (nums 0 (0 + ((m + 1).toNat : Int))).map (fun n => (((numbersOf W).count n.toNat : Nat) : Int)) = countsOf (numbersOf W) := by
          rw [Int.zero_add, nums_nat, List.map_map]
          unfold countsOf cntTo
          rw [← em]
          rfl
        rw [ecnt] at h6
        refine ⟨D9, _, rfl, h6, fun tu htu => ?_⟩
        have etu := Ext.new htu (.tup (iv (countsOf (numbersOf W))))
        have E7 := e.trans ((eq3.trans e6).trans etu)
        refine ⟨_, rfl, _, W, rfl, hWE.ext E7, ok, TE.ext E7, fun _ H8 q8 e8 hq8 => ?_, fun nf => absurd few nf, fun _ hgt => absurd hgt (by omega)⟩
        refine ⟨_, rfl, q8, tu, false, _, _, rfl, hq8, e8.tup upd_same, rfl, ?_, alike_ints _, fun H9 e9 => ?_⟩
        · unfold countsOf
          rw [iv_len, cntTo_len, ← em]
          omega
        refine ⟨_, rfl, iteT ?_⟩
        refine ⟨_, rfl, _, _, rfl, ⟨tu, rfl, (e8.trans e9).tup upd_same⟩, _, rfl, rfl, ?_⟩
        rw [counts_sum, pl, decide_eq_true rfl]
        exact k _
end
end Lk


/-! ## FnU -/
set_option Elab.async false
set_option linter.all false
/-! A def's promise, with more room; one of two promises. -/
namespace Lk
open PySem PySem.Spec PyProof.Rows L2
variable {P : Program} {w : World} {K : PySem.W.Frag} {mg : Str → Option Value} {base : Heap} {CX : CXT} {k k' : Nat} {f : Addr} {fd : FuncData} {ps : List Str} {sp sp' : Sp}
theorem fn_up (h : k ≤ k') (F : FnOk P w K mg base CX k f fd ps sp) : FnOk P w K mg base CX k' f fd ps sp :=
  ⟨F.len, fun A outer s H args us vs Q E hr => F.run A outer s H args us vs Q E (hr.mono h)⟩
theorem fn_or (F : FnOk P w K mg base CX k f fd ps sp) (F' : FnOk P w K mg base CX k f fd ps sp') : FnOk P w K mg base CX k f fd ps (fun vs H Q E => sp vs H Q E ∨ sp' vs H Q E) :=
  ⟨fun vs H Q E h => h.elim (F.len vs H Q E) (F'.len vs H Q E), fun A outer s H args us vs Q E hr he hb hv hs => hs.elim (F.run A outer s H args us vs Q E hr he hb hv) (F'.run A outer s H args us vs Q E hr he hb hv)⟩
end Lk

/-! ## EndK09 -/
set_option Elab.async false
set_option linter.all false
set_option maxRecDepth 100000
set_option maxHeartbeats 4000000
/-! All defs of the heap behind the program's lines, joined to the law. -/
namespace Lk
open PySem PySem.Spec PyProof.Rows L2 Gx
structure Names (K : PySem.W.Frag) : Prop where
  n_isi : PySem.W.nsIn K mainGlobals "isinstance" = some none
  n_int : PySem.W.nsIn K mainGlobals "int" = some none
  n_bool : PySem.W.nsIn K mainGlobals "bool" = some none
  n_tuple : PySem.W.nsIn K mainGlobals "tuple" = some none
  n_list : PySem.W.nsIn K mainGlobals "list" = some none
  n_set : PySem.W.nsIn K mainGlobals "set" = some none
  n_len : PySem.W.nsIn K mainGlobals "len" = some none
  n_all : PySem.W.nsIn K mainGlobals "all" = some none
  n_range : PySem.W.nsIn K mainGlobals "range" = some none
  n_sorted : PySem.W.nsIn K mainGlobals "sorted" = some none
  n_enum : PySem.W.nsIn K mainGlobals "enumerate" = some none
  n_zip : PySem.W.nsIn K mainGlobals "zip" = some none
  n_max : PySem.W.nsIn K mainGlobals "max" = some none
  n_str : PySem.W.nsIn K mainGlobals "str" = some none
  n_sup : PySem.W.nsIn K mainGlobals "super" = some none
  n_min : PySem.W.nsIn K mainGlobals "min" = some none
  n_any : PySem.W.nsIn K mainGlobals "any" = some none
  n_sum : PySem.W.nsIn K mainGlobals "sum" = some none
  n_dict : PySem.W.nsIn K mainGlobals "dict" = some none
  n_MOST_FOLK : ∃ t, PySem.W.nsIn K mainGlobals "MOST_FOLK" = some (some (.int 6 t))
  n_MOST_TOP : ∃ t, PySem.W.nsIn K mainGlobals "MOST_TOP" = some (some (.int 3 t))
  n_MOST_LOOKS : ∃ t, PySem.W.nsIn K mainGlobals "MOST_LOOKS" = some (some (.int 14 t))
  n_MOST_LOOKS_OF_ONE : ∃ t, PySem.W.nsIn K mainGlobals "MOST_LOOKS_OF_ONE" = some (some (.int 4 t))
  n_MOST_TABLES : ∃ t, PySem.W.nsIn K mainGlobals "MOST_TABLES" = some (some (.int 3000 t))
  n_MOST_RULES : ∃ t, PySem.W.nsIn K mainGlobals "MOST_RULES" = some (some (.int 20000 t))
theorem Names.blt {K : PySem.W.Frag} {h : Heap} {mg : Str → Option Value} (N : Names K) (X : K.In h) (G : h.Ns mainGlobals mg) : @Blt mg :=
  ⟨PySem.W.mg_none_of X G N.n_isi, PySem.W.mg_none_of X G N.n_int, PySem.W.mg_none_of X G N.n_bool, PySem.W.mg_none_of X G N.n_tuple, PySem.W.mg_none_of X G N.n_list, PySem.W.mg_none_of X G N.n_set, PySem.W.mg_none_of X G N.n_len, PySem.W.mg_none_of X G N.n_all, PySem.W.mg_none_of X G N.n_range, PySem.W.mg_none_of X G N.n_sorted, PySem.W.mg_none_of X G N.n_enum, PySem.W.mg_none_of X G N.n_zip, PySem.W.mg_none_of X G N.n_max, PySem.W.mg_none_of X G N.n_str, PySem.W.mg_none_of X G N.n_sup⟩
theorem Names.nums {K : PySem.W.Frag} {h : Heap} {mg : Str → Option Value} (N : Names K) (X : K.In h) (G : h.Ns mainGlobals mg) : @Nums mg :=
  ⟨let ⟨t, e⟩ := N.n_MOST_FOLK; ⟨t, PySem.W.mg_of X G e⟩, let ⟨t, e⟩ := N.n_MOST_TOP; ⟨t, PySem.W.mg_of X G e⟩, let ⟨t, e⟩ := N.n_MOST_LOOKS; ⟨t, PySem.W.mg_of X G e⟩, let ⟨t, e⟩ := N.n_MOST_LOOKS_OF_ONE; ⟨t, PySem.W.mg_of X G e⟩⟩
theorem law_mk {l : PySem.W.OpenLaw} {w : World} {K : PySem.W.Frag} {h : Heap} {mg : Str → Option Value} {fa TL T0 T1  : Addr} {q : Program} (X : K.In h) (G : h.Ns mainGlobals mg) (hfa : mg "law" = some (.ref fa)) (TA : TabAll q mg h) (nt : noTbl K = true) (N : Names K)
   (MG : ∃ CF C fI cc, Mn.BadTxt l.prog K mg C fI cc ∧ WrdG K mg CF C)
    (r_are_tops : ((recsOf q).any fun e => e.name == "are_tops") = true)
    (r_are_looks : ((recsOf q).any fun e => e.name == "are_looks") = true)
    (r_law : ((recsOf q).any fun e => e.name == "law") = true)
    (a_is_whole : FnAt K "is_whole" sIsWhole)
    (a_are_tops : FnTb K "are_tops" s_are_tops T0)
    (a_is_look : FnAt K "is_look" s_is_look)
    (a_are_looks : FnTb K "are_looks" s_are_looks T1)
    (a_wrong_part : FnAt K "wrong_part" s_wrong_part)
    (a_check_web : FnAt K "check_web" s_check_web)
    (a_check_folk : FnAt K "check_folk" s_check_folk)
    (a_looks_of : FnAt K "looks_of" s_looks_of)
    (a_rows_of : FnAt K "rows_of" s_rows_of)
    (a_many_rows : FnAt K "many_rows" s_many_rows)
    (a_ways_of : FnAt K "ways_of" s_ways_of)
    (a_place_seen : FnAt K "place_seen" s_place_seen)
    (a_next_moods : FnAt K "next_moods" s_next_moods)
    (a_all_tables : FnAt K "all_tables" s_all_tables)
    (a_tables_of_all : FnAt K "tables_of_all" s_tables_of_all)
    (a_many_choices : FnAt K "many_choices" s_many_choices)
    (a_settled_by_choices : FnAt K "settled_by_choices" s_settled_by_choices)
    (a_tables : FnAt K "tables" s_tables)
    (a_count_rules : FnAt K "count_rules" s_count_rules)
    (a_settled_counts : FnAt K "settled_counts" s_settled_counts)
    (a__law_taken : FnAt K "_law_taken" s__law_taken)
    (a__law_web : FnAt K "_law_web" s__law_web)
    (a__law_seen : FnAt K "_law_seen" s__law_seen)
    (a__law_moods : FnAt K "_law_moods" s__law_moods)
    (a__law_goes : FnAt K "_law_goes" s__law_goes)
    (a__law_tables : FnAt K "_law_tables" s__law_tables)
    (a__law_every : FnAt K "_law_every" s__law_every)
    (a__law_told : FnAt K "_law_told" s__law_told)
    (a__law_behind : FnAt K "_law_behind" s__law_behind)
    (a__law_settled : FnAt K "_law_settled" s__law_settled)
    (a__law_word : FnAt K "_law_word" s__law_word)
    (a_alike : FnAt K "_law_alike" s__law_alike) (a_law : FnTb K "law" s_law TL)
    (d0 : T0 ≠ TL) (d1 : T1 ≠ TL) : LamX.LawAtS l w K CX0 10 63 "script" mg fa h := by
  obtain ⟨CF, C, fI, cc, TM, TW⟩ := MG
  obtain ⟨c0, t0⟩ := a_are_tops.tab X G TA r_are_tops
  obtain ⟨c1, t1⟩ := a_are_looks.tab X G TA r_are_looks
  obtain ⟨cL, tL⟩ := a_law.tab X G TA r_law
  obtain ⟨f, fd, hm, F, oc, od, kV, doc, pm, an, ct, osl, e, lk, hcd⟩ := id tL.fn
  rw [hm] at hfa
  cases hfa
  letI : Own := ⟨fun a => a = TL⟩
  have B : Blt mg := N.blt X G
  have M : Nums mg := N.nums X G
  have bmin : mg "min" = none := PySem.W.mg_none_of X G N.n_min
  have K_MOST_TABLES : ∃ t, mg "MOST_TABLES" = some (.int 3000 t) := let ⟨t, e⟩ := N.n_MOST_TABLES; ⟨t, PySem.W.mg_of X G e⟩
  have K_MOST_RULES : ∃ t, mg "MOST_RULES" = some (.int 20000 t) := let ⟨t, e⟩ := N.n_MOST_RULES; ⟨t, PySem.W.mg_of X G e⟩
  have bany : mg "any" = none := PySem.W.mg_none_of X G N.n_any
  have bsum : mg "sum" = none := PySem.W.mg_none_of X G N.n_sum
  have bdict : mg "dict" = none := PySem.W.mg_none_of X G N.n_dict
  refine ⟨fd, [(c0, T0), (c1, T1), (cL, TL)], spLaw K [T0, T1] TL, (by
    intro p hp
    simp only [List.mem_cons, List.not_mem_nil, or_false] at hp
    rcases hp with e | e | e
    · rw [e]; exact t0.none
    · rw [e]; exact t1.none
    · rw [e]; exact tL.none
    ), (by
    intro p hp
    simp only [List.mem_cons, List.not_mem_nil, or_false] at hp
    rcases hp with e | e | e
    · rw [e]; exact noTbl_at nt X t0.none
    · rw [e]; exact noTbl_at nt X t1.none
    · rw [e]; exact noTbl_at nt X tL.none
    ), (by
    intro p hp
    simp only [List.mem_cons, List.not_mem_nil, or_false] at hp
    rcases hp with e | e | e
    · rw [e]; exact t0.hd
    · rw [e]; exact t1.hd
    · rw [e]; exact tL.hd
    ), ?_, ?_, ?_⟩
  · intro s u
    rw [e]
    exact .of_eq rfl
  · intro H a ns hl hb hH hS
    refine ⟨a, ns, rfl, hS, hl, fun p hp => ?_, hH (cL, TL) (by simp), fun _ => rfl⟩
    simp only [List.mem_cons, List.not_mem_nil, or_false] at hp
    rcases hp with e | e
    · rw [e]; exact ⟨#[], hH (c0, T0) (by simp), trivial⟩
    · rw [e]; exact ⟨#[], hH (c1, T1) (by simp), trivial⟩
  · intro base XB GB tb
    have tb0 := tb (c0, T0) (by simp)
    have tb1 := tb (c1, T1) (by simp)
    have tbL := tb (cL, TL) (by simp)
    generalize hPs : ([T0, T1] : List Addr) = Ps
    have m0 : T0 ∈ Ps := by rw [← hPs]; simp
    have m1 : T1 ∈ Ps := by rw [← hPs]; simp
    clear hPs
    have c_is_whole : Cal l.prog w K mg base CX0 1 "is_whole" ["value", "least", "most"] spIsWhole := a_is_whole.cal X G (fun _ _ _ _ _ _ us hl => match us, hl with | [_, _, _], _ => rfl) fun f fd F => ok_is_whole F B.isi B.int B.bool
    have c_are_tops : Cal l.prog w K mg base CX0 3 "are_tops" ["value"] (spAreTops Ps) := t0.cal m0 d0 tb0 (fun _ _ _ _ _ _ us hl => match us, hl with | [_], _ => rfl) fun f fd F => ok_are_tops F B M c_is_whole
    have c_is_look : Cal l.prog w K mg base CX0 2 "is_look" ["value", "many"] spIsLook := a_is_look.cal X G (fun _ _ _ _ _ _ us hl => match us, hl with | [_, _], _ => rfl) fun f fd F => ok_is_look F B c_is_whole
    have c_are_looks : Cal l.prog w K mg base CX0 4 "are_looks" ["value", "many"] (spAreLooks Ps) := t1.cal m1 d1 tb1 (fun _ _ _ _ _ _ us hl => match us, hl with | [_, _], _ => rfl) fun f fd F => ok_are_looks F B M c_is_look
    have c_wrong_part : Cal l.prog w K mg base CX0 5 "wrong_part" ["web"] (spWrongPart Ps) := a_wrong_part.cal X G (fun _ _ _ _ _ _ us hl => match us, hl with | [_], _ => rfl) fun f fd F => ok_wrong_part F B c_are_tops c_are_looks
    have c_check_web : Cal l.prog w K mg base CX0 6 "check_web" ["web"] (spCheckWeb Ps) := a_check_web.cal X G (fun _ _ _ _ _ _ us hl => match us, hl with | [_], _ => rfl) fun f fd F => ok_check_web F c_wrong_part
    have c_check_folk : Cal l.prog w K mg base CX0 2 "check_folk" ["web", "folk"] spCheckFolk := a_check_folk.cal X G (fun _ _ _ _ _ _ us hl => match us, hl with | [_, _], _ => rfl) fun f fd F => ok_check_folk F B c_is_whole
    have c_looks_of : Cal l.prog w K mg base CX0 1 "looks_of" ["web", "folk"] spLooksOf := a_looks_of.cal X G (fun _ _ _ _ _ _ us hl => match us, hl with | [_, _], _ => rfl) fun f fd F => ok_looks_of F
    have c_rows_of : Cal l.prog w K mg base CX0 1 "rows_of" ["tops"] spRowsOf := a_rows_of.cal X G (fun _ _ _ _ _ _ us hl => match us, hl with | [_], _ => rfl) fun f fd F => ok_rows_of F B
    have c_many_rows : Cal l.prog w K mg base CX0 2 "many_rows" ["web", "folk"] spManyRows := a_many_rows.cal X G (fun _ _ _ _ _ _ us hl => match us, hl with | [_, _], _ => rfl) fun f fd F => ok_many_rows F c_looks_of
    have c_ways_of : Cal l.prog w K mg base CX0 2 "ways_of" ["web", "folk"] spWaysOf := a_ways_of.cal X G (fun _ _ _ _ _ _ us hl => match us, hl with | [_, _], _ => rfl) fun f fd F => ok_ways_of F c_looks_of
    have c_place_seen : Cal l.prog w K mg base CX0 2 "place_seen" ["web", "state", "folk"] spPlaceSeen := a_place_seen.cal X G (fun _ _ _ _ _ _ us hl => match us, hl with | [_, _, _], _ => rfl) fun f fd F => ok_place_seen F c_looks_of
    have c_next_moods : Cal l.prog w K mg base CX0 1 "next_moods" ["top", "ways", "table"] spNextMoods := a_next_moods.cal X G (fun _ _ _ _ _ _ us hl => match us, hl with | [_, _, _], _ => rfl) fun f fd F => ok_next_moods F B bmin
    have c_all_tables : Cal l.prog w K mg base (L2.CX l.prog w) 3 "all_tables" ["web", "folk"] (spAllTablesX C) := a_all_tables.cal X G (fun _ _ _ _ _ _ us hl => match us, hl with | [_, _], _ => rfl) fun f fd F => ok_all_tablesX F B ⟨K_MOST_TABLES, K_MOST_RULES⟩ TM c_ways_of c_many_rows c_next_moods
    have c_tables_of_all : Cal l.prog w K mg base (L2.CX l.prog w) 4 "tables_of_all" ["web"] (spTablesOfAllX C) := a_tables_of_all.cal X G (fun _ _ _ _ _ _ us hl => match us, hl with | [_], _ => rfl) fun f fd F => ok_tables_of_allX F B c_all_tables
    have c_many_choices : Cal l.prog w K mg base CX0 1 "many_choices" ["choices"] spManyChoices := a_many_choices.cal X G (fun _ _ _ _ _ _ us hl => match us, hl with | [_], _ => rfl) fun f fd F => ok_many_choices F B
    have c_settled_by_choices : Cal l.prog w K mg base CX0 3 "settled_by_choices" ["web", "choices"] spSettledByC := a_settled_by_choices.cal X G (fun _ _ _ _ _ _ us hl => match us, hl with | [_, _], _ => rfl) fun f fd F => ok_settled_by_choices F B c_rows_of c_place_seen
    have c_tables : Cal l.prog w K mg base (L2.CX l.prog w) 7 "tables" ["web", "folk"] (spTablesX Ps C) := a_tables.cal X G (fun _ _ _ _ _ _ us hl => match us, hl with | [_, _], _ => rfl) fun f fd F => ok_tablesX F c_check_web c_check_folk c_all_tables
    have c_count_rules : Cal l.prog w K mg base (L2.CX l.prog w) 7 "count_rules" ["web"] (spCountRulesX Ps C) := a_count_rules.cal X G (fun _ _ _ _ _ _ us hl => match us, hl with | [_], _ => rfl) fun f fd F => ok_count_rulesX F c_check_web c_tables_of_all c_many_choices
    have c_settled_counts : Cal l.prog w K mg base (L2.CX l.prog w) 7 "settled_counts" ["web"] (spSettledCountsX Ps C) := a_settled_counts.cal X G (fun _ _ _ _ _ _ us hl => match us, hl with | [_], _ => rfl) fun f fd F => ok_settled_countsX F B ⟨K_MOST_TABLES, K_MOST_RULES⟩ TM c_check_web c_tables_of_all c_many_choices c_settled_by_choices
    have c__law_taken : Cal l.prog w K mg base CX0 1 "_law_taken" ["row", "many"] (spTaken K) := a__law_taken.cal X G (fun _ _ _ _ _ _ us hl => match us, hl with | [_, _], _ => rfl) fun f fd F => ok_taken F B
    have c__law_web : Cal l.prog w K mg base CX0 2 "_law_web" ["row", "folk", "most", "looks"] (spLawWeb K) := a__law_web.cal X G (fun _ _ _ _ _ _ us hl => match us, hl with | [_, _, _, _], _ => rfl) fun f fd F => ok_law_web F B c__law_taken
    have c__law_seen : Cal l.prog w K mg base CX0 1 "_law_seen" ["web", "folk"] spLawSeen := a__law_seen.cal X G (fun _ _ _ _ _ _ us hl => match us, hl with | [_, _], _ => rfl) fun f fd F => ok_law_seen F
    have c__law_moods : Cal l.prog w K mg base CX0 1 "_law_moods" ["tops"] spLawMoods := a__law_moods.cal X G (fun _ _ _ _ _ _ us hl => match us, hl with | [_], _ => rfl) fun f fd F => ok_law_moods F B
    have c__law_goes : Cal l.prog w K mg base CX0 1 "_law_goes" ["signs", "one", "other"] spLawGoes := a__law_goes.cal X G (fun _ _ _ _ _ _ us hl => match us, hl with | [_, _, _], _ => rfl) fun f fd F => ok_law_goes F B
    have c__law_tables : Cal l.prog w K mg base CX0 2 "_law_tables" ["web", "folk", "most"] spLawTables := a__law_tables.cal X G (fun _ _ _ _ _ _ us hl => match us, hl with | [_, _, _], _ => rfl) fun f fd F => ok_law_tables F B bmin c__law_seen c__law_moods c__law_goes
    have c__law_every : Cal l.prog w K mg base CX0 3 "_law_every" ["web", "most"] spLawEvery := a__law_every.cal X G (fun _ _ _ _ _ _ us hl => match us, hl with | [_, _], _ => rfl) fun f fd F => ok_law_every F B c__law_tables
    have c__law_told : Cal l.prog w K mg base CX0 2 "_law_told" ["web", "rules", "state", "folk"] spLawTold := a__law_told.cal X G (fun _ _ _ _ _ _ us hl => match us, hl with | [_, _, _, _], _ => rfl) fun f fd F => ok_law_told F B c__law_seen c__law_moods
    have c__law_behind : Cal l.prog w K mg base CX0 3 "_law_behind" ["web", "rules", "state"] spLawBehind := a__law_behind.cal X G (fun _ _ _ _ _ _ us hl => match us, hl with | [_, _, _], _ => rfl) fun f fd F => ok_law_behind F B c__law_told
    have c__law_settled : Cal l.prog w K mg base CX0 4 "_law_settled" ["web", "rules"] spLawSettled := a__law_settled.cal X G (fun _ _ _ _ _ _ us hl => match us, hl with | [_, _], _ => rfl) fun f fd F => ok_law_settled F B c__law_moods c__law_behind
    obtain ⟨gW, cdW, GW⟩ := a__law_word.gdef X G (fun _ _ _ _ _ _ us hl => match us, hl with | [_], _ => rfl)
    have c_alike0 : Cal l.prog w K mg base CX0 1 "_law_alike" ["found", "due"] spAlike0 := a_alike.cal X G (fun _ _ _ _ _ _ us hl => match us, hl with | [_, _], _ => rfl) fun f fd F => ok_alike0 F B
    have c_alike1 : Cal l.prog w K mg base CX0 2 "_law_alike" ["found", "due"] (spAlikeS spAlike0) := a_alike.cal X G (fun _ _ _ _ _ _ us hl => match us, hl with | [_, _], _ => rfl) fun f fd F => ok_alikeS (fun vs H Q E h => by rcases h.1 with ⟨i, e⟩ | ⟨i, e⟩ <;> (rw [e]; rfl)) F B c_alike0
    have c_alike2 : Cal l.prog w K mg base CX0 3 "_law_alike" ["found", "due"] (spAlikeS (spAlikeS spAlike0)) := a_alike.cal X G (fun _ _ _ _ _ _ us hl => match us, hl with | [_, _], _ => rfl) fun f fd F => ok_alikeS (fun vs H Q E h => by obtain ⟨a, b, k, xs, ys, e, _⟩ := h; rw [e]; rfl) F B c_alike1
    have c_alikeW : Cal l.prog w K mg base CX0 1 "_law_alike" ["found", "due"] spAlikeW := a_alike.cal X G (fun _ _ _ _ _ _ us hl => match us, hl with | [_, _], _ => rfl) fun f fd F => ok_alikeW F B
    have c_alikeB : Cal l.prog w K mg base CX0 2 "_law_alike" ["found", "due"] (fun vs H Q E => spAlikeW vs H Q E ∨ spAlikeS spAlikeW vs H Q E) := a_alike.cal X G (fun _ _ _ _ _ _ us hl => match us, hl with | [_, _], _ => rfl) fun f fd F => fn_or (fn_up (by decide) (ok_alikeW F B)) (ok_alikeS (n := 0) (fun vs H Q E h => by rcases h.1 with ⟨i, e⟩ | ⟨i, e⟩ | ⟨i, e⟩ <;> (rw [e]; rfl)) F B c_alikeW)
    have c_alikeA : Cal l.prog w K mg base CX0 3 "_law_alike" ["found", "due"] (fun vs H Q E => spAlikeS (spAlikeS spAlike0) vs H Q E ∨ spAlikeS spAlikeW vs H Q E) := a_alike.cal X G (fun _ _ _ _ _ _ us hl => match us, hl with | [_, _], _ => rfl) fun f fd F => fn_or (ok_alikeS (n := 1) (fun vs H Q E h => by obtain ⟨a, b, k, xs, ys, e, _⟩ := h; rw [e]; rfl) F B c_alike1) (fn_up (by decide) (ok_alikeS (n := 0) (fun vs H Q E h => by rcases h.1 with ⟨i, e⟩ | ⟨i, e⟩ | ⟨i, e⟩ <;> (rw [e]; rfl)) F B c_alikeW))
    exact ok_law ⟨⟨oc, od, kV, doc, pm, an, cL, ct, osl, e, lk, hcd, tbL⟩⟩ rfl B bsum GW TW c__law_taken c__law_web c__law_tables c__law_every c__law_settled c_alike1 c_alikeA c_alikeB c_tables c_count_rules c_settled_counts
end Lk

/-! ## HeadK09 -/
set_option Elab.async false
open PySem PySem.W PyProof.Rows in
set_option maxRecDepth 100000 in
set_option maxHeartbeats 0 in
theorem PySem.Challenge.cw_likespite_k09_whole_tables_holds : PySem.Challenge.rw_likespite_k09_whole_tables.Holds := by
  w_on; o_law; k_head; (case hw => w_witness2)
  k_fill
  refine Lk.walk_tabs (l := PySem.Challenge.rw_likespite_k09_whole_tables) (k := 10) (x := "script") (by decide +kernel) rfl ⟨rfl, by decide, by decide⟩ (fun w h Y => by first | exact PySem.W.km_in_of Y | exact PySem.W.kIn_of Y) ?F
  case F =>
    intro w mg fa h X G hfa T
    refine' Lk.law_mk X G hfa T ?zNt ?zNm  ?zMG (by decide +kernel) (by decide +kernel) (by decide +kernel) ?za_is_whole ?za_are_tops ?za_is_look ?za_are_looks ?za_wrong_part ?za_check_web ?za_check_folk ?za_looks_of ?za_rows_of ?za_many_rows ?za_ways_of ?za_place_seen ?za_next_moods ?za_all_tables ?za_tables_of_all ?za_many_choices ?za_settled_by_choices ?za_tables ?za_count_rules ?za_settled_counts ?za__law_taken ?za__law_web ?za__law_seen ?za__law_moods ?za__law_goes ?za__law_tables ?za__law_every ?za__law_told ?za__law_behind ?za__law_settled ?za__law_word ?za_alike ?za_law ?zd0 ?zd1
    (case zNt => rfl)
    case zNm =>
      refine' Lk.Names.mk ?zn0 ?zn1 ?zn2 ?zn3 ?zn4 ?zn5 ?zn6 ?zn7 ?zn8 ?zn9 ?zn10 ?zn11 ?zn12 ?zn13 ?zn14 ?zn15 ?zn16 ?zn17 ?zn18 (Lk.num_mk ?zm0) (Lk.num_mk ?zm1) (Lk.num_mk ?zm2) (Lk.num_mk ?zm3) (Lk.num_mk ?zm4) (Lk.num_mk ?zm5)
      (case zn0 => k_is)
      (case zn1 => k_is)
      (case zn2 => k_is)
      (case zn3 => k_is)
      (case zn4 => k_is)
      (case zn5 => k_is)
      (case zn6 => k_is)
      (case zn7 => k_is)
      (case zn8 => k_is)
      (case zn9 => k_is)
      (case zn10 => k_is)
      (case zn11 => k_is)
      (case zn12 => k_is)
      (case zn13 => k_is)
      (case zn14 => k_is)
      (case zn15 => k_is)
      (case zn16 => k_is)
      (case zn17 => k_is)
      (case zn18 => k_is)
      (case zm0 => k_is)
      (case zm1 => k_is)
      (case zm2 => k_is)
      (case zm3 => k_is)
      (case zm4 => k_is)
      (case zm5 => k_is)
    case zMG =>
      refine' Lk.manyG_mk X G ?zgC ?znoS ?zcls ?zrv ?zsa ?znoN ?ziC ?ztC ?zkC ?zexC ?zveC ?ztyC ?zinC ?zmC ?zlI ?zcI ?zcell ?zsup ?zst ?zlc ?zl2 ?zlf ?zpS ?zga ?zgg ?zhdC ?zha ?zhn ?zht ?zhm ?zf1 ?zf2 ?zf3 ?zf4 ?zf5 ?zki
      (case zgC => first | k_is | kx_is | ks_is | k_exc | kit_is | rfl | decide +kernel)
      (case znoS => first | k_is | kx_is | ks_is | k_exc | kit_is | rfl | decide +kernel)
      (case zcls => first | k_is | kx_is | ks_is | k_exc | kit_is | rfl | decide +kernel)
      (case zrv => first | k_is | kx_is | ks_is | k_exc | kit_is | rfl | decide +kernel)
      (case zsa => first | k_is | kx_is | ks_is | k_exc | kit_is | rfl | decide +kernel)
      (case znoN => first | k_is | kx_is | ks_is | k_exc | kit_is | rfl | decide +kernel)
      (case ziC => first | k_is | kx_is | ks_is | k_exc | kit_is | rfl | decide +kernel)
      (case ztC => first | k_is | kx_is | ks_is | k_exc | kit_is | rfl | decide +kernel)
      (case zkC => first | k_is | kx_is | ks_is | k_exc | kit_is | rfl | decide +kernel)
      (case zexC => first | k_is | kx_is | ks_is | k_exc | kit_is | rfl | decide +kernel)
      (case zveC => first | k_is | kx_is | ks_is | k_exc | kit_is | rfl | decide +kernel)
      (case ztyC => first | k_is | kx_is | ks_is | k_exc | kit_is | rfl | decide +kernel)
      (case zinC => first | k_is | kx_is | ks_is | k_exc | kit_is | rfl | decide +kernel)
      (case zmC => first | k_is | kx_is | ks_is | k_exc | kit_is | rfl | decide +kernel)
      (case zlI => first | k_is | kx_is | ks_is | k_exc | kit_is | rfl | decide +kernel)
      (case zcI => first | k_is | kx_is | ks_is | k_exc | kit_is | rfl | decide +kernel)
      (case zcell => first | k_is | kx_is | ks_is | k_exc | kit_is | rfl | decide +kernel)
      (case zsup => first | k_is | kx_is | ks_is | k_exc | kit_is | rfl | decide +kernel)
      (case zst => first | k_is | kx_is | ks_is | k_exc | kit_is | rfl | decide +kernel)
      (case zlc => first | k_is | kx_is | ks_is | k_exc | kit_is | rfl | decide +kernel)
      (case zl2 => first | k_is | kx_is | ks_is | k_exc | kit_is | rfl | decide +kernel)
      (case zlf => first | k_is | kx_is | ks_is | k_exc | kit_is | rfl | decide +kernel)
      (case zpS => first | k_is | kx_is | ks_is | k_exc | kit_is | rfl | decide +kernel)
      (case zga => first | k_is | kx_is | ks_is | k_exc | kit_is | rfl | decide +kernel)
      (case zgg => first | k_is | kx_is | ks_is | k_exc | kit_is | rfl | decide +kernel)
      (case zhdC => first | k_is | kx_is | ks_is | k_exc | kit_is | rfl | decide +kernel)
      (case zha => first | k_is | kx_is | ks_is | k_exc | kit_is | rfl | decide +kernel)
      (case zhn => first | k_is | kx_is | ks_is | k_exc | kit_is | rfl | decide +kernel)
      (case zht => first | k_is | kx_is | ks_is | k_exc | kit_is | rfl | decide +kernel)
      (case zhm => first | k_is | kx_is | ks_is | k_exc | kit_is | rfl | decide +kernel)
      (case zf1 => first | k_is | kx_is | ks_is | k_exc | kit_is | rfl | decide +kernel)
      (case zf2 => first | k_is | kx_is | ks_is | k_exc | kit_is | rfl | decide +kernel)
      (case zf3 => first | k_is | kx_is | ks_is | k_exc | kit_is | rfl | decide +kernel)
      (case zf4 => first | k_is | kx_is | ks_is | k_exc | kit_is | rfl | decide +kernel)
      (case zf5 => first | k_is | kx_is | ks_is | k_exc | kit_is | rfl | decide +kernel)
      (case zki => first | k_is | kx_is | ks_is | k_exc | kit_is | rfl | decide +kernel)
    (case za_is_whole => refine' Lk.fnAt ?zn ?zl ?zc ?zk; (case zn => k_is); (case zl => k_is); (case zc => k_is); (case zk => k_is))
    (case za_are_tops => refine' Lk.fnTb ?zn ?zl ?zc ?zk ?zlc ?zl11; (case zn => k_is); (case zl => k_is); (case zc => k_is); (case zk => k_is); (case zlc => first | k_is | kx_is | ks_is | rfl | decide +kernel); (case zl11 => first | rfl | k_is | kx_is | ks_is | decide +kernel))
    (case za_is_look => refine' Lk.fnAt ?zn ?zl ?zc ?zk; (case zn => k_is); (case zl => k_is); (case zc => k_is); (case zk => k_is))
    (case za_are_looks => refine' Lk.fnTb ?zn ?zl ?zc ?zk ?zlc ?zl11; (case zn => k_is); (case zl => k_is); (case zc => k_is); (case zk => k_is); (case zlc => first | k_is | kx_is | ks_is | rfl | decide +kernel); (case zl11 => first | rfl | k_is | kx_is | ks_is | decide +kernel))
    (case za_wrong_part => refine' Lk.fnAt ?zn ?zl ?zc ?zk; (case zn => k_is); (case zl => k_is); (case zc => k_is); (case zk => k_is))
    (case za_check_web => refine' Lk.fnAt ?zn ?zl ?zc ?zk; (case zn => k_is); (case zl => k_is); (case zc => k_is); (case zk => k_is))
    (case za_check_folk => refine' Lk.fnAt ?zn ?zl ?zc ?zk; (case zn => k_is); (case zl => k_is); (case zc => k_is); (case zk => k_is))
    (case za_looks_of => refine' Lk.fnAt ?zn ?zl ?zc ?zk; (case zn => k_is); (case zl => k_is); (case zc => k_is); (case zk => k_is))
    (case za_rows_of => refine' Lk.fnAt ?zn ?zl ?zc ?zk; (case zn => k_is); (case zl => k_is); (case zc => k_is); (case zk => k_is))
    (case za_many_rows => refine' Lk.fnAt ?zn ?zl ?zc ?zk; (case zn => k_is); (case zl => k_is); (case zc => k_is); (case zk => k_is))
    (case za_ways_of => refine' Lk.fnAt ?zn ?zl ?zc ?zk; (case zn => k_is); (case zl => k_is); (case zc => k_is); (case zk => k_is))
    (case za_place_seen => refine' Lk.fnAt ?zn ?zl ?zc ?zk; (case zn => k_is); (case zl => k_is); (case zc => k_is); (case zk => k_is))
    (case za_next_moods => refine' Lk.fnAt ?zn ?zl ?zc ?zk; (case zn => k_is); (case zl => k_is); (case zc => k_is); (case zk => k_is))
    (case za_all_tables => refine' Lk.fnAt ?zn ?zl ?zc ?zk; (case zn => k_is); (case zl => k_is); (case zc => k_is); (case zk => k_is))
    (case za_tables_of_all => refine' Lk.fnAt ?zn ?zl ?zc ?zk; (case zn => k_is); (case zl => k_is); (case zc => k_is); (case zk => k_is))
    (case za_many_choices => refine' Lk.fnAt ?zn ?zl ?zc ?zk; (case zn => k_is); (case zl => k_is); (case zc => k_is); (case zk => k_is))
    (case za_settled_by_choices => refine' Lk.fnAt ?zn ?zl ?zc ?zk; (case zn => k_is); (case zl => k_is); (case zc => k_is); (case zk => k_is))
    (case za_tables => refine' Lk.fnAt ?zn ?zl ?zc ?zk; (case zn => k_is); (case zl => k_is); (case zc => k_is); (case zk => k_is))
    (case za_count_rules => refine' Lk.fnAt ?zn ?zl ?zc ?zk; (case zn => k_is); (case zl => k_is); (case zc => k_is); (case zk => k_is))
    (case za_settled_counts => refine' Lk.fnAt ?zn ?zl ?zc ?zk; (case zn => k_is); (case zl => k_is); (case zc => k_is); (case zk => k_is))
    (case za__law_taken => refine' Lk.fnAt ?zn ?zl ?zc ?zk; (case zn => k_is); (case zl => k_is); (case zc => k_is); (case zk => k_is))
    (case za__law_web => refine' Lk.fnAt ?zn ?zl ?zc ?zk; (case zn => k_is); (case zl => k_is); (case zc => k_is); (case zk => k_is))
    (case za__law_seen => refine' Lk.fnAt ?zn ?zl ?zc ?zk; (case zn => k_is); (case zl => k_is); (case zc => k_is); (case zk => k_is))
    (case za__law_moods => refine' Lk.fnAt ?zn ?zl ?zc ?zk; (case zn => k_is); (case zl => k_is); (case zc => k_is); (case zk => k_is))
    (case za__law_goes => refine' Lk.fnAt ?zn ?zl ?zc ?zk; (case zn => k_is); (case zl => k_is); (case zc => k_is); (case zk => k_is))
    (case za__law_tables => refine' Lk.fnAt ?zn ?zl ?zc ?zk; (case zn => k_is); (case zl => k_is); (case zc => k_is); (case zk => k_is))
    (case za__law_every => refine' Lk.fnAt ?zn ?zl ?zc ?zk; (case zn => k_is); (case zl => k_is); (case zc => k_is); (case zk => k_is))
    (case za__law_told => refine' Lk.fnAt ?zn ?zl ?zc ?zk; (case zn => k_is); (case zl => k_is); (case zc => k_is); (case zk => k_is))
    (case za__law_behind => refine' Lk.fnAt ?zn ?zl ?zc ?zk; (case zn => k_is); (case zl => k_is); (case zc => k_is); (case zk => k_is))
    (case za__law_settled => refine' Lk.fnAt ?zn ?zl ?zc ?zk; (case zn => k_is); (case zl => k_is); (case zc => k_is); (case zk => k_is))
    (case za__law_word => refine' Lk.fnAt ?zn ?zl ?zc ?zk; (case zn => k_is); (case zl => k_is); (case zc => k_is); (case zk => k_is))
    (case za_alike => refine' Lk.fnAt ?zn ?zl ?zc ?zk; (case zn => k_is); (case zl => k_is); (case zc => k_is); (case zk => k_is))
    (case za_law => refine' Lk.fnTb ?zn ?zl ?zc ?zk ?zlc ?zl11; (case zn => k_is); (case zl => k_is); (case zc => k_is); (case zk => k_is); (case zlc => first | k_is | kx_is | ks_is | rfl | decide +kernel); (case zl11 => first | rfl | k_is | kx_is | ks_is | decide +kernel))
    (case zd0 => decide)
    (case zd1 => decide)

