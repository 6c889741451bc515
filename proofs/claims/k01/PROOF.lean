import PyProof.Rows.All
import Wide.All
import OpenK.AllK
import Wide.FinOn
import HandS.Base
import HandS.Call
import HandS.List
import HandS.Comp
import HandS.AnyAll
import HandS.GenList
import PyProof.ConsumeS
import HandS.Walk
import HandS.ForMost
import HandS.IsInst
import HandS.Flow
import HandS.Style
import HandS.Zip
import HandS.Conv
import HandS.Deep
import HandS.TupAny
import HandS.DeepEq
import HandS.Wide
import HandS.Small
import PySem.Challenge.RW_likespite_k01_whole_rings
import HandS.TupSets
import HandS.SetFor
import KE.GoesEnum
import KE.GoesNew
import KE.GoesZip
import KE.GoesMore
import KE.SortData
import PyProof.P3In
import HandS.ExcOwn
import KE.DataMinKey
import HandS.SortKw
import HandS.FltList
import HandS.WordsExc
import HandS.Nested
import HandS.TupLe
import HandS.DictTup
import HandS.ForExc
import HandS.EndTab
import KE.RegKSuper
import KE.KExcLine
/-! ## GenAll -/
set_option Elab.async false
set_option linter.all false
set_option maxRecDepth 100000
set_option maxHeartbeats 2000000
/-! all, any of a generator expression of any form: the walked thing, the target, the tests and the element by the layer's own judgements in the generator's frame. -/
namespace Gx
open PySem PySem.Spec PyProof.Rows L2 GxR GenW

/-- the generator's context, built over the state s4 -/
abbrev Cxg (X : Cx) (A : Around) (s : Shared) (H : Hp) (cenv : Env) (fp : List Addr) : Cx :=
  { X with A := A, s_0 := s, H_0 := H, env := cenv, outer := X.stack, stack := cenv :: X.stack, ex := fp, fn := fun _ => false, pn := [], xe := fun _ _ => False }
/-- its environment -/
abbrev genE (X : Cx) (scope : Scope) (C : Addr) (code : Value) : Env := genEnv scope (cloFrom X.env.cells scope.names []) C code builtinsNs X.env
/-- where the generator's code runs -/
abbrev genA (A : Around) (ge : Expr) (it : Addr) (cenv : Env) : Around := A.in1.in1.over (.compLoop ge 0 (.ref it) .none cenv) []

section
variable {X : Cx} {pins : List (Addr × Obj)} {σ : L2.St} {H : Hp} {s : Shared}
theorem gen_start {A : Around} {scope : Scope} {own : List (Str × Nat)} {fp : List Addr} {code it : Value} {go : Obj} {h' : Heap} {gs' : Array GenState} {tk : Nat} (I : Inv X pins σ H s) (ok : BlkOk X.N X.env.scope scope own) (hcell : ∀ y ∈ scope.names, y.2 ≠ .cell)
    (hN : X.N.Nodup) (hfp : ∀ b ∈ fp, FpOk X pins H b ∧ b < s.heap.objs.size) (hA : A.frames = some (genE X scope s.heap.objs.size code :: X.stack)) (hAh : X.calm = true → A.handled = none)
    (hn : h'.Ns s.heap.objs.size (fun y => if y = ".0" then some it else none)) (hs : Heap.SameBut s.heap.objs.size (s.heap.push { cls := .type "frame", data := .dict #[] }) h') (hg : AllBare gs') (hgo : ∀ v, go.data ≠ .cell v) (hgo2 : (h'.push go).get? h'.objs.size = some go) :
    Inv (Cxg X A s H (genE X scope s.heap.objs.size code) fp) [(h'.objs.size, go)] (wipe σ (own.map (·.2))) H { s with heap := h'.push go, gens := gs', toks := tk } := by
  have hfree : ∀ y ∈ scope.names, y.2 = .free → ∃ c, X.env.cells.lookup y.1 = some c := fun y hy e => by
    rcases ok.free y hy e with k | k
    · exact I.ok.has _ (.inl k)
    · exact I.ok.has _ (.inr k)
  have kp0 : ∀ b o, s.heap.get? b = some o → h'.get? b = some o := fun b o e => hs.extBut b o (Nat.ne_of_lt (Heap.lt_size e)) (Heap.get?_push_of_some _ e)
  have kp : ∀ b o, s.heap.get? b = some o → (h'.push go).get? b = some o := fun b o e => Heap.get?_push_of_some _ (kp0 b o e)
  have hsz : h'.objs.size = s.heap.objs.size + 1 := by rw [hs.1, Heap.size_push]
  generalize hcenv : genE X scope s.heap.objs.size code = cenv at hA ⊢
  have hL : cenv.locals = s.heap.objs.size := by rw [← hcenv]; rfl
  have hF : cenv.frame = some cenv.locals := by rw [← hcenv]; rfl
  have hcl : cenv.cells = cloFrom X.env.cells scope.names [] := by rw [← hcenv]; rfl
  have hsc : cenv.scope = scope := by rw [← hcenv]; rfl
  have cm : ∀ {y c}, (y, c) ∈ cloFrom X.env.cells scope.names [] → X.env.cells.lookup y = some c ∧ c < s.heap.objs.size := fun {y c} hm => by
    rcases cloFrom_mem hm with hm | ⟨h1, rfl⟩
    · cases hm
    · obtain ⟨c, hc⟩ := hfree _ h1 rfl
      rw [hc]
      obtain ⟨w, z⟩ := I.cell _ _ hc
      exact ⟨rfl, z.lt⟩
  have mem : ∀ {y c}, cenv.cells.lookup y = some c → X.env.cells.lookup y = some c ∧ c < s.heap.objs.size := fun {y c} e => by
    rw [hcl] at e
    exact cm (PySem.mem_of_lookup e)
  have look : ∀ {y}, scope.names.lookup y = some .free → ∃ c, cenv.cells.lookup y = some c ∧ X.env.cells.lookup y = some c := fun {y} hl => by
    have hy : (y, NameKind.free) ∈ scope.names := PySem.mem_of_lookup hl
    obtain ⟨c', e'⟩ := mem_lookup (cloFrom_has (cells := X.env.cells) (acc := []) hy)
    rw [← hcl] at e'
    exact ⟨c', e', (mem e').1⟩
  have okB : (Cxg X A s H cenv fp).Ok := by
    refine ⟨I.ok.mod, by show cenv.scope.kind = _; rw [hsc]; exact ok.kind, by show cenv.globals = _; rw [← hcenv]; exact I.ok.glob, by show cenv.builtins = _; rw [← hcenv]; rfl, by show s.heap.objs.size ≤ cenv.locals; rw [hL]; exact Nat.le_refl _,
      fun y z c e1 e2 => I.ok.inj y z c (mem e1).1 (mem e2).1, fun y hy => ?_, (fun y c z e => by cases z), hAh, hA, .inr ⟨rfl, hF⟩, fun b hb => ⟨?_, fun y c e z => ?_⟩, I.bs, Nat.le_trans I.ok.bsz I.sz, fun b o e hb => ?_, fun b hb z => ?_, I.stack, I.stkFree⟩
    · show ∃ c, cenv.cells.lookup y = some c
      have key : ∀ k, cenv.kindOf y = some k → (k = .cell ∨ k = .free) → ∃ c, cenv.cells.lookup y = some c := fun k hk hk' => by
        unfold Env.kindOf at hk
        rw [hsc] at hk
        rcases hk' with rfl | rfl
        · exact absurd rfl (hcell _ (PySem.mem_of_lookup hk))
        · obtain ⟨c, h1, _⟩ := look hk
          exact ⟨c, h1⟩
      rcases hy with hy | hy
      · exact key _ hy (.inl rfl)
      · exact key _ hy (.inr rfl)
    · show b ≠ cenv.locals
      rw [hL]; exact Nat.ne_of_lt (hfp b hb).2
    · exact (hfp b hb).1.2.2.2.2.1 y c (mem e).1 z
    · rcases (hfp b hb).1.2.2.2.1 with z | z
      · exact I.ok.noex b o e z
      · exact absurd (Nat.lt_of_lt_of_le (Heap.lt_size e) (Nat.le_trans I.ok.bsz z)) (Nat.lt_irrefl _)
    · rcases List.mem_cons.mp (I.stkSub b z) with z | z
      · exact (hfp b hb).1.2.1 z
      · exact (hfp b hb).1.2.2.1 z
  refine ⟨okB, rfl, hg, Un.kept kp, ⟨_, (by show Heap.Ns _ cenv.locals _; rw [hL]; exact hn.push _), fun i y av e1 e2 e3 => ?_⟩, fun y c e => ?_, ?_, fun y c e => ?_, fun p hp => ?_, I.hok.kept kp, by rw [wipe_length]; exact I.len⟩
  · obtain ⟨e2, hne⟩ := wipe_some e2
    have hfr : scope.names.lookup y = some .free := by
      have key : ∀ k, cenv.scope.names.lookup y = some k → k = .local ∨ k = .cell ∨ k = .free → scope.names.lookup y = some .free := fun k hk hk' => by
        rw [hsc] at hk
        have no : ¬ (k = .local ∨ k = .cell) := fun hh => by
          rcases ok.own _ (PySem.mem_of_lookup hk) hh with e' | e'
          · obtain ⟨p, hp, hpy⟩ := List.mem_map.mp e'
            have e3 := ok.ix p hp
            have : p.1 = y := hpy
            rw [this] at e3
            exact hne (List.mem_map.mpr ⟨p, hp, nodup_ix hN e3 e1⟩)
          · exact e' (List.mem_of_getElem? e1)
        rcases hk' with rfl | rfl | rfl
        · exact absurd (.inl rfl) no
        · exact absurd (.inr rfl) no
        · exact hk
      have e3 : Vis cenv.scope y := e3
      rcases e3 with e3 | e3 | e3
      · exact key _ e3 (.inl rfl)
      · exact key _ e3 (.inr (.inl rfl))
      · exact key _ e3 (.inr (.inr rfl))
    obtain ⟨m, hn, hl⟩ := I.loc
    have hvis : Vis X.env.scope y := (ok.free _ (PySem.mem_of_lookup hfr) rfl).elim (fun k => .inr (.inl k)) (fun k => .inr (.inr k))
    obtain ⟨w, r, q⟩ := hl i y av e1 e2 hvis
    refine ⟨w, r, .inr ⟨.inr (by show cenv.scope.names.lookup y = _; rw [hsc]; exact hfr), ?_⟩⟩
    obtain ⟨c, h1, h2⟩ := look hfr
    rcases q with ⟨k, _⟩ | ⟨_, c', e', z⟩
    · have k : X.env.scope.names.lookup y = some .local := k
      rcases ok.free _ (PySem.mem_of_lookup hfr) rfl with k' | k' <;> rw [show X.env.scope.names.lookup y = _ from k'] at k <;> cases k
    · rw [h2] at e'; cases e'
      exact ⟨c, h1, z.keeps kp⟩
  · obtain ⟨w, z⟩ := I.cell y c (mem e).1
    exact ⟨w, z.keeps kp⟩
  · show H cenv.locals = none
    rw [hL]; exact I.hok.fresh (Nat.le_refl _)
  · exact I.freeC y c (mem e).1
  · have hp' : p = (h'.objs.size, go) := by
      rcases List.mem_append.mp (show p ∈ ([] : List (Addr × Obj)) ++ [(h'.objs.size, go)] from hp) with z | z
      · cases z
      · exact List.mem_singleton.mp z
    subst hp'
    have big : s.heap.objs.size ≤ h'.objs.size := by omega
    refine ⟨hgo2, I.hok.fresh big, ?_, fun z => ?_, hgo⟩
    · show h'.objs.size ≠ cenv.locals
      rw [hL, hsz]; exact Nat.succ_ne_self _
    · rcases List.mem_cons.mp (I.stkSub _ z) with z | z
      · exact (Nat.ne_of_gt (Nat.lt_of_lt_of_le I.lt big)) z
      · exact I.nofs big z
end

/-- while the generator sleeps -/
structure Asleep (s s' : Shared) : Prop where
  os : s'.os = s.os
  bare : AllBare s'.gens
  keep : ∀ b o, s.heap.get? b = some o → s'.heap.get? b = some o
theorem Inv.slept {X : Cx} {pins : List (Addr × Obj)} {σ : L2.St} {H : Hp} {s s' : Shared} (I : Inv X pins σ H s) (z : Asleep s s') : Inv X pins σ H s' :=
  I.call' (ch := []) z.os (Un.kept z.keep) (I.hok.kept z.keep) z.bare fun b hb => by simp at hb

/-- what a generator is: its context, its iterator, its turns -/
structure GD where
  X : Cx
  a : Addr
  g : Nat
  go : Obj
  fp : List Addr
  it : Addr
  A : Around
  σ : L2.St
  tn : Nat → Heap → Prop
  W : Nat → Nat → Hp → Prop
  Yd : Nat → Nat → V → Hp → Prop
  Qs : Hp → Prop
abbrev GD.pins (D : GD) : List (Addr × Obj) := [(D.a, D.go)]
/-- at rest ahead of turn i -/
structure GD.at (D : GD) (i : Nat) (H : Hp) (s : Shared) : Prop where
  inv : Inv D.X D.pins D.σ H s
  st : D.tn i s.heap
  fpn : ∀ b ∈ D.fp, H b = none
def GD.R (D : GD) : Nat → Shared → Shared → Prop := fun _ _ s => ∃ H, Inv D.X D.pins D.σ H s ∧ (∀ b ∈ D.fp, H b = none) ∧ D.Qs H
def GD.Y (D : GD) : Protocol := fun n _ v s kap =>
  ∃ i m y H, m ≤ n + 1 ∧ D.at (i + 1) H s ∧ RelV y v ∧ D.Yd i m y H ∧ ∀ s'', Asleep s s'' → ∀ m', m' < m → D.W (i + 1) m' H → kap (.send .none) s''
abbrev GD.end (D : GD) : GenEnd := fun n s₀ r s₁ => r = .ok .next ∧ D.R n s₀ s₁
theorem GD.at.slept {D : GD} {i : Nat} {H : Hp} {s s' : Shared} (h : D.at i H s) (hT : ∀ i h h', D.tn i h → (∀ b ∈ D.fp, ∀ o, h.get? b = some o → h'.get? b = some o) → D.tn i h') (z : Asleep s s') : D.at i H s' :=
  ⟨Inv.slept h.inv z, hT _ _ _ h.st fun b _ o e => z.keep b o e, h.fpn⟩
/-- the turns' wish -/
structure GD.Ok (D : GD) (elt tg iter : Expr) (ifs : List Expr) (scope : Scope) (gpos : Pos) (J : It) (g : TG) (tt : TT) (te : TE) (vs : List Nat) : Prop where
  over : D.A.over (.compLoop (.GeneratorExp elt [⟨tg, iter, ifs, 0⟩] scope gpos) 0 (.ref D.it) .none D.X.env) [] = D.X.A
  overS : D.A.over (.compStart (.GeneratorExp elt [⟨tg, iter, ifs, 0⟩] scope gpos) 0 (.ref D.it) .none D.X.env) [] = D.X.A
  xe : D.X.xe = fun _ _ => False
  calm : D.X.calm = true
  co : D.X.env.scope.isCoroutine = false
  ex : D.X.ex = D.fp
  pn : D.X.pn = []
  apin : ∀ b ∈ D.fp, b ≠ D.a
  turn : Turn D.X.prog D.X.w D.X.K tg J D.fp D.it D.tn
  pg : PG D.X tg g
  pt : PTs D.X ifs tt
  pe : PE D.X elt te
  wiped : wipe D.σ vs = D.σ
  step : ∀ i m H, D.W i m H → (J.stop i H ∧ D.Qs H) ∨ (J.go i H ∧ 0 < m ∧ ∃ (Ny : V → Hp → Prop) (Nn : Hp → Prop), (∀ y H', Ny y H' → D.Yd i m y H') ∧ (∀ H', Nn H' → ∃ m', m' < m ∧ D.W (i + 1) m' H') ∧ ∀ x H', J.yld i H x H' → g x D.σ H' fun σ2 H2 => wipe σ2 vs = D.σ ∧ tt σ2 H2 fun b H3 =>
    if b = true then te σ2 H3 Ny else Nn H3)
section
variable {D : GD} {elt tg iter : Expr} {ifs : List Expr} {scope : Scope} {gpos : Pos} {J : It} {g : TG} {tt : TT} {te : TE} {vs : List Nat}
theorem GD.Ok.fpok (o : D.Ok elt tg iter ifs scope gpos J g tt te vs) {σ' : L2.St} {H' : Hp} {s' : Shared} (I : Inv D.X D.pins σ' H' s') (hn : ∀ b ∈ D.fp, H' b = none) : ∀ b ∈ D.fp, FpOk D.X D.pins H' b := fun b hb =>
  ⟨hn b hb, (I.ok.exf b (by rw [o.ex]; exact hb)).1, I.ok.exfs b (by rw [o.ex]; exact hb), .inl (by rw [o.ex]; exact hb), fun x c e => (I.ok.exf b (by rw [o.ex]; exact hb)).2 x c e, fun p hp => by
    rw [o.pn] at hp
    have e : p = (D.a, D.go) := List.mem_singleton.mp hp
    rw [e]
    exact (o.apin b hb).symm⟩
theorem seg_turns (o : D.Ok elt tg iter ifs scope gpos J g tt te vs) : ∀ (m n i : Nat) (s₀ s : Shared) (H : Hp), m ≤ n → D.W i m H → D.at i H s →
    Seg (model D.X.prog D.X.w) D.A D.end D.Y n s₀ (.compLoop (.GeneratorExp elt [⟨tg, iter, ifs, 0⟩] scope gpos) 0 (.ref D.it) .none D.X.env) ((model D.X.prog D.X.w).den (.compLoop (.GeneratorExp elt [⟨tg, iter, ifs, 0⟩] scope gpos) 0 (.ref D.it) .none D.X.env)) [] s := by
  intro m
  induction m using Nat.strongRecOn with
  | ind m ih =>
    intro n i s₀ s H hmn w hat
    show Seg _ D.A _ _ _ s₀ _ ((compTurn (.GeneratorExp elt [⟨tg, iter, ifs, 0⟩] scope gpos) 0 (.ref D.it) .none D.X.env).onRaise (leaving D.X.env)) [] s
    rw [compTurn_gen, Sem.onRaise_eq_wrap]
    refine seg_bind_wrap (wpAny_standAt ?_)
    refine seg_bind_wrap ?_
    rw [o.over]
    rcases o.step i m H w with ⟨stop, qs⟩ | ⟨go, hm0, Ny, Nn, hNy, hNn, step⟩
    · refine thnF (o.turn.done D.X rfl rfl rfl o.calm i D.pins s D.σ H (fun _ _ => False) hat.inv (o.fpok hat.inv hat.fpn) hat.st stop) fun r s1 ⟨hr, I1⟩ => ?_
      subst hr
      exact seg_end (.ok .next) ⟨rfl, H, I1, hat.fpn, qs⟩
    · refine thnF (o.turn.item D.X rfl rfl rfl o.calm i D.pins s D.σ H (fun _ _ => False) hat.inv (o.fpok hat.inv hat.fpn) hat.st go) fun r s1 ⟨u, hr, h1⟩ => ?_
      subst hr
      refine seg_bind_wrap ?_
      rw [o.over]
      refine thnF h1 fun _ s2 ⟨x, H2, I2, r2, y2, st2, n2⟩ => ?_
      have I2' := I2.pinned (o.fpok I2 n2) (o.turn.obj _ _ st2)
      have noX : ∀ {α : Type} {t : Sem α} {Q : α → Shared → Prop} {s'} {E : Value → Shared → Prop}, wpAny (model D.X.prog D.X.w) D.X.A t Q D.X.xe s' → wpAny (model D.X.prog D.X.w) D.X.A t Q E s' := fun {α t Q s' E} h =>
        wpAny_mono h (fun _ _ z => z) fun _ _ z => by rw [o.xe] at z; exact z.elim
      refine seg_bind_wrap ?_
      rw [o.over]
      refine thn (noX (o.pg.run _ s2 _ H2 x u _ I2' r2 (step x H2 y2))) fun _ s3 ⟨σ3, H3, I3, hw3, q3⟩ => ?_
      refine seg_bind_wrap ?_
      rw [o.over]
      refine thn (noX (o.pt.run _ s3 σ3 H3 _ I3 q3)) fun b s4 ⟨H4, I4, q4⟩ => ?_
      have fin : ∀ {s' : Shared} {H' : Hp}, Inv D.X (D.pins ++ pinsAt D.fp s2.heap) σ3 H' s' → D.at (i + 1) H' s' := fun {s' H'} I' => by
        have pin' : ∀ b ∈ D.fp, ∀ ob, s2.heap.get? b = some ob → s'.heap.get? b = some ob ∧ H' b = none := fun b hb ob e =>
          let z := I'.pin (b, ob) (List.mem_append_right _ (List.mem_append_right _ (mem_pinsAt hb e)))
          ⟨z.1, z.2.1⟩
        have hl : D.σ.length = σ3.length := by rw [← hw3, wipe_length]
        refine ⟨(I'.unpinned (pins := D.pins)).weak hl (fun j v e => ?_), o.turn.keep _ _ _ st2 fun b hb ob e => (pin' b hb ob e).1, fun b hb => ?_⟩
        · rw [← hw3] at e
          exact (wipe_some e).1
        · obtain ⟨ob, e, _⟩ := o.turn.obj _ _ st2 b hb
          exact (pin' b hb ob e).2
      cases b with
      | false =>
        simp only [Bool.false_eq_true, if_false] at q4 ⊢
        obtain ⟨m', hm, w'⟩ := hNn _ q4
        have hz := ih m' hm n (i + 1) s₀ s4 H4 (by omega) w' (fin I4)
        exact seg_again rfl hz
      | true =>
        simp only [if_true] at q4 ⊢
        have hy : ∀ v, yieldOut D.X.env v = yieldValue v := fun v => by simp only [yieldOut, o.co, Bool.false_eq_true, if_false]
        simp only [hy]
        rw [Sem.bind_eq_wrap', Sem.bind_eq_wrap', Sem.wrap_wrap, Sem.wrap_wrap]
        refine seg_wrap ?_
        rw [o.over]
        refine thn (noX (o.pe.run _ s4 σ3 H4 _ I4 q4)) fun v s5 ⟨yv, H5, I5, r5, yd⟩ => ?_
        obtain ⟨n, rfl⟩ : ∃ k, n = k + 1 := ⟨n - 1, by omega⟩
        have hfin := fin I5
        refine seg_at (seg_yield rfl rfl rfl ⟨i, m, yv, H5, hmn, hfin, r5, hNy _ _ yd, fun s'' hal m' hm' w' => ?_⟩)
        have hz := ih m' hm' n (i + 1) s'' s'' H5 (by omega) w' (hfin.slept o.turn.keep hal)
        exact seg_again rfl hz
theorem seg_first (o : D.Ok elt tg iter ifs scope gpos J g tt te vs) {m n i : Nat} {s₀ s : Shared} {H : Hp} (hmn : m ≤ n) (w : D.W i m H) (hat : D.at i H s) :
    Seg (model D.X.prog D.X.w) D.A D.end D.Y n s₀ (.compStart (.GeneratorExp elt [⟨tg, iter, ifs, 0⟩] scope gpos) 0 (.ref D.it) .none D.X.env) ((model D.X.prog D.X.w).den (.compStart (.GeneratorExp elt [⟨tg, iter, ifs, 0⟩] scope gpos) 0 (.ref D.it) .none D.X.env)) [] s := by
  have loop := seg_turns o m n i s₀ s H hmn w hat
  show Seg _ D.A _ _ _ s₀ _ ((compStart (.GeneratorExp elt [⟨tg, iter, ifs, 0⟩] scope gpos) 0 (.ref D.it) .none D.X.env).onRaise (leaving D.X.env)) [] s
  have hov := o.overS
  unfold compStart
  rw [Sem.onRaise_eq_wrap]
  show Seg _ D.A _ _ _ s₀ _ ((ask >>= _).wrap _ _ _ _) [] s
  refine seg_bind_wrap (wpAny_askSetting ?_)
  have self : ∀ {Q : Value → Shared → Prop} {E : Value → Shared → Prop}, Q (.ref D.it) s → wpAny (model D.X.prog D.X.w) D.X.A (pyIter (.ref D.it)) Q E s := fun hq => o.turn.self D.X.A i s _ _ hat.st hq
  split
  · exact seg_again rfl loop
  · first
      | exact seg_bind_wrap (wpAny_rule (seg_bind_wrap (wpAny_standAt (seg_bind_wrap (by rw [hov]; exact self (seg_again rfl loop))))))
      | (refine seg_bind_wrap (wpAny_rule ?_); show Seg _ D.A _ _ _ s₀ _ ((standAt iter.pos >>= _).wrap _ _ _ _) [] s; exact seg_bind_wrap (wpAny_standAt (seg_bind_wrap (by rw [hov]; exact self (seg_again rfl loop)))))
/-- ready for a next: at most n items more -/
structure GD.Ready (D : GD) (n i m : Nat) (H : Hp) (s : Shared) : Prop where
  at_ : D.at i H s
  le : m ≤ n
  gs : ∃ gs, s.gens[D.g]? = some gs ∧ ∀ s'', Asleep s s'' → gs.Goes (model D.X.prog D.X.w) D.A D.end D.Y n (.send .none) s''
theorem gen_ready (o : D.Ok elt tg iter ifs scope gpos J g tt te vs) {m n i : Nat} {s : Shared} {H : Hp} (hmn : m ≤ n) (w : D.W i m H) (hat : D.at i H s) (hgs : s.gens[D.g]? = some (.fresh (.compStart (.GeneratorExp elt [⟨tg, iter, ifs, 0⟩] scope gpos) 0 (.ref D.it) .none D.X.env))) : D.Ready n i m H s :=
  ⟨hat, hmn, _, hgs, fun s'' z => ⟨rfl, seg_first o hmn w (hat.slept o.turn.keep z)⟩⟩
theorem allBare_set {s : Shared} {g : Nat} {x : GenState} (h : AllBare s.gens) (hx : x.bare = true) : AllBare (s.setGen g x).gens := allBare_setGen h hx
theorem gen_next (o : D.Ok elt tg iter ifs scope gpos J g tt te vs) {A : Around} (hA : A.in1 = D.A) {n i m : Nat} {s : Shared} {H : Hp} {Q : Option Value → Shared → Prop} {E : Value → Shared → Prop} (hd : A.depth < recursionLimit) (hh : A.handled = none)
    (hgen : ∀ h : Heap, h.get? D.a = some D.go → h.IsGen D.a D.g) (r : D.Ready n i m H s)
    (hS : ∀ s' H', Inv D.X D.pins D.σ H' s' → (∀ b ∈ D.fp, H' b = none) → D.Qs H' → Q none s')
    (hI : ∀ v y i' m' H' s', RelV y v → D.at (i' + 1) H' s' → D.Yd i' m' y H' → (∀ m'', m'' < m' → D.W (i' + 1) m'' H' → 0 < n ∧ D.Ready (n - 1) (i' + 1) m'' H' s') → Q (some v) s') :
    wpAny (model D.X.prog D.X.w) A (pyNext (.ref D.a)) Q E s := by
  obtain ⟨hat, hmn, gs, hgs, hgo⟩ := r
  have hgl : D.g < s.gens.size := (Array.getElem?_eq_some_iff.mp hgs).1
  have pinG : ∀ {σ' H' s'}, Inv D.X D.pins σ' H' s' → s'.heap.get? D.a = some D.go := fun {σ' H' s'} I => (I.pin (D.a, D.go) (List.mem_append_right _ (List.mem_singleton.mpr rfl))).1
  refine wpAny_gsz (n := D.g + 1) hgl (wpAny_pyNext_genexpQ (P := D.R) hh hat.inv.nolimit hd (hgen _ (pinG hat.inv)) hgs (by rw [hA]; exact hgo _ ⟨rfl, allBare_set hat.inv.bare rfl, fun _ _ e => e⟩) (fun v s₁ gs' hb hv => ?_) (fun s₁ hp h' hk => ?_))
  · intro hsz
    obtain ⟨i', m', y, H', hm', hat', ry, yd, kap⟩ := hv
    have hsz1 : D.g < s₁.gens.size := by
      have q : (s₁.setGen D.g gs').gens.size = s₁.gens.size := setGen_size _ _ _
      have hsz' : D.g + 1 ≤ (s₁.setGen D.g gs').gens.size := hsz
      omega
    have z1 : Asleep s₁ (s₁.setGen D.g gs') := ⟨rfl, allBare_set hat'.inv.bare hb, fun _ _ e => e⟩
    refine hI v y i' m' H' _ ry (hat'.slept o.turn.keep z1) yd fun m'' hm'' w'' => ?_
    cases n with
    | zero => exact (kap _ z1 m'' hm'' w'').elim
    | succ n =>
      refine ⟨Nat.succ_pos _, hat'.slept o.turn.keep z1, by simp only [Nat.add_sub_cancel] at hm' ⊢; omega, gs', setGen_at hsz1, fun s'' z => ?_⟩
      have z2 : Asleep s₁ s'' := ⟨z.os, z.bare, fun b ob e => z.keep b ob e⟩
      have := kap s'' z2 m'' hm'' w''
      rw [hA] at this
      exact this
  · intro _
    obtain ⟨H', I', fn', q'⟩ := hp
    exact hS _ H' (Inv.slept I' ⟨rfl, allBare_set (s := s₁) I'.bare rfl, hk⟩) fn' q'
end
end Gx

/-! ## GenAll2 -/
set_option Elab.async false
set_option linter.all false
set_option maxRecDepth 100000
set_option maxHeartbeats 2000000
namespace Gx
open PySem PySem.Spec PyProof.Rows L2 GxR GenW

theorem wipe_in {σ : L2.St} {i : Nat} : ∀ {vs : List Nat}, i ∈ vs → (wipe σ vs)[i]? = if i < σ.length then some none else none
  | v :: vs, h => by
    unfold wipe
    by_cases hv : v = i
    · subst hv
      by_cases hl : v < σ.length
      · rw [List.getElem?_set_self (by rw [wipe_length]; exact hl), if_pos hl]
      · rw [List.getElem?_eq_none (by rw [List.length_set, wipe_length]; omega), if_neg hl]
    · rw [List.getElem?_set_ne hv]
      exact wipe_in ((List.mem_cons.mp h).resolve_left fun e => hv e.symm)
theorem wipe_wipe (σ : L2.St) (vs : List Nat) : wipe (wipe σ vs) vs = wipe σ vs := by
  apply List.ext_getElem?
  intro i
  by_cases h : i ∈ vs
  · rw [wipe_in h, wipe_in h, wipe_length]
  · rw [wipe_out h, wipe_out h]
/-- what all and any wish of an item: want is the truth that ends the walk -/
def YdB (W : Nat → Nat → Hp → Prop) (want : Bool) (Qf : Hp → Prop) : Nat → Nat → V → Hp → Prop := fun i m y H => ∃ c, y = .bl c ∧ if c = want then Qf H else ∃ m', m' < m ∧ W (i + 1) m' H
section
variable {D : GD} {elt tg iter : Expr} {ifs : List Expr} {scope : Scope} {gpos : Pos} {J : It} {g : TG} {tt : TT} {te : TE} {vs : List Nat}
theorem all_loop (o : D.Ok elt tg iter ifs scope gpos J g tt te vs) {A : Around} (hA : A.in1.in1 = D.A) (hd : A.depth < recursionLimit) (hh : A.handled = none) (hgen : ∀ h : Heap, h.get? D.a = some D.go → h.IsGen D.a D.g)
    {Qf : Hp → Prop} (hY : D.Yd = YdB D.W false Qf) {R : Result → Shared → Prop} (hT : ∀ s' H', Inv D.X D.pins D.σ H' s' → (∀ b ∈ D.fp, H' b = none) → D.Qs H' → R (.ok (.ret (.bool true))) s') (hF : ∀ s' H', Inv D.X D.pins D.σ H' s' → (∀ b ∈ D.fp, H' b = none) → Qf H' → R (.ok (.ret (.bool false))) s') :
    ∀ (n i m : Nat) (s : Shared) (H : Hp), D.Ready n i m H s → codeAny (model D.X.prog D.X.w) A (.builtin "all.loop" ⟨[.ref D.a], []⟩) R s := by
  intro n
  induction n with
  | zero =>
    intro i m s H r
    refine codeAny_builtin F.entry_all_loop ?_
    rw [Around.under_plainId F.plain_all_loop _]
    show wpAny _ A.in1 (pyNext (.ref D.a) >>= _) _ _ s
    refine wpAny_bind (gen_next o (A := A.in1) hA hd hh hgen r (fun s' H' I' f' q' => ?_) (fun v y i' m' H' s' ry hat yd rd => ?_))
    · exact wpAny_bind (wpAny_rule (wpAny_pure (hT s' H' I' f' q')))
    · rw [hY] at yd
      obtain ⟨c, rfl, q⟩ := yd
      obtain rfl : v = Value.bool c := ry
      refine wpAny_bind (wpAny_holding (wpAny_truthy_bool ?_))
      refine wpAny_bind (wpAny_letGo ?_)
      cases c with
      | true =>
        rw [if_neg (by decide)] at q
        obtain ⟨m'', hm, w⟩ := q
        exact absurd (rd m'' hm w).1 (Nat.lt_irrefl _)
      | false =>
        simp only [Bool.false_eq_true, if_false]
        exact wpAny_bind (wpAny_rule (wpAny_pure (hF s' H' hat.inv hat.fpn (by simpa using q))))
  | succ n ih =>
    intro i m s H r
    refine codeAny_builtin F.entry_all_loop ?_
    rw [Around.under_plainId F.plain_all_loop _]
    show wpAny _ A.in1 (pyNext (.ref D.a) >>= _) _ _ s
    refine wpAny_bind (gen_next o (A := A.in1) hA hd hh hgen r (fun s' H' I' f' q' => ?_) (fun v y i' m' H' s' ry hat yd rd => ?_))
    · exact wpAny_bind (wpAny_rule (wpAny_pure (hT s' H' I' f' q')))
    · rw [hY] at yd
      obtain ⟨c, rfl, q⟩ := yd
      obtain rfl : v = Value.bool c := ry
      refine wpAny_bind (wpAny_holding (wpAny_truthy_bool ?_))
      refine wpAny_bind (wpAny_letGo ?_)
      cases c with
      | true =>
        rw [if_neg (by decide)] at q
        obtain ⟨m'', hm, w⟩ := q
        simp only [if_true]
        exact wpAny_pure ⟨plainId_quiet F.plain_all_loop _, ih _ _ _ _ (rd m'' hm w).2⟩
      | false =>
        simp only [Bool.false_eq_true, if_false]
        exact wpAny_bind (wpAny_rule (wpAny_pure (hF s' H' hat.inv hat.fpn (by simpa using q))))
theorem any_loop (o : D.Ok elt tg iter ifs scope gpos J g tt te vs) {A : Around} (hA : A.in1.in1 = D.A) (hd : A.depth < recursionLimit) (hh : A.handled = none) (hgen : ∀ h : Heap, h.get? D.a = some D.go → h.IsGen D.a D.g)
    {Qf : Hp → Prop} (hY : D.Yd = YdB D.W true Qf) {R : Result → Shared → Prop} (hT : ∀ s' H', Inv D.X D.pins D.σ H' s' → (∀ b ∈ D.fp, H' b = none) → D.Qs H' → R (.ok (.ret (.bool false))) s') (hF : ∀ s' H', Inv D.X D.pins D.σ H' s' → (∀ b ∈ D.fp, H' b = none) → Qf H' → R (.ok (.ret (.bool true))) s') :
    ∀ (n i m : Nat) (s : Shared) (H : Hp), D.Ready n i m H s → codeAny (model D.X.prog D.X.w) A (.builtin "any.loop" ⟨[.ref D.a], []⟩) R s := by
  intro n
  induction n with
  | zero =>
    intro i m s H r
    refine codeAny_builtin F.entry_any_loop ?_
    rw [Around.under_plainId F.plain_any_loop _]
    show wpAny _ A.in1 (pyNext (.ref D.a) >>= _) _ _ s
    refine wpAny_bind (gen_next o (A := A.in1) hA hd hh hgen r (fun s' H' I' f' q' => ?_) (fun v y i' m' H' s' ry hat yd rd => ?_))
    · exact wpAny_bind (wpAny_rule (wpAny_pure (hT s' H' I' f' q')))
    · rw [hY] at yd
      obtain ⟨c, rfl, q⟩ := yd
      obtain rfl : v = Value.bool c := ry
      refine wpAny_bind (wpAny_holding (wpAny_truthy_bool ?_))
      refine wpAny_bind (wpAny_letGo ?_)
      cases c with
      | false =>
        rw [if_neg (by decide)] at q
        obtain ⟨m'', hm, w⟩ := q
        exact absurd (rd m'' hm w).1 (Nat.lt_irrefl _)
      | true =>
        simp only [if_true]
        exact wpAny_bind (wpAny_rule (wpAny_pure (hF s' H' hat.inv hat.fpn (by simpa using q))))
  | succ n ih =>
    intro i m s H r
    refine codeAny_builtin F.entry_any_loop ?_
    rw [Around.under_plainId F.plain_any_loop _]
    show wpAny _ A.in1 (pyNext (.ref D.a) >>= _) _ _ s
    refine wpAny_bind (gen_next o (A := A.in1) hA hd hh hgen r (fun s' H' I' f' q' => ?_) (fun v y i' m' H' s' ry hat yd rd => ?_))
    · exact wpAny_bind (wpAny_rule (wpAny_pure (hT s' H' I' f' q')))
    · rw [hY] at yd
      obtain ⟨c, rfl, q⟩ := yd
      obtain rfl : v = Value.bool c := ry
      refine wpAny_bind (wpAny_holding (wpAny_truthy_bool ?_))
      refine wpAny_bind (wpAny_letGo ?_)
      cases c with
      | false =>
        rw [if_neg (by decide)] at q
        obtain ⟨m'', hm, w⟩ := q
        simp only [Bool.false_eq_true, if_false]
        exact wpAny_pure ⟨plainId_quiet F.plain_any_loop _, ih _ _ _ _ (rd m'' hm w).2⟩
      | true =>
        simp only [if_true]
        exact wpAny_bind (wpAny_rule (wpAny_pure (hF s' H' hat.inv hat.fpn (by simpa using q))))
end

section
variable {X : Cx} {pins : List (Addr × Obj)} {σ : L2.St} {H : Hp} {s : Shared}
/-- the generator's names, its scope -/
structure GScp (X : Cx) (scope : Scope) (own : List (Str × Nat)) : Prop where
  blk : BlkOk X.N X.env.scope scope own
  cell : ∀ y ∈ scope.names, y.2 ≠ .cell
  dot : scope.names.lookup (".0" : Str) = some NameKind.local
  co : scope.isCoroutine = false
def noCells (sc : Scope) : Bool := sc.names.all fun y => match y.2 with | .cell => false | _ => true
theorem noCells_ok {sc : Scope} (h : noCells sc = true) : ∀ y ∈ sc.names, y.2 ≠ .cell := by
  intro y hy e
  have := List.all_eq_true.mp h y hy
  rw [e] at this
  cases this
/-- a generator expression made: D, its description; what stands behind it -/
theorem gen_made {c P : Addr} {elt tg iter : Expr} {ifs : List Expr} {scope : Scope} {own : List (Str × Nat)} {gpos : Pos} {wi : TI} {g : TG} {tt : TT} {te : TE} {k : Nat} {Q' : Value → Shared → Prop}
    (hr : Room (k + 1) X.A) (hc : X.calm = true) (hN : X.N.Nodup) (TB : TabB X.base X.mg c P) (hcode : X.env.code = .ref c) (hi : PI X tg iter wi) (S : GScp X scope own)
    (hg : ∀ (A : Around) (s : Shared) (H : Hp) (C : Addr) (code : Value) (fp : List Addr), PG (Cxg X A s H (genE X scope C code) fp) tg g) (ht : ∀ (A : Around) (s : Shared) (H : Hp) (C : Addr) (code : Value) (fp : List Addr), Room k A → PTs (Cxg X A s H (genE X scope C code) fp) ifs tt)
    (he : ∀ (A : Around) (s : Shared) (H : Hp) (C : Addr) (code : Value) (fp : List Addr), Room k A → PE (Cxg X A s H (genE X scope C code) fp) elt te) (hs : ∀ v, genFold iter X.env v = pure v) (I : Inv X pins σ H s)
    {Wm : It → Hp → Prop} (h : wi σ H fun J H1 => TabG H1 P ∧ ∀ H2, Tabbed P H1 H2 → Wm J H2)
    (hQ : ∀ (J : It) (H2 : Hp), Wm J H2 → ∃ (W : Nat → Nat → Hp → Prop) (Yd : Nat → Nat → V → Hp → Prop) (Qs : Hp → Prop), (∃ m, W 0 m H2) ∧
      (∀ i m H, W i m H → (J.stop i H ∧ Qs H) ∨ (J.go i H ∧ 0 < m ∧ ∃ (Ny : V → Hp → Prop) (Nn : Hp → Prop), (∀ y H', Ny y H' → Yd i m y H') ∧ (∀ H', Nn H' → ∃ m', m' < m ∧ W (i + 1) m' H') ∧ ∀ x H', J.yld i H x H' → g x (wipe σ (own.map (·.2))) H' fun σ2 H2 => wipe σ2 (own.map (·.2)) = wipe σ (own.map (·.2)) ∧ tt σ2 H2 fun b H3 =>
        if b = true then te σ2 H3 Ny else Nn H3)) ∧
      ∀ (D : GD) (s5 : Shared) (m : Nat), D.Ok elt tg iter ifs scope gpos J g tt te (own.map (·.2)) → D.X.prog = X.prog → D.X.w = X.w → D.A = X.A.in1.in1 → D.W = W → D.Yd = Yd → D.Qs = Qs → (∀ h : Heap, h.get? D.a = some D.go → h.IsGen D.a D.g) → D.Ready m 0 m H2 s5 →
        (∀ s' H', Inv D.X D.pins D.σ H' s' → (∀ b ∈ D.fp, H' b = none) → Inv X pins σ H' s') → Q' (.ref D.a) s5) :
    wpAny (model X.prog X.w) X.A (eval (.GeneratorExp elt [⟨tg, iter, ifs, 0⟩] scope gpos) X.env) Q' X.xe s := by
  have hfree : ∀ y ∈ scope.names, y.2 = .free → ∃ c, X.env.cells.lookup y.1 = some c := fun y hy e => by
    rcases S.blk.free y hy e with k | k
    · exact I.ok.has _ (.inl k)
    · exact I.ok.has _ (.inr k)
  refine wpAny_GeneratorExp_make S.co (closure_ok hfree) S.cell S.dot S.blk.kind hr.depth ?_ hs
  refine thn (hi.run pins s σ H _ I h) fun xv s1 hx => thn hx fun itv s2 h2 => ?_
  obtain ⟨it, fp, tn, J, H2, e, I2, T, st2, f2, ⟨ps, hP, htr⟩, q⟩ := h2
  subst e
  refine ⟨I2.nolimit, ?_⟩
  have hPs : s2.heap.get? P = some { cls := .none, data := .fields ps } := I2.hok P _ hP
  have cd : PySem.W.CodeHd s2.heap c P := TB.code.keeps fun b u e => I2.bk b u e
  have cont : ∀ (code : Value) (h3 : Heap) (tk : Nat) (ps' : Array Value), Heap.ExtBut P s2.heap h3 → h3.get? P = some { cls := .none, data := .fields ps' } → (∃ more, ps' = ps ++ more) → TriplesOk ps'.toList →
      wpAny (model X.prog X.w) X.A (builtinsFor X.env.globals X.env.builtins) (fun bi s₄ => ∀ h', h'.Ns s₄.heap.objs.size (fun y => if y = ".0" then some (.ref it) else none) → Heap.SameBut s₄.heap.objs.size (s₄.heap.push { cls := .type "frame", data := .dict #[] }) h' →
          Q' (.ref h'.objs.size) { s₄ with
            gens := s₄.gens.push (.fresh (.compStart (.GeneratorExp elt [⟨tg, iter, ifs, 0⟩] scope gpos) 0 (.ref it) .none (genEnv scope (cloFrom X.env.cells scope.names []) s₄.heap.objs.size code bi X.env))),
            toks := s₄.toks + 1 + 1 + 1,
            heap := h'.push { cls := .type "generator", data := .fields #[.int s₄.gens.size 0, .str "<genexpr>" (s₄.toks + 1), .str (X.env.qual ++ "<genexpr>") (s₄.toks + 1 + 1)] } }) X.xe { s2 with heap := h3, toks := tk } := by
    intro code h3 tk ps' hx hP3 hmore ht3
    obtain ⟨more, em⟩ := hmore
    obtain ⟨bm, ob, e1, e2, e3, e4, e5, e6, e7, e8⟩ := TB.bm
    refine wpAny_builtinsFor (m := X.mg) (by rw [I2.ok.glob]; exact (I2.mod.glob.keeps I2.bk).extBut hx TB.gP) e1 e2 (hx _ _ e4 (I2.bk _ _ e5)) e6 e7 e8 ?_
    have I4 := inv_tab (more := more) (h' := h3) (g' := s2.gens) (d' := s2.drawn) (t' := tk) I2 hP (fun b u hb e => hx b u hb e) (by rw [← em]; exact hP3) I2.bare
    have TG4 : Tabbed P H2 (upd H2 P (.tbl (ps ++ more))) := ⟨⟨ps ++ more, upd_same, by rw [← em]; exact ht3⟩, fun b hb => upd_ne hb⟩
    have wm := q _ TG4
    generalize hH4 : upd H2 P (.tbl (ps ++ more)) = H4 at I4 TG4 wm
    have fpP : ∀ b ∈ fp, b ≠ P := fun b hb z => by
      have := (f2 b hb).1
      rw [z, hP] at this
      cases this
    have sz : ∀ b ∈ fp, b < h3.objs.size := fun b hb => by
      obtain ⟨o, e, _⟩ := T.obj _ _ st2 b hb
      exact Heap.lt_size (hx b o (fpP b hb) e)
    have f4 : ∀ b ∈ fp, FpOk X pins H4 b ∧ b < h3.objs.size := fun b hb => ⟨⟨by rw [TG4.2 b (fpP b hb)]; exact (f2 b hb).1, (f2 b hb).2⟩, sz b hb⟩
    intro h' hn' hs'
    generalize hs4 : ({ s2 with heap := h3, toks := tk } : Shared) = s4 at I4 hn' hs' ⊢
    have hh3 : s4.heap = h3 := by rw [← hs4]
    have f4' : ∀ b ∈ fp, FpOk X pins H4 b ∧ b < s4.heap.objs.size := by rw [hh3]; exact f4
    generalize hgo : ({ cls := .type "generator", data := .fields #[.int s4.gens.size 0, .str "<genexpr>" (s4.toks + 1), .str (X.env.qual ++ "<genexpr>") (s4.toks + 1 + 1)] } : Obj) = go
    have hgoP : (h'.push go).get? h'.objs.size = some go := by rw [← hgo]; exact Heap.get?_push_size _ rfl
    have hsz : h'.objs.size = s4.heap.objs.size + 1 := by rw [hs'.1, Heap.size_push]
    have hAf : (genA X.A (.GeneratorExp elt [⟨tg, iter, ifs, 0⟩] scope gpos) it (genE X scope s4.heap.objs.size code)).frames = some (genE X scope s4.heap.objs.size code :: X.stack) := by
      show pushEnvs [genE X scope s4.heap.objs.size code] X.A.frames = _
      rw [I4.ok.frames]
      rfl
    have hAr : Room k (genA X.A (.GeneratorExp elt [⟨tg, iter, ifs, 0⟩] scope gpos) it (genE X scope s4.heap.objs.size code)) := by
      refine ⟨hr.hd, ?_, ?_⟩
      · have := hr.dp
        show X.A.depth + 1 + 3 * k + 5 < _
        omega
      · have := hr.un
        show X.A.units + 1 + 1 + 3 + 16 * k + 200 < _
        omega
    have bare5 : AllBare (s4.gens.push (.fresh (.compStart (.GeneratorExp elt [⟨tg, iter, ifs, 0⟩] scope gpos) 0 (.ref it) .none (genE X scope s4.heap.objs.size code)))) := AllBare.push I4.bare rfl
    have I5 := gen_start (A := genA X.A (.GeneratorExp elt [⟨tg, iter, ifs, 0⟩] scope gpos) it (genE X scope s4.heap.objs.size code)) (tk := s4.toks + 1 + 1 + 1) (go := go) I4 S.blk S.cell hN f4' hAf (fun _ => hAr.hd) hn' hs' bare5 (fun v z => by rw [← hgo] at z; cases z) hgoP
    have st5 : tn 0 (h'.push go) := T.keep _ _ _ st2 fun b hb o e => Heap.get?_push_of_some _ (hs'.extBut b o (Nat.ne_of_lt (f4' b hb).2) (Heap.get?_push_of_some _ (by rw [hh3]; exact hx b o (fpP b hb) e)))
    obtain ⟨W, Yd, Qs, ⟨m, w0⟩, step, fin⟩ := hQ J H4 wm
    have o : (GD.mk (Cxg X (genA X.A (.GeneratorExp elt [⟨tg, iter, ifs, 0⟩] scope gpos) it (genE X scope s4.heap.objs.size code)) s4 H4 (genE X scope s4.heap.objs.size code) fp) h'.objs.size s4.gens.size go fp it X.A.in1.in1 (wipe σ (own.map (·.2))) tn W Yd Qs).Ok elt tg iter ifs scope gpos J g tt te (own.map (·.2)) := by
      refine ⟨rfl, rfl, rfl, hc, S.co, rfl, rfl, fun b hb => ?_, T, hg _ _ _ _ _ _, ht _ _ _ _ _ _ hAr, he _ _ _ _ _ _ hAr, ?_, step⟩
      · have := (f4' b hb).2
        show b ≠ h'.objs.size
        rw [hsz]
        exact Nat.ne_of_lt (Nat.lt_succ_of_lt this)
      · exact wipe_wipe σ _
    refine fin _ _ m o rfl rfl rfl rfl rfl rfl (fun h e => ?_) (gen_ready o (Nat.le_refl _) w0 ⟨I5, st5, fun b hb => (f4' b hb).1.1⟩ (Array.getElem?_push_size ..)) fun s' H' I' fn' => ?_
    · rw [← hgo] at e
      exact ⟨_, _, _, e, rfl, rfl, rfl⟩
    · exact I4.call' (ch := fp) I'.os I'.base I'.hok I'.bare fun b hb => ⟨(f4' b hb).1.2.2.2.1, (f4' b hb).1.2.1, (f4' b hb).1.2.2.2.2.1, (f4' b hb).1.2.2.2.2.2⟩
  cases hf : codeAmong gpos ps.toList with
  | none =>
    refine wpAny_genexprCodeX hcode (cd.code hPs htr) (cd.tab hPs) hf fun c' h' tk hx hge hlt hco' _ htab' _ => ?_
    obtain ⟨o1, vs, f1, tf, fl, tg, inF, tx, tt, op, _, _, _, _, _, _, _, _, _, htr', _⟩ := hco'
    exact cont _ h' tk _ hx htab'.2 ⟨_, rfl⟩ htr'
  | some cv =>
    refine wpAny_genexprCode_hit hcode (cd.code hPs htr) hf ?_
    exact cont cv s2.heap s2.toks ps (Heap.ExtBut.refl _ _) hPs ⟨#[], by simp⟩ htr
end
end Gx

/-! ## GenAll3 -/
set_option Elab.async false
set_option linter.all false
set_option maxRecDepth 100000
set_option maxHeartbeats 2000000
namespace Gx
open PySem PySem.Spec PyProof.Rows L2 GxR GenW

/-- all(..) | any(..) of a generator expression: P the def's table of code objects; want: the truth that ends the walk -/
def tQuant (want : Bool) (P : Addr) (wi : TI) (g : TG) (tt : TT) (te : TE) (vs : List Nat) : TE := fun σ H Q => wi σ H fun J H1 => TabG H1 P ∧ ∀ H2, Tabbed P H1 H2 → ∃ W : Nat → Nat → Hp → Prop, (∃ m, W 0 m H2) ∧ ∀ i m H, W i m H →
  (J.stop i H ∧ Q (.bl (!want)) H) ∨ (J.go i H ∧ 0 < m ∧ ∃ Nx : Hp → Prop, (∀ H', Nx H' → ∃ m', m' < m ∧ W (i + 1) m' H') ∧ ∀ x H', J.yld i H x H' → g x (wipe σ vs) H' fun σ2 H3 => wipe σ2 vs = wipe σ vs ∧ tt σ2 H3 fun b H4 =>
    if b = true then te σ2 H4 fun y H5 => ∃ c, y = .bl c ∧ if c = want then Q (.bl want) H5 else Nx H5 else Nx H4)
theorem quant_step {want : Bool} {Q : VK} {J : It} {g : TG} {tt : TT} {te : TE} {vs : List Nat} {σ : L2.St} {W : Nat → Nat → Hp → Prop} (step : ∀ i m H, W i m H →
  (J.stop i H ∧ Q (.bl (!want)) H) ∨ (J.go i H ∧ 0 < m ∧ ∃ Nx : Hp → Prop, (∀ H', Nx H' → ∃ m', m' < m ∧ W (i + 1) m' H') ∧ ∀ x H', J.yld i H x H' → g x (wipe σ vs) H' fun σ2 H3 => wipe σ2 vs = wipe σ vs ∧ tt σ2 H3 fun b H4 =>
    if b = true then te σ2 H4 fun y H5 => ∃ c, y = .bl c ∧ if c = want then Q (.bl want) H5 else Nx H5 else Nx H4)) :
    ∀ i m H, W i m H → (J.stop i H ∧ Q (.bl (!want)) H) ∨ (J.go i H ∧ 0 < m ∧ ∃ (Ny : V → Hp → Prop) (Nn : Hp → Prop), (∀ y H', Ny y H' → YdB W want (Q (.bl want)) i m y H') ∧ (∀ H', Nn H' → ∃ m', m' < m ∧ W (i + 1) m' H') ∧ ∀ x H', J.yld i H x H' → g x (wipe σ vs) H' fun σ2 H2 => wipe σ2 vs = wipe σ vs ∧ tt σ2 H2 fun b H3 =>
        if b = true then te σ2 H3 Ny else Nn H3) := by
  intro i m H w
  rcases step i m H w with h | ⟨h1, h2, Nx, hNx, h3⟩
  · exact .inl h
  · refine .inr ⟨h1, h2, _, Nx, fun y H' hy => ?_, hNx, h3⟩
    obtain ⟨c, rfl, q⟩ := hy
    refine ⟨c, rfl, ?_⟩
    by_cases hc : c = want
    · rw [if_pos hc] at q ⊢; exact q
    · rw [if_neg hc] at q ⊢; exact hNx _ q
theorem boot_all : bootBuiltins "all" = some (.builtin "all") := by decide +kernel
section
variable {X : Cx}
theorem pe_allG {c P : Addr} {elt tg iter : Expr} {ifs : List Expr} {scope : Scope} {own : List (Str × Nat)} {p pos gpos : Pos} {wi : TI} {g : TG} {tt : TT} {te : TE} {k : Nat}
    (hr : Room (k + 1) X.A) (hc : X.calm = true) (hN : X.N.Nodup) (hgl : Gl X "all") (hm : X.mg "all" = none) (TB : TabB X.base X.mg c P) (hcode : X.env.code = .ref c) (hi : PI X tg iter wi) (S : GScp X scope own)
    (hg : ∀ (A : Around) (s : Shared) (H : Hp) (C : Addr) (code : Value) (fp : List Addr), PG (Cxg X A s H (genE X scope C code) fp) tg g) (ht : ∀ (A : Around) (s : Shared) (H : Hp) (C : Addr) (code : Value) (fp : List Addr), Room k A → PTs (Cxg X A s H (genE X scope C code) fp) ifs tt)
    (he : ∀ (A : Around) (s : Shared) (H : Hp) (C : Addr) (code : Value) (fp : List Addr), Room k A → PE (Cxg X A s H (genE X scope C code) fp) elt te) (hs : ∀ v, genFold iter X.env v = pure v := by intro _; rfl)
    (hst : starEach [.GeneratorExp elt [⟨tg, iter, ifs, 0⟩] scope gpos] X.env = (false, eval (.GeneratorExp elt [⟨tg, iter, ifs, 0⟩] scope gpos) X.env) :: starEach [] X.env := by rfl) :
    PE X (.Call (.Name "all" p) [.GeneratorExp elt [⟨tg, iter, ifs, 0⟩] scope gpos] [] pos) (tQuant false P wi g tt te (own.map (·.2))) := by
  refine ⟨fun pins s σ H Q I h => ?_⟩
  refine wpAny_Call_Name_kw (ld_blt I hgl hm boot_all ?_)
  refine PyProof.Rows.callWith_builtin1 ?_ hst (by rfl)
  rw [hst]
  show wpAny _ _ (spliced ((false, eval (.GeneratorExp elt [⟨tg, iter, ifs, 0⟩] scope gpos) X.env) :: backTo pos (starEach [] X.env))) _ _ s
  refine Calls.spliced_cons (gen_made hr hc hN TB hcode hi S hg ht he hs I h fun J H2 hW => ?_)
  obtain ⟨W, w0, step⟩ := hW
  refine ⟨W, YdB W false (Q (.bl false)), fun H' => Q (.bl true) H', w0, quant_step step, fun D s5 m o hp hw hA hWe hY hQ hgen rdy back => ?_⟩
  refine Calls.spliced_nil ?_
  refine call_function_tree F.kind_all F.plain_all F.entry_all (F.args_all1 _) ?_
  unfold Builtin.«all»
  refine wpAny_bind (m := oneArg "all" _) (wpAny_pure ?_)
  have pinG := (rdy.at_.inv.pin (D.a, D.go) (List.mem_append_right _ (List.mem_singleton.mpr rfl))).1
  refine wpAny_bind (wpAny_pyIter_gen (hgen _ pinG) ?_)
  refine wpAny_pure ⟨plainId_quiet F.plain_all_loop _, ?_⟩
  rw [← hp, ← hw]
  subst hWe
  refine all_loop o (A := X.A) hA.symm hr.depth hr.hd hgen hY (fun s' H' I' f' q' => ?_) (fun s' H' I' f' q' => ?_) m 0 m s5 H2 rdy
  · rw [hQ] at q'
    exact ⟨.bl true, H', back s' H' I' f', rfl, q'⟩
  · exact ⟨.bl false, H', back s' H' I' f', rfl, q'⟩
theorem pe_anyG {c P : Addr} {elt tg iter : Expr} {ifs : List Expr} {scope : Scope} {own : List (Str × Nat)} {p pos gpos : Pos} {wi : TI} {g : TG} {tt : TT} {te : TE} {k : Nat}
    (hr : Room (k + 1) X.A) (hc : X.calm = true) (hN : X.N.Nodup) (hgl : Gl X "any") (hm : X.mg "any" = none) (TB : TabB X.base X.mg c P) (hcode : X.env.code = .ref c) (hi : PI X tg iter wi) (S : GScp X scope own)
    (hg : ∀ (A : Around) (s : Shared) (H : Hp) (C : Addr) (code : Value) (fp : List Addr), PG (Cxg X A s H (genE X scope C code) fp) tg g) (ht : ∀ (A : Around) (s : Shared) (H : Hp) (C : Addr) (code : Value) (fp : List Addr), Room k A → PTs (Cxg X A s H (genE X scope C code) fp) ifs tt)
    (he : ∀ (A : Around) (s : Shared) (H : Hp) (C : Addr) (code : Value) (fp : List Addr), Room k A → PE (Cxg X A s H (genE X scope C code) fp) elt te) (hs : ∀ v, genFold iter X.env v = pure v := by intro _; rfl)
    (hst : starEach [.GeneratorExp elt [⟨tg, iter, ifs, 0⟩] scope gpos] X.env = (false, eval (.GeneratorExp elt [⟨tg, iter, ifs, 0⟩] scope gpos) X.env) :: starEach [] X.env := by rfl) :
    PE X (.Call (.Name "any" p) [.GeneratorExp elt [⟨tg, iter, ifs, 0⟩] scope gpos] [] pos) (tQuant true P wi g tt te (own.map (·.2))) := by
  refine ⟨fun pins s σ H Q I h => ?_⟩
  refine wpAny_Call_Name_kw (ld_blt I hgl hm boot_any ?_)
  refine PyProof.Rows.callWith_builtin1 ?_ hst (by rfl)
  rw [hst]
  show wpAny _ _ (spliced ((false, eval (.GeneratorExp elt [⟨tg, iter, ifs, 0⟩] scope gpos) X.env) :: backTo pos (starEach [] X.env))) _ _ s
  refine Calls.spliced_cons (gen_made hr hc hN TB hcode hi S hg ht he hs I h fun J H2 hW => ?_)
  obtain ⟨W, w0, step⟩ := hW
  refine ⟨W, YdB W true (Q (.bl true)), fun H' => Q (.bl false) H', w0, quant_step step, fun D s5 m o hp hw hA hWe hY hQ hgen rdy back => ?_⟩
  refine Calls.spliced_nil ?_
  refine call_function_tree F.kind_any F.plain_any F.entry_any (F.args_any1 _) ?_
  unfold Builtin.«any»
  refine wpAny_bind (m := oneArg "any" _) (wpAny_pure ?_)
  have pinG := (rdy.at_.inv.pin (D.a, D.go) (List.mem_append_right _ (List.mem_singleton.mpr rfl))).1
  refine wpAny_bind (wpAny_pyIter_gen (hgen _ pinG) ?_)
  refine wpAny_pure ⟨plainId_quiet F.plain_any_loop _, ?_⟩
  rw [← hp, ← hw]
  subst hWe
  refine any_loop o (A := X.A) hA.symm hr.depth hr.hd hgen hY (fun s' H' I' f' q' => ?_) (fun s' H' I' f' q' => ?_) m 0 m s5 H2 rdy
  · rw [hQ] at q'
    exact ⟨.bl false, H', back s' H' I' f', rfl, q'⟩
  · exact ⟨.bl true, H', back s' H' I' f', rfl, q'⟩
end
/-- over a walk: Pv by the turn and the heap -/
theorem quant_it {want : Bool} {J : It} {n : Nat} {G : Hp → Prop} {Y : Nat → Hp → V → Hp → Prop} (w : Walk J n G Y) {g : TG} {tt : TT} {te : TE} {vs : List Nat} {σ : L2.St} {H2 : Hp} {Q : VK} (Pv : Nat → Hp → Prop) (h0 : Pv 0 H2) (hG : ∀ i H, i ≤ n → Pv i H → G H)
    (hs : ∀ i x H H', i < n → Pv i H → Y i H x H' → g x (wipe σ vs) H' fun σ2 H3 => wipe σ2 vs = wipe σ vs ∧ tt σ2 H3 fun b H4 => if b = true then te σ2 H4 fun y H5 => ∃ c, y = .bl c ∧ if c = want then Q (.bl want) H5 else Pv (i + 1) H5 else Pv (i + 1) H4)
    (hd : ∀ H, Pv n H → Q (.bl (!want)) H) :
    ∃ W : Nat → Nat → Hp → Prop, (∃ m, W 0 m H2) ∧ ∀ i m H, W i m H →
      (J.stop i H ∧ Q (.bl (!want)) H) ∨ (J.go i H ∧ 0 < m ∧ ∃ Nx : Hp → Prop, (∀ H', Nx H' → ∃ m', m' < m ∧ W (i + 1) m' H') ∧ ∀ x H', J.yld i H x H' → g x (wipe σ vs) H' fun σ2 H3 => wipe σ2 vs = wipe σ vs ∧ tt σ2 H3 fun b H4 =>
        if b = true then te σ2 H4 fun y H5 => ∃ c, y = .bl c ∧ if c = want then Q (.bl want) H5 else Nx H5 else Nx H4) := by
  refine ⟨fun i m H => m = n - i ∧ i ≤ n ∧ Pv i H, ⟨n, by simp, Nat.zero_le _, h0⟩, ?_⟩
  rintro i m H ⟨rfl, hi, p⟩
  have q := hG i H hi p
  by_cases hlt : i < n
  · exact .inr ⟨w.goes i H hlt q, by omega, Pv (i + 1), fun H' p' => ⟨n - (i + 1), by omega, rfl, hlt, p'⟩, fun x H' y => hs i x H H' hlt p (w.yields i H x H' hlt q y)⟩
  · have e : i = n := by omega
    subst e
    exact .inl ⟨w.stops H q, hd H p⟩
end Gx

/-! ## Lk -/
set_option Elab.async false
set_option linter.all false
set_option maxRecDepth 100000
set_option maxHeartbeats 2000000
/-! What all defs of the package's laws are told with: tuples of ints, webs; heaps that have grown; callees. -/
namespace Lk
open PySem PySem.Spec PyProof.Rows L2 Gx
open GxR (TabG Tabbed TabB)

/-! ### heaps -/
def isTbl : HO → Bool
  | .tbl _ => true
  | _ => false
/-- tables that no generator of a def writes at -/
class Own where
  own : Addr → Prop
variable [Own]
/-- all that was tracked is as it was, but that tables may have grown -/
structure Ext (H H' : Hp) : Prop where
  keep : ∀ a o, H a = some o → isTbl o = false → H' a = some o
  tab : ∀ P, TabG H P → TabG H' P
  tb : ∀ a o, H a = some o → ∃ o', H' a = some o'
  own : ∀ P ps, Own.own P → H P = some (.tbl ps) → H' P = some (.tbl ps)
theorem Ext.refl (H : Hp) : Ext H H := ⟨fun _ _ h _ => h, fun _ h => h, fun _ _ h => ⟨_, h⟩, fun _ _ _ h => h⟩
theorem Ext.trans {H H1 H2 : Hp} (a : Ext H H1) (b : Ext H1 H2) : Ext H H2 := ⟨fun c o h q => b.keep c o (a.keep c o h q) q, fun P h => b.tab P (a.tab P h), fun c o h => by
  obtain ⟨o', h'⟩ := a.tb c o h
  exact b.tb c o' h', fun P ps o h => b.own P ps o (a.own P ps o h)⟩
theorem Ext.new {H : Hp} {p : Addr} (h : H p = none) (o : HO) : Ext H (upd H p o) := ⟨fun a u e _ => by rw [upd_ne (ne_of_none e h)]; exact e, fun P ⟨ps, e, t⟩ => ⟨ps, by rw [upd_ne (ne_of_none e h)]; exact e, t⟩, fun a u e => ⟨u, by rw [upd_ne (ne_of_none e h)]; exact e⟩, fun P ps _ e => by rw [upd_ne (ne_of_none e h)]; exact e⟩
theorem Ext.tabbed {H H' : Hp} {P : Addr} (hn : ¬ Own.own P) (h : TabG H P) (t : Tabbed P H H') : Ext H H' := by
  obtain ⟨ps, e, ht⟩ := h
  refine ⟨fun a o e' q => ?_, fun P' h' => ?_, fun a o e' => ?_, fun P' qs o e1 => by rw [t.2 P' (fun z => hn (z ▸ o))]; exact e1⟩
  · have : a ≠ P := fun z => by
      rw [z, e] at e'
      cases e'
      cases q
    rw [t.2 a this]; exact e'
  · by_cases z : P' = P
    · rw [z]; exact t.1
    · obtain ⟨qs, e1, t1⟩ := h'
      exact ⟨qs, by rw [t.2 P' z]; exact e1, t1⟩
  · by_cases z : a = P
    · obtain ⟨qs, e1, _⟩ := t.1
      exact ⟨_, by rw [z]; exact e1⟩
    · exact ⟨o, by rw [t.2 a z]; exact e'⟩
theorem Ext.free {H H' : Hp} (e : Ext H H') {l : Addr} (h : H' l = none) : H l = none := by
  cases q : H l with
  | none => rfl
  | some o =>
    obtain ⟨o', h'⟩ := e.tb l o q
    rw [h] at h'
    cases h'
theorem Ext.tup {H H' : Hp} (e : Ext H H') {a : Addr} {xs : List V} (h : H a = some (.tup xs)) : H' a = some (.tup xs) := e.keep _ _ h rfl
theorem Ext.lst {H H' : Hp} (e : Ext H H') {a : Addr} {xs : List V} (h : H a = some (.lst xs)) : H' a = some (.lst xs) := e.keep _ _ h rfl
/-- a list that grows, new behind H0 -/
theorem Ext.put {H0 H : Hp} {p : Addr} (e : Ext H0 H) (h : H0 p = none) (o : HO) : Ext H0 (upd H p o) := ⟨fun a u q t => by rw [upd_ne (ne_of_none q h)]; exact e.keep a u q t, fun P ⟨ps, q, t⟩ => by
  obtain ⟨qs, q', t'⟩ := e.tab P ⟨ps, q, t⟩
  exact ⟨qs, by rw [upd_ne (ne_of_none q h)]; exact q', t'⟩, fun a u q => by
  obtain ⟨o', h'⟩ := e.tb a u q
  exact ⟨o', by rw [upd_ne (ne_of_none q h)]; exact h'⟩, fun P ps o q => by rw [upd_ne (ne_of_none q h)]; exact e.own P ps o q⟩
/-- the tables that the defs have -/
def Tabs (Ps : List Addr) (H : Hp) : Prop := ∀ P ∈ Ps, TabG H P
theorem Tabs.ext {Ps : List Addr} {H H' : Hp} (t : Tabs Ps H) (e : Ext H H') : Tabs Ps H' := fun P h => e.tab P (t P h)

/-! ### tuples of ints, of such -/
theorem paired_mono {α β : Type} {R S : α → β → Prop} (h : ∀ a b, R a b → S a b) : ∀ {l : List α} {m : List β}, Paired R l m → Paired S l m
  | _, _, .nil => .nil
  | _, _, .cons r t => .cons (h _ _ r) (paired_mono h t)
theorem paired_get {α β : Type} {R : α → β → Prop} : ∀ {l : List α} {m : List β} {i : Nat} {b : β}, Paired R l m → m[i]? = some b → ∃ a, l[i]? = some a ∧ R a b
  | _, _, _, _, .nil, e => by simp at e
  | _, _, 0, _, .cons r _, e => by simp at e; subst e; exact ⟨_, rfl, r⟩
  | _, _, i + 1, _, .cons _ t, e => by
    obtain ⟨a, h1, h2⟩ := paired_get (i := i) t (by simpa using e)
    exact ⟨a, by simpa using h1, h2⟩
theorem paired_get' {α β : Type} {R : α → β → Prop} : ∀ {l : List α} {m : List β} {i : Nat} {a : α}, Paired R l m → l[i]? = some a → ∃ b, m[i]? = some b ∧ R a b
  | _, _, _, _, .nil, e => by simp at e
  | _, _, 0, _, .cons r _, e => by simp at e; subst e; exact ⟨_, rfl, r⟩
  | _, _, i + 1, _, .cons _ t, e => by
    obtain ⟨a, h1, h2⟩ := paired_get' (i := i) t (by simpa using e)
    exact ⟨a, by simpa using h1, h2⟩
theorem paired_snoc {α β : Type} {R : α → β → Prop} {a : α} {b : β} (r : R a b) : ∀ {l : List α} {m : List β}, Paired R l m → Paired R (l ++ [a]) (m ++ [b])
  | _, _, .nil => .cons r .nil
  | _, _, .cons q t => .cons q (paired_snoc r t)
theorem paired_len {α β : Type} {R : α → β → Prop} : ∀ {l : List α} {m : List β}, Paired R l m → l.length = m.length
  | _, _, .nil => rfl
  | _, _, .cons _ t => by rw [List.length_cons, List.length_cons, paired_len t]
/-- the ints' values -/
abbrev iv (ns : List Int) : List V := ns.map V.int
theorem iv_get {ns : List Int} {i : Nat} {x : V} (h : (iv ns)[i]? = some x) : ∃ n, ns[i]? = some n ∧ x = .int n := by
  rw [List.getElem?_map] at h
  cases e : ns[i]? with
  | none => rw [e] at h; cases h
  | some n => rw [e] at h; exact ⟨n, rfl, (Option.some.inj h).symm⟩
theorem iv_at {ns : List Int} {i : Nat} {n : Int} (h : ns[i]? = some n) : (iv ns)[i]? = some (.int n) := by rw [List.getElem?_map, h]; rfl
theorem iv_len (ns : List Int) : (iv ns).length = ns.length := List.length_map ..
/-- a tuple of ints -/
def TI (H : Hp) (v : V) (ns : List Int) : Prop := ∃ a, v = .ref a ∧ H a = some (.tup (iv ns))
/-- a tuple of tuples of ints -/
def TT2 (H : Hp) (v : V) (rows : List (List Int)) : Prop := ∃ a vs, v = .ref a ∧ H a = some (.tup vs) ∧ Paired (TI H) vs rows
/-- a list of ints, of tuples of ints -/
def LI (H : Hp) (v : V) (ns : List Int) : Prop := ∃ a, v = .ref a ∧ H a = some (.lst (iv ns))
def LT2 (H : Hp) (v : V) (rows : List (List Int)) : Prop := ∃ a vs, v = .ref a ∧ H a = some (.lst vs) ∧ Paired (TI H) vs rows
theorem TI.ext {H H' : Hp} {v : V} {ns : List Int} (e : Ext H H') (h : TI H v ns) : TI H' v ns := by
  obtain ⟨a, q, h⟩ := h
  exact ⟨a, q, e.tup h⟩
theorem pTI.ext {H H' : Hp} {vs : List V} {rows : List (List Int)} (e : Ext H H') (h : Paired (TI H) vs rows) : Paired (TI H') vs rows := paired_mono (fun _ _ r => r.ext e) h
theorem TT2.ext {H H' : Hp} {v : V} {rows : List (List Int)} (e : Ext H H') (h : TT2 H v rows) : TT2 H' v rows := by
  obtain ⟨a, vs, q, h, p⟩ := h
  exact ⟨a, vs, q, e.tup h, pTI.ext e p⟩
theorem LI.ext {H H' : Hp} {v : V} {ns : List Int} (e : Ext H H') (h : LI H v ns) : LI H' v ns := by
  obtain ⟨a, q, h⟩ := h
  exact ⟨a, q, e.lst h⟩
theorem LT2.ext {H H' : Hp} {v : V} {rows : List (List Int)} (e : Ext H H') (h : LT2 H v rows) : LT2 H' v rows := by
  obtain ⟨a, vs, q, h, p⟩ := h
  exact ⟨a, vs, q, e.lst h, pTI.ext e p⟩

/-! ### webs -/
/-- a look: one, other, sign -/
abbrev Look3 := Int × Int × Int
def row3 (l : Look3) : List Int := [l.1, l.2.1, l.2.2]
structure Web where
  tops : List Int
  looks : List Look3
structure Web.Ok (W : Web) : Prop where
  some_ : 1 ≤ W.tops.length
  few : W.tops.length ≤ 6
  tops : ∀ t ∈ W.tops, 1 ≤ t ∧ t ≤ 3
  most : W.looks.length ≤ 14
  look : ∀ l ∈ W.looks, (0 ≤ l.1 ∧ l.1 < W.tops.length) ∧ (0 ≤ l.2.1 ∧ l.2.1 < W.tops.length) ∧ (l.2.2 = 1 ∨ l.2.2 = -1)
  asc : W.looks.Pairwise fun k l => k.1 < l.1 ∨ k.1 = l.1 ∧ k.2.1 < l.2.1
  four : ∀ f : Int, ((W.looks.map fun l => l.2.1).filter fun o => o == f).length ≤ 4
def WebAt (H : Hp) (v : V) (W : Web) : Prop := ∃ a t l, v = .ref a ∧ H a = some (.tup [t, l]) ∧ TI H t W.tops ∧ TT2 H l (W.looks.map row3)
theorem WebAt.ext {H H' : Hp} {v : V} {W : Web} (e : Ext H H') (h : WebAt H v W) : WebAt H' v W := by
  obtain ⟨a, t, l, q, h, p1, p2⟩ := h
  exact ⟨a, t, l, q, e.tup h, p1.ext e, p2.ext e⟩

/-! ### callees -/
/-- the def of that name, its promise at level k -/
structure Cal (P : Program) (w : World) (K : PySem.W.Frag) (mg : Str → Option Value) (base : Heap) (CX : CXT) (k : Nat) (x : Str) (ps : List Str) (sp : Sp) : Prop where
  ex : ∃ f fd, mg x = some (.ref f) ∧ PySem.W.keepIn K (.ref f) = true ∧ Binds K fd ps [] ∧ FnOk P w K mg base CX k f fd ps sp
section
variable {X : Cx} {CX : CXT} {k : Nat} {ps : List Str} {sp : Sp} {E : XK} {x : Str} {p pos : Pos} {e : Expr} {es : List Expr} {t : TA}
theorem pe_cal (F : Cal X.prog X.w X.K X.mg X.base CX k x ps sp) (hr : Room k X.A) (hg : Gl X x) (hx : Passes CX X E)
    (ha : PA X (e :: es) t) (hdb : (x == ("__debug__" : Str)) = false := by decide) (he : starEach (e :: es) X.env = (false, eval e X.env) :: starEach es X.env := by rfl) (hpl : (backTo pos (starEach es X.env)).any (·.1) = false := by rfl) :
    PE X (.Call (.Name x p) (e :: es) [] pos) (tCall sp [] E t) := by
  obtain ⟨f, fd, hm, hk, hb, G⟩ := F.ex
  exact pe_call G hr hg hm hk hb .nil hx ha hdb he hpl
/-- .. that raises nothing -/
theorem pe_c0 (F : Cal X.prog X.w X.K X.mg X.base CX0 k x ps sp) (hr : Room k X.A) (hg : Gl X x)
    (ha : PA X (e :: es) t) (hdb : (x == ("__debug__" : Str)) = false := by decide) (he : starEach (e :: es) X.env = (false, eval e X.env) :: starEach es X.env := by rfl) (hpl : (backTo pos (starEach es X.env)).any (·.1) = false := by rfl) :
    PE X (.Call (.Name x p) (e :: es) [] pos) (tCall sp [] E0 t) := pe_cal F hr hg pass0 ha hdb he hpl
end
/-- a def with a table of code objects of its own: its code object's address, its table's -/
structure FunT (K : PySem.W.Frag) (mg : Str → Option Value) (base : Heap) (Ps : List Addr) (x : Str) (st : Stmt) (f : Addr) (fd : FuncData) (P : Addr) : Prop where
  ex : ∃ (oc : Value) (od : Option Addr) (kV doc pm : Value) (an : Option Addr) (c : Addr) (ct : Value) (osl : Array (Option Value)),
    fd = PySem.W.fnOf x x (defArgs st) (defBody st) (defScope st) .none kV doc pm an (.ref c) ct ∧ K.lookup f = some ⟨oc, od, .func fd, osl⟩ ∧ PySem.W.codeIn K (.ref c) x = true ∧ TabB base mg c P
  mem : P ∈ Ps
  nown : ¬ Own.own P
section
variable {P : Program} {w : World} {K : PySem.W.Frag} {mg : Str → Option Value} {base : Heap}
theorem FunT.ok {Ps : List Addr} {x : Str} {st : Stmt} {f : Addr} {fd : FuncData} {T : Addr} {N ps : List Str} {k : Nat} {sp : Sp} (F : FunT K mg base Ps x st f fd T) (S : FnScope N ps (defScope st)) (len : ∀ vs H Q E, sp vs H Q E → vs.length = ps.length)
    (hbody : ∀ (c : Addr) (A : Around) (outer : List Env) (s : Shared) (H : Hp) (vs : List V) (Q : VK) (E : XK), TabB base mg c T → Room k (A.deeper (envOfC x (defScope st) s.heap.objs.size f (.ref c))) → sp vs H Q E →
      ∃ t, PSs (cxOf CX0 P w K mg base N x (defScope st) f (.ref c) A outer s H E).nox (defBody st) t ∧ t { nx := fun _ H' => Q .non H', rt := Q } (start N vs) H) : FnOk P w K mg base CX0 (k + 1) f fd ps sp := by
  obtain ⟨oc, od, kV, doc, pm, an, c, ct, osl, rfl, lk, hcd, tb⟩ := F.ex
  refine fn_of lk hcd S len fun A outer s H vs Q E hr hsp => ?_
  obtain ⟨t, h, q⟩ := hbody c A outer s H vs Q E tb hr hsp
  exact ⟨t, h.nox, q⟩
end
/-- a value is an int: isinstance by the built-in class -/
theorem isi_int {K : PySem.W.Frag} {H : Hp} (i : Int) : TyX K H (.int i) (.type "int") := .base (.int i)
end Lk

/-! ## Top -/
set_option Elab.async false
set_option maxRecDepth 100000
namespace Lk
open PySem
/-- the i-th statement of the program -/
def top (i : Nat) : Stmt := PySem.Challenge.pw_likespite_k01_whole_rings.main.body.getD i (.Pass ⟨0, 0, 0, 0⟩)
end Lk

/-! ## D01 -/
set_option Elab.async false
set_option linter.all false
set_option maxRecDepth 100000
set_option maxHeartbeats 2000000
namespace Lk
open PySem PySem.Spec PyProof.Rows L2 Gx
open GxR (TabG Tabbed TabB)
variable [Own]
abbrev sIsWhole : Stmt := top 10
def isWhole (i lo hi : Int) : Bool := decide (lo ≤ i) && decide (i ≤ hi)
def spIsWhole : Sp := fun vs H Q _ => ∃ i lo hi : Int, vs = [.int i, .int lo, .int hi] ∧ Q (.bl (isWhole i lo hi)) H
section
variable {P : Program} {w : World} {K : PySem.W.Frag} {mg : Str → Option Value} {base : Heap}
theorem scIsWhole : FnScope ["value", "least", "most"] ["value", "least", "most"] (defScope sIsWhole) := ⟨rfl, rfl, rfl, by decide +kernel, rfl, by decide +kernel, by decide +kernel⟩
theorem boot_isinstance : bootBuiltins "isinstance" = some (.builtin "isinstance") := by decide +kernel
theorem boot_tyInt : bootBuiltins "int" = some (.type "int") := by decide +kernel
theorem boot_tyBool : bootBuiltins "bool" = some (.type "bool") := by decide +kernel
theorem ok_is_whole {f : Addr} {fd : FuncData} (F : Fun K "is_whole" "is_whole" sIsWhole f fd) (ni : mg "isinstance" = none) (nI : mg "int" = none) (nB : mg "bool" = none) : FnOk P w K mg base CX0 1 f fd ["value", "least", "most"] spIsWhole := by
  refine F.ok scIsWhole (fun vs H Q E h => ?_) (fun cdv A outer s H vs Q E hr h => ?_)
  · obtain ⟨i, lo, hi, rfl, _⟩ := h
    rfl
  · obtain ⟨i, lo, hi, rfl, k⟩ := h
    refine ⟨_, pss_one (ps_ret (pe_and (pe_callB call_isi (by rfl) ni boot_isinstance (pa_cons (pv 0) (pa_cons (pe_bltn (v := .ty "int") (by rfl) nI boot_tyInt rfl) pa_nil)))
      (pe_and (pe_not (pe_callB call_isi (by rfl) ni boot_isinstance (pa_cons (pv 0) (pa_cons (pe_bltn (v := .ty "bool") (by rfl) nB boot_tyBool rfl) pa_nil))))
      (pe_one (pe_chain op_le op_le (pv 1) (pv 0) (pv 2)))))), ?_⟩
    refine ⟨_, rfl, _, _, _, _, true, rfl, .ty "int", isi_int i, kit_ty (by decide +kernel), _, rfl, iteT ?_⟩
    refine ⟨_, rfl, _, _, _, _, false, rfl, .ty "bool", isi_int i, kit_ty (by decide +kernel), _, rfl, _, rfl, iteT ?_⟩
    refine ⟨_, rfl, _, rfl, _, _, rfl, rfl, _, rfl, ?_⟩
    unfold isWhole at k
    by_cases h : lo ≤ i
    · rw [decide_eq_true h, Bool.true_and] at k
      rw [decide_eq_true h]
      refine iteT ?_
      refine ⟨_, rfl, _, _, rfl, rfl, ?_⟩
      exact k
    · rw [decide_eq_false h, Bool.false_and] at k
      rw [decide_eq_false h]
      exact iteF k
end
end Lk

/-! ## D02 -/
set_option Elab.async false
set_option linter.all false
set_option maxRecDepth 100000
set_option maxHeartbeats 2000000
namespace Lk
open PySem PySem.Spec PyProof.Rows L2 Gx
open GxR (TabG Tabbed TabB)
variable [Own]
theorem iteTF {A B : Prop} (h : B) : if true = false then A else B := by
  rw [if_neg (by decide)]
  exact h
theorem iteFF {A B : Prop} (h : A) : if false = false then A else B := by
  rw [if_pos rfl]
  exact h
theorem ite_of {c : Bool} {A B : Prop} (h1 : c = true → A) (h2 : c = false → B) : if c = true then A else B := by
  cases c with
  | true => exact iteT (h1 rfl)
  | false => exact iteF (h2 rfl)
theorem iteb {c : Bool} {A B : Prop} (hc : c = true) (h : A) : if c = true then A else B := by rw [hc]; exact iteT h
theorem itebf {c : Bool} {A B : Prop} (hc : c = false) (h : B) : if c = true then A else B := by rw [hc]; exact iteF h
theorem yes {σ : L2.St} {H : Hp} {A B : Hp → Prop} (h : A H) : tYes σ H fun b H' => if b = true then A H' else B H' := by
  show if true = true then A H else B H
  exact iteT h
theorem boot_tyTuple : bootBuiltins "tuple" = some (.type "tuple") := by decide +kernel
theorem boot_tyList : bootBuiltins "list" = some (.type "list") := by decide +kernel
theorem boot_tyStr : bootBuiltins "str" = some (.type "str") := by decide +kernel
theorem boot_set : bootBuiltins "set" = some (.type "set") := by decide +kernel
theorem boot_max : bootBuiltins "max" = some (.builtin "max") := by decide +kernel
theorem boot_sorted : bootBuiltins "sorted" = some (.builtin "sorted") := by decide +kernel
theorem isi_tup {K : PySem.W.Frag} {H : Hp} {a : Addr} {xs : List V} (h : H a = some (.tup xs)) : TyX K H (.ref a) (.type "tuple") := .base (.tup h)
/-- a written number of the module -/
def Num (mg : Str → Option Value) (x : Str) (n : Int) : Prop := ∃ t, mg x = some (.int n t)
theorem pe_num {X : Cx} {x : Str} {n : Int} {pos : Pos} (h : Num X.mg x n) (hg : Gl X x) (hd : (x == ("__debug__" : Str)) = false := by decide) : PE X (.Name x pos) (tC (.int n)) := by
  obtain ⟨t, h⟩ := h
  exact pe_glob hg h ⟨t, rfl⟩ hd
/-- the names of the built-ins that the module has not made its own -/
structure Blt (mg : Str → Option Value) : Prop where
  isi : mg "isinstance" = none
  int : mg "int" = none
  bool : mg "bool" = none
  tuple : mg "tuple" = none
  list : mg "list" = none
  set : mg "set" = none
  len : mg "len" = none
  all : mg "all" = none
  range : mg "range" = none
  sorted : mg "sorted" = none
  enum : mg "enumerate" = none
  zip : mg "zip" = none
  max : mg "max" = none
  str : mg "str" = none
  sup : mg "super" = none
structure Nums (mg : Str → Option Value) : Prop where
  MOST_FOLK : Num mg "MOST_FOLK" 6
  MOST_TOP : Num mg "MOST_TOP" 3
  MOST_LOOKS : Num mg "MOST_LOOKS" 14
  MOST_LOOKS_OF_ONE : Num mg "MOST_LOOKS_OF_ONE" 4
end Lk

/-! ## Dat -/
set_option Elab.async false
set_option linter.all false
set_option maxRecDepth 100000
set_option maxHeartbeats 2000000
/-! Tuples and lists of ints as data: when two are equal. -/
namespace Lk
open PySem PySem.Spec PyProof.Rows L2 Gx
variable [Own]
abbrev dI (ns : List Int) : PyData := .tuple (ns.map .int)
theorem eqv_ii (a b : Int) : PyData.eqv (.int a) (.int b) = decide (a = b) := by
  simp only [PyData.eqv]
  first | rfl | exact Bool.beq_eq_decide_eq .. | (by_cases h : a = b <;> simp [h])
theorem eqvAll_ints : ∀ a b : List Int, PyData.eqvAll (a.map .int) (b.map .int) = decide (a = b)
  | [], [] => by simp [PyData.eqvAll]
  | [], _ :: _ => by simp [PyData.eqvAll]
  | _ :: _, [] => by simp [PyData.eqvAll]
  | x :: xs, y :: ys => by
    rw [List.map_cons, List.map_cons]
    simp only [PyData.eqvAll]
    rw [eqv_ii, eqvAll_ints xs ys]
    by_cases h1 : x = y <;> by_cases h2 : xs = ys <;> simp [h1, h2]
theorem eqv_tt (a b : List Int) : PyData.eqv (dI a) (dI b) = decide (a = b) := by
  show PyData.eqv (.tuple _) (.tuple _) = _
  simp only [PyData.eqv]
  exact eqvAll_ints a b
theorem eqvAll_rows : ∀ a b : List (List Int), PyData.eqvAll (a.map dI) (b.map dI) = decide (a = b)
  | [], [] => by simp [PyData.eqvAll]
  | [], _ :: _ => by simp [PyData.eqvAll]
  | _ :: _, [] => by simp [PyData.eqvAll]
  | x :: xs, y :: ys => by
    rw [List.map_cons, List.map_cons]
    simp only [PyData.eqvAll]
    rw [eqv_tt, eqvAll_rows xs ys]
    by_cases h1 : x = y <;> by_cases h2 : xs = ys <;> simp [h1, h2]
theorem eqv_ll (a b : List (List Int)) : PyData.eqv (.list (a.map dI)) (.list (b.map dI)) = decide (a = b) := by
  simp only [PyData.eqv]
  exact eqvAll_rows a b
theorem canLay_ints : ∀ a : List Int, PyData.canLayAll0 (a.map .int) = true
  | [] => by simp [PyData.canLayAll0]
  | x :: xs => by
    rw [List.map_cons]
    simp only [PyData.canLayAll0, PyData.canLay0, canLay_ints xs, Bool.and_self]
theorem canLay_rows : ∀ a : List (List Int), PyData.canLayAll0 (a.map dI) = true
  | [] => by simp [PyData.canLayAll0]
  | x :: xs => by
    rw [List.map_cons]
    simp only [PyData.canLayAll0, PyData.canLay0, canLay_ints x, canLay_rows xs, Bool.and_self]
theorem depth_ints : ∀ a : List Int, PyData.depthAll (a.map .int) = 0
  | [] => by simp [PyData.depthAll]
  | x :: xs => by
    rw [List.map_cons]
    simp only [PyData.depthAll, PyData.depth, depth_ints xs, Nat.max_self]
theorem depth_rows : ∀ a : List (List Int), PyData.depthAll (a.map dI) ≤ 1
  | [] => by simp [PyData.depthAll]
  | x :: xs => by
    rw [List.map_cons]
    have h := depth_rows xs
    simp only [PyData.depthAll, PyData.depth, depth_ints x]
    omega
theorem shaped_t (a : List Int) : SeqAt.shaped (dI a) = true := by
  unfold SeqAt.shaped
  simp only [PyData.canLay0, canLay_ints a, PyData.depth, depth_ints a, Bool.true_and]
  decide
theorem shaped_l (a : List (List Int)) : SeqAt.shaped (.list (a.map dI)) = true := by
  unfold SeqAt.shaped
  have h := depth_rows a
  simp only [PyData.canLay0, canLay_rows a, PyData.depth, Bool.true_and]
  exact decide_eq_true (by omega)
theorem shaped_tl (a : List (List Int)) : SeqAt.shaped (.tuple (a.map dI)) = true := by
  unfold SeqAt.shaped
  have h := depth_rows a
  simp only [PyData.canLay0, canLay_rows a, PyData.depth, Bool.true_and]
  exact decide_eq_true (by omega)
section
variable {K : PySem.W.Frag} {H : Hp}
theorem dpAll_ints : ∀ ns : List Int, DpAll K H (iv ns) (ns.map .int)
  | [] => .nil
  | n :: ns => .cons (.int n) (dpAll_ints ns)
theorem TI.dp {v : V} {ns : List Int} (h : TI H v ns) : Dp K H v (dI ns) := by
  obtain ⟨a, rfl, h⟩ := h
  exact .tup (SqT.of h) (dpAll_ints ns)
theorem pTI.dp : ∀ {vs : List V} {rows : List (List Int)}, Paired (TI H) vs rows → DpAll K H vs (rows.map dI)
  | _, _, .nil => .nil
  | _, _, .cons r t => .cons r.dp (pTI.dp t)
theorem LT2.dp {v : V} {rows : List (List Int)} (h : LT2 H v rows) : Dp K H v (.list (rows.map dI)) := by
  obtain ⟨a, vs, rfl, h, p⟩ := h
  exact .lst (SqL.of h) (pTI.dp p)
theorem TT2.dp {v : V} {rows : List (List Int)} (h : TT2 H v rows) : Dp K H v (.tuple (rows.map dI)) := by
  obtain ⟨a, vs, rfl, h, p⟩ := h
  exact .tup (SqT.of h) (pTI.dp p)
end
end Lk

/-! ## LkT -/
set_option Elab.async false
set_option linter.all false
set_option maxRecDepth 100000
set_option maxHeartbeats 2000000
/-! Rules over what is tracked alone (no word of the written part): for comprehensions and generators, too. -/
namespace Lk
open PySem PySem.Spec PyProof.Rows L2 Gx
variable [Own]
section
variable {X : Cx} {pos : Pos}
def gTupT (n : Nat) (t : TGs) : TG := fun v σ H Q => ∃ a xs, v = .ref a ∧ H a = some (.tup xs) ∧ xs.length = n ∧ t xs σ H Q
theorem pg_tupT {es : List Expr} {k : Nat} {t : TGs} {n : Nat} (hc : X.calm = true) (h : PGs X es t)
    (hn : (assignEach es X.env).length = n := by rfl) (hst : (assignEach es X.env).findIdx? (·.1) = none := by rfl) : PG X (.Tuple es k pos) (gTupT n t) := by
  refine ⟨fun pins s σ H v u Q I r hw => ?_⟩
  obtain ⟨a, xs, e1, hq, hl, hw⟩ := hw
  exact (pg_tup hc h hn hst).run pins s σ H v u Q I r ⟨a, xs, e1, SqT.of hq, hl, hw⟩
/-- t[i], of a tuple; xs[i], of a list -/
def rIxTT : R2 := fun x y H Q => ∃ p xs i v, x = .ref p ∧ y = .int i ∧ H p = some (.tup xs) ∧ atI xs i = some v ∧ Q v H
def rIxLT : R2 := fun x y H Q => ∃ p xs i v, x = .ref p ∧ y = .int i ∧ H p = some (.lst xs) ∧ atI xs i = some v ∧ Q v H
theorem ix_tT : IxR X rIxTT := by
  intro value slice pins s σ H x y v u Q I rx ry h hs
  obtain ⟨p, xs, i, z, e1, e2, hq, he, q⟩ := h
  exact ix_tup value slice pins s σ H x y v u Q I rx ry ⟨p, xs, i, z, e1, e2, SqT.of hq, he, q⟩ hs
theorem ix_lT : IxR X rIxLT := by
  intro value slice pins s σ H x y v u Q I rx ry h hs
  obtain ⟨p, xs, i, z, e1, e2, hq, he, q⟩ := h
  exact ix_list value slice pins s σ H x y v u Q I rx ry ⟨p, xs, i, z, e1, e2, SqL.of hq, he, q⟩ hs
/-- len of a tuple or a list -/
def rLenT : List V → Hp → VK → Prop := fun xs H Q => ∃ p ys, xs = [.ref p] ∧ (H p = some (.lst ys) ∨ H p = some (.tup ys)) ∧ Q (.int ys.length) H
theorem call_lenT : CallR X (.builtin "len") rLenT := by
  intro pins s σ H xs us Q I r h
  obtain ⟨p, ys, e, hq, q⟩ := h
  exact call_len_seq pins s σ H xs us Q I r ⟨p, ys, e, hq.imp SqL.of SqT.of, q⟩
/-- tuple + tuple -/
def rCatT : R2 := fun x y H Q => ∃ a b xs ys, x = .ref a ∧ y = .ref b ∧ H a = some (.tup xs) ∧ H b = some (.tup ys) ∧ xs.length + ys.length ≤ sizeLine ∧
  (xs = [] → Q (.ref b) H) ∧ (xs ≠ [] → ys = [] → Q (.ref a) H) ∧ (xs ≠ [] → ys ≠ [] → ∀ p, H p = none → Q (.ref p) (upd H p (.tup (xs ++ ys))))
theorem op_catTT : OpR X (binaryOp .Add) rCatT := by
  intro pins s σ H x y v u Q I rx ry h
  obtain ⟨a, b, xs, ys, e1, e2, h1, h2, q⟩ := h
  exact op_catA pins s σ H x y v u Q I rx ry ⟨a, b, xs, ys, e1, e2, SqT.of h1, SqT.of h2, q⟩
/-- tuple(list) -/
def kTupL : V → Hp → VK → Prop := fun x H Q => ∃ p xs, x = .ref p ∧ H p = some (.lst xs) ∧ ∀ q, H q = none → Q (.ref q) (upd H q (.tup xs))
def tTupleL (ta : TE) : TE := fun σ H Q => ta σ H fun x H1 => kTupL x H1 Q
theorem pe_tupleL {p : Pos} {a : Expr} {ta : TE} (hg : Gl X "tuple") (hm : X.mg "tuple" = none) (ha : PE X a ta) (hs : starEach [a] X.env = (false, eval a X.env) :: starEach [] X.env := by rfl) : PE X (.Call (.Name "tuple" p) [a] [] pos) (tTupleL ta) := by
  refine ⟨fun pins s σ H Q I h => ?_⟩
  exact Call_ (ld_blt I hg hm boot_tuple (PyProof.Rows.callWith_type1 (one_arg ha I h (fun v s2 x H2 I2 r q => by
    obtain ⟨p, xs, e, hp, q⟩ := q
    exact rl_tuple pins s2 σ H2 x v Q I2 r (.inl ⟨p, xs, e, SqL.of hp, q⟩)) hs) hs))
/-- two tuples of ints, two lists or tuples of such -/
def rEqTI : R2 := fun x y H Q => ∃ a b : List Int, TI H x a ∧ TI H y b ∧ Q (.bl (decide (a = b))) H
def rNeTI : R2 := fun x y H Q => ∃ a b : List Int, TI H x a ∧ TI H y b ∧ Q (.bl (!decide (a = b))) H
theorem op_eqTI (hu : X.A.units + 64 < cLine) : OpR X (compareOp .Eq) rEqTI := by
  intro pins s σ H x y v u Q I rx ry h
  obtain ⟨a, b, h1, h2, q⟩ := h
  exact op_eqD hu pins s σ H x y v u Q I rx ry ⟨_, _, h1.dp, h2.dp, shaped_t a, shaped_t b, by rw [eqv_tt]; exact q⟩
theorem op_neTI (hu : X.A.units + 64 < cLine) : OpR X (compareOp .NotEq) rNeTI := by
  intro pins s σ H x y v u Q I rx ry h
  obtain ⟨a, b, h1, h2, q⟩ := h
  exact op_neD hu pins s σ H x y v u Q I rx ry ⟨_, _, h1.dp, h2.dp, shaped_t a, shaped_t b, by rw [eqv_tt]; exact q⟩
def rNeLT2 : R2 := fun x y H Q => ∃ a b : List (List Int), LT2 H x a ∧ LT2 H y b ∧ Q (.bl (!decide (a = b))) H
theorem op_neLT2 (hu : X.A.units + 64 < cLine) : OpR X (compareOp .NotEq) rNeLT2 := by
  intro pins s σ H x y v u Q I rx ry h
  obtain ⟨a, b, h1, h2, q⟩ := h
  exact op_neD hu pins s σ H x y v u Q I rx ry ⟨_, _, h1.dp, h2.dp, shaped_l a, shaped_l b, by rw [eqv_ll]; exact q⟩
/-- state in a list of such -/
def rInTI : R2 := fun x y H Q => ∃ (a : List Int) (b : List (List Int)), TI H x a ∧ LT2 H y b ∧ Q (.bl (decide (a ∈ b))) H
theorem any_rows (a : List Int) : ∀ b : List (List Int), ((b.map dI).any fun z => PyData.eqv z (dI a)) = decide (a ∈ b)
  | [] => by simp
  | x :: xs => by
    rw [List.map_cons, List.any_cons, eqv_tt, any_rows a xs]
    by_cases h : x = a
    · simp [h]
    · have : ¬ a = x := fun z => h z.symm
      simp [h, this]
theorem op_inTI (hu : X.A.units + 65 < cLine) : OpR X (compareOp .In) rInTI := by
  intro pins s σ H x y v u Q I rx ry h
  obtain ⟨a, b, h1, h2, q⟩ := h
  exact op_inD hu pins s σ H x y v u Q I rx ry ⟨_, _, h1.dp, h2.dp, shaped_t a, shaped_l b, by rw [any_rows]; exact q⟩
/-- rows.index(row) -/
def rIndexTI : V → List V → Hp → VK → Prop := fun x xs H Q => ∃ (y : V) (a : List Int) (b : List (List Int)) (j : Nat), xs = [y] ∧ TI H y a ∧ LT2 H x b ∧ b[j]? = some a ∧ (∀ m, m < j → b[m]? ≠ some a) ∧ Q (.int (j : Nat)) H
theorem mt_indexTI (hu : X.A.units + 65 < cLine) : MtR X "list.index" rIndexTI := by
  intro pins s σ H x xs v us Q I rx ry h
  obtain ⟨y, a, b, j, e, h1, h2, hj, hm, q⟩ := h
  obtain ⟨p, vs, e2, h3, h4⟩ := id h2
  refine mt_indexD hu pins s σ H x xs v us Q I rx ry ⟨p, y, dI a, b.map dI, j, dI a, e2, e, by rw [← e2]; exact h2.dp, h1.dp, shaped_l b, shaped_t a, by rw [List.getElem?_map, hj]; rfl, by rw [eqv_tt]; simp, fun m z' hlt hz => ?_, q⟩
  rw [List.getElem?_map] at hz
  cases e3 : b[m]? with
  | none => rw [e3] at hz; cases hz
  | some r =>
    rw [e3] at hz
    cases hz
    rw [eqv_tt]
    refine decide_eq_false fun z => hm m hlt ?_
    rw [e3, z]
end
end Lk
namespace Lk
open PySem PySem.Spec PyProof.Rows L2 Gx
variable [Own]
/-- quant_it where the answer is a test's -/
theorem quant_test {want : Bool} {J : It} {n : Nat} {G : Hp → Prop} {Y : Nat → Hp → V → Hp → Prop} (w : Walk J n G Y) {g : TG} {tt : TT} {te : TE} {vs : List Nat} {σ : L2.St} {H2 : Hp} {R : Bool → Hp → Prop} (Pv : Nat → Hp → Prop) (h0 : Pv 0 H2) (hG : ∀ i H, i ≤ n → Pv i H → G H)
    (hs : ∀ i x H H', i < n → Pv i H → Y i H x H' → g x (wipe σ vs) H' fun σ2 H3 => wipe σ2 vs = wipe σ vs ∧ tt σ2 H3 fun b H4 => if b = true then te σ2 H4 fun y H5 => ∃ c, y = .bl c ∧ if c = want then (∃ d, V.bl want = .bl d ∧ R d H5) else Pv (i + 1) H5 else Pv (i + 1) H4)
    (hd : ∀ H, Pv n H → R (!want) H) :
    ∃ W : Nat → Nat → Hp → Prop, (∃ m, W 0 m H2) ∧ ∀ i m H, W i m H →
      (J.stop i H ∧ ∃ d, V.bl (!want) = .bl d ∧ R d H) ∨ (J.go i H ∧ 0 < m ∧ ∃ Nx : Hp → Prop, (∀ H', Nx H' → ∃ m', m' < m ∧ W (i + 1) m' H') ∧ ∀ x H', J.yld i H x H' → g x (wipe σ vs) H' fun σ2 H3 => wipe σ2 vs = wipe σ vs ∧ tt σ2 H3 fun b H4 =>
        if b = true then te σ2 H4 fun y H5 => ∃ c, y = .bl c ∧ if c = want then (∃ d, V.bl want = .bl d ∧ R d H5) else Nx H5 else Nx H4) :=
  quant_it (Q := fun x H => ∃ d, x = .bl d ∧ R d H) w Pv h0 hG hs fun H p => ⟨_, rfl, hd H p⟩
end Lk
namespace Lk
open PySem PySem.Spec PyProof.Rows L2 Gx
variable [Own]
section
variable {X : Cx}
/-- a list's method, called: the list is tracked -/
def tBML (r : V → List V → Hp → VK → Prop) (to : TE) (t : TA) : TE := fun σ H Q => to σ H fun x H1 => (∃ p xs, x = .ref p ∧ H1 p = some (.lst xs)) ∧ t σ H1 fun vs H2 => r x vs H2 Q
variable {o e : Expr} {es : List Expr} {to : TE} {t : TA} {name : Str} {apos cpos : Pos} {id : String} {r : V → List V → Hp → VK → Prop}
theorem pe_bmL (pa : PlainAttrs "list") (slot : Slot "list" name id) (hty : typeOf (.builtin id) = pure (.type "method_descriptor")) (hm : MtR X id r) (ho : PE X o to) (ha : PA X (e :: es) t)
    (hbase : attributeBase o name X.env (eval o X.env) = eval o X.env := by rfl)
    (hfew : ((backTo cpos (starEach (e :: es) X.env)).all (fun x => !x.1) && (backToKw cpos (keywordEach [] X.env)).all (fun x => x.1.isSome)
      && decide ((e :: es).length + ([] : List Keyword).length + (if ([] : List Keyword).isEmpty then 0 else 1) < 30)) = true := by rfl)
    (hline : (apos.endLine == cpos.line) = true := by rfl) (hs : starEach (e :: es) X.env = (false, eval e X.env) :: starEach es X.env := by rfl) (hplain : (backTo cpos (starEach es X.env)).any (·.1) = false := by rfl) :
    PE X (.Call (.Attribute o name apos) (e :: es) [] cpos) (tBML r to t) := by
  refine ⟨fun pins s σ H Q I h => ?_⟩
  refine wpAny_Call_method_late hbase hfew hline rfl (thn (ho.run pins s σ H _ I h) fun v s1 ⟨x, H1, I1, r1, ⟨p, xs, ex, hp⟩, q1⟩ => ?_)
  obtain ⟨h1, h2⟩ := tyV_is (T := "list") I1 r1 (by rw [ex]; exact .inl ⟨rfl, _, SqL.of hp⟩)
  refine ⟨"list", id, pa, slot, hty, h1, h2, ?_⟩
  have hA := ha.run cpos pins s1 σ H1 _ I1 q1
  rw [hs] at hA ⊢
  refine Calls.callWith_builtin (by show (false || (backTo cpos (starEach es X.env)).any (·.1)) = false; rw [hplain] <;> rfl) (Calls.evalArgs_plain ?_)
  exact thn hA fun us s2 ⟨vs, H2, I2, r2, q2⟩ => hm pins s2 σ H2 x vs v us Q I2 r1 r2 q2
def rCntL : V → List V → Hp → VK → Prop := fun x xs H Q => ∃ (p : Addr) (ns : List Int) (k : Int), x = .ref p ∧ xs = [.int k] ∧ H p = some (.lst (iv ns)) ∧ Q (.int (ns.count k : Nat)) H
theorem mt_cntL : MtR X "list.count" rCntL := by
  intro pins s σ H x xs v us Q I rx ry h
  obtain ⟨p, ns, k, e1, e2, h1, q⟩ := h
  exact mt_lcount pins s σ H x xs v us Q I rx ry ⟨p, ns, k, e1, e2, SqL.of h1, q⟩
end
/-- a range's turns -/
theorem rng_len {i : Nat} {H : Hp} {x : V} {H' : Hp} (y : YFn (fun i => V.int (0 + (i : Int))) i H x H') : H' = H ∧ x = .int (i : Int) := by
  obtain ⟨e, ex⟩ := y
  exact ⟨e, ex.trans (by show V.int (0 + ((i : Nat) : Int)) = _; rw [Int.zero_add])⟩
/-- two ascending lists of the same things -/
theorem asc_eq {α : Type} {f : α → Int} : ∀ {l m : List α}, l.Pairwise (fun x y => f x < f y) → m.Pairwise (fun x y => f x < f y) → (∀ x, x ∈ l ↔ x ∈ m) → l = m
  | [], [], _, _, _ => rfl
  | [], b :: m, _, _, h => by have := (h b).mpr (List.mem_cons_self ..); simp at this
  | a :: l, [], _, _, h => by have := (h a).mp (List.mem_cons_self ..); simp at this
  | a :: l, b :: m, hl, hm, h => by
    obtain ⟨hl1, hl2⟩ := List.pairwise_cons.mp hl
    obtain ⟨hm1, hm2⟩ := List.pairwise_cons.mp hm
    have hab : a = b := by
      rcases List.mem_cons.mp ((h a).mp (List.mem_cons_self ..)) with e | ha
      · exact e
      · rcases List.mem_cons.mp ((h b).mpr (List.mem_cons_self ..)) with e | hb
        · exact e.symm
        · have := hm1 a ha
          have := hl1 b hb
          omega
    subst hab
    congr 1
    refine asc_eq hl2 hm2 fun x => ⟨fun hx => ?_, fun hx => ?_⟩
    · rcases List.mem_cons.mp ((h x).mp (List.mem_cons_of_mem _ hx)) with e | h1
      · have := hl1 x hx
        rw [e] at this
        omega
      · exact h1
    · rcases List.mem_cons.mp ((h x).mpr (List.mem_cons_of_mem _ hx)) with e | h1
      · have := hm1 x hx
        rw [e] at this
        omega
      · exact h1
/-- addresses and rows -/
theorem paired_ks {H : Hp} : ∀ {vs : List V} {rows : List (List Int)}, Paired (TI H) vs rows → ∃ ks : List (Addr × List Int), vs = ks.map (fun p => V.ref p.1) ∧ rows = ks.map (·.2) ∧ ∀ p ∈ ks, H p.1 = some (.tup (iv p.2))
  | _, _, .nil => ⟨[], rfl, rfl, fun p h => by simp at h⟩
  | v :: vs, r :: rows, .cons ⟨a, e, h⟩ t => by
    obtain ⟨ks, e1, e2, e3⟩ := paired_ks t
    subst e e1 e2
    refine ⟨(a, r) :: ks, rfl, rfl, fun p hp => ?_⟩
    rcases List.mem_cons.mp hp with e | hp
    · rw [e]; exact h
    · exact e3 p hp
theorem ks_paired {H : Hp} : ∀ {ks : List (Addr × List Int)}, (∀ p ∈ ks, H p.1 = some (.tup (iv p.2))) → Paired (TI H) (ks.map fun p => V.ref p.1) (ks.map (·.2))
  | [], _ => .nil
  | k :: ks, h => .cons ⟨k.1, rfl, h k (List.mem_cons_self ..)⟩ (ks_paired fun p hp => h p (List.mem_cons_of_mem _ hp))
end Lk

/-! ## Lc2 -/
set_option Elab.async false
set_option linter.all false
set_option maxRecDepth 100000
set_option maxHeartbeats 2000000
namespace Lk
open PySem PySem.Spec PyProof.Rows L2 Gx
variable [Own]
/-- the outer walk of a comprehension of two clauses -/
theorem lc2_out {J : It} {n : Nat} {G : Hp → Prop} {Y : Nat → Hp → V → Hp → Prop} (w : Walk J n G Y) {g g1 : TG} {tt tt1 : TT} {wi1 : L2.TI} {te : TE} {vs vs1 : List Nat} {σ : L2.St} {H1 : Hp} {D : Addr} {Qd : Hp → Prop} (Pv : Nat → Hp → Prop) (h0 : Pv 0 (upd H1 D (.lst []))) (hG : ∀ i H, i ≤ n → Pv i H → G H)
    (hs : ∀ i x H H', i < n → Pv i H → Y i H x H' → g x (wipe σ vs) H' fun σ2 H2 => wipe σ2 vs = wipe σ vs ∧ tt σ2 H2 fun b H3 =>
      if b = true then wi1 σ2 H3 fun J1 H4 => ∃ W1 : Nat → Nat → Hp → Prop, (∃ m, W1 0 m H4) ∧ ∀ j k H, W1 j k H →
        (J1.stop j H ∧ Pv (i + 1) H) ∨ (J1.go j H ∧ ∃ Nx1 : Hp → Prop, (∀ H', Nx1 H' → ∃ k', k' < k ∧ W1 (j + 1) k' H') ∧ ∀ x H', J1.yld j H x H' → g1 x (wipe σ2 vs1) H' fun σ3 H5 => wipe σ3 vs1 = wipe σ2 vs1 ∧ tt1 σ3 H5 fun b H6 =>
          if b = true then te σ3 H6 fun y H7 => ∃ acc, H7 D = some (.lst acc) ∧ acc.length < sizeLine ∧ Nx1 (upd H7 D (.lst (acc ++ [y]))) else Nx1 H6)
      else Pv (i + 1) H3) (hd : ∀ H, Pv n H → Qd H) :
    ∃ W : Nat → Nat → Hp → Prop, (∃ m, W 0 m (upd H1 D (.lst []))) ∧ ∀ i m H, W i m H →
      (J.stop i H ∧ Qd H) ∨ (J.go i H ∧ ∃ Nx : Hp → Prop, (∀ H', Nx H' → ∃ m', m' < m ∧ W (i + 1) m' H') ∧ ∀ x H', J.yld i H x H' → g x (wipe σ vs) H' fun σ2 H2 => wipe σ2 vs = wipe σ vs ∧ tt σ2 H2 fun b H3 =>
        if b = true then wi1 σ2 H3 fun J1 H4 => ∃ W1 : Nat → Nat → Hp → Prop, (∃ m, W1 0 m H4) ∧ ∀ j k H, W1 j k H →
          (J1.stop j H ∧ Nx H) ∨ (J1.go j H ∧ ∃ Nx1 : Hp → Prop, (∀ H', Nx1 H' → ∃ k', k' < k ∧ W1 (j + 1) k' H') ∧ ∀ x H', J1.yld j H x H' → g1 x (wipe σ2 vs1) H' fun σ3 H5 => wipe σ3 vs1 = wipe σ2 vs1 ∧ tt1 σ3 H5 fun b H6 =>
            if b = true then te σ3 H6 fun y H7 => ∃ acc, H7 D = some (.lst acc) ∧ acc.length < sizeLine ∧ Nx1 (upd H7 D (.lst (acc ++ [y]))) else Nx1 H6)
        else Nx H3) := by
  refine ⟨fun i m H => m = n - i ∧ i ≤ n ∧ Pv i H, ⟨n, by simp, Nat.zero_le _, h0⟩, ?_⟩
  rintro i m H ⟨rfl, hi, p⟩
  have q := hG i H hi p
  by_cases hlt : i < n
  · exact .inr ⟨w.goes i H hlt q, Pv (i + 1), fun H' p' => ⟨n - (i + 1), by omega, rfl, hlt, p'⟩, fun x H' y => hs i x H H' hlt p (w.yields i H x H' hlt q y)⟩
  · have e : i = n := by omega
    subst e
    exact .inl ⟨w.stops H q, hd H p⟩
/-- the inner one -/
theorem lc2_in {J : It} {n : Nat} {G : Hp → Prop} {Y : Nat → Hp → V → Hp → Prop} (w : Walk J n G Y) {g : TG} {tt : TT} {te : TE} {vs : List Nat} {σ : L2.St} {H4 : Hp} {D : Addr} {Qd : Hp → Prop} (Pv : Nat → Hp → Prop) (h0 : Pv 0 H4) (hG : ∀ i H, i ≤ n → Pv i H → G H)
    (hs : ∀ i x H H', i < n → Pv i H → Y i H x H' → g x (wipe σ vs) H' fun σ2 H2 => wipe σ2 vs = wipe σ vs ∧ tt σ2 H2 fun b H3 =>
      if b = true then te σ2 H3 fun y H4 => ∃ acc, H4 D = some (.lst acc) ∧ acc.length < sizeLine ∧ Pv (i + 1) (upd H4 D (.lst (acc ++ [y]))) else Pv (i + 1) H3) (hd : ∀ H, Pv n H → Qd H) :
    ∃ W : Nat → Nat → Hp → Prop, (∃ m, W 0 m H4) ∧ ∀ i m H, W i m H →
      (J.stop i H ∧ Qd H) ∨ (J.go i H ∧ ∃ Nx : Hp → Prop, (∀ H', Nx H' → ∃ m', m' < m ∧ W (i + 1) m' H') ∧ ∀ x H', J.yld i H x H' → g x (wipe σ vs) H' fun σ2 H2 => wipe σ2 vs = wipe σ vs ∧ tt σ2 H2 fun b H3 =>
        if b = true then te σ2 H3 fun y H4 => ∃ acc, H4 D = some (.lst acc) ∧ acc.length < sizeLine ∧ Nx (upd H4 D (.lst (acc ++ [y]))) else Nx H3) := by
  refine ⟨fun i m H => m = n - i ∧ i ≤ n ∧ Pv i H, ⟨n, by simp, Nat.zero_le _, h0⟩, ?_⟩
  rintro i m H ⟨rfl, hi, p⟩
  have q := hG i H hi p
  by_cases hlt : i < n
  · exact .inr ⟨w.goes i H hlt q, Pv (i + 1), fun H' p' => ⟨n - (i + 1), by omega, rfl, hlt, p'⟩, fun x H' y => hs i x H H' hlt p (w.yields i H x H' hlt q y)⟩
  · have e : i = n := by omega
    subst e
    exact .inl ⟨w.stops H q, hd H p⟩
/-- a new list's pairs, told anew behind growth -/
theorem pTI.put {H H' : Hp} {D : Addr} {acc : List V} {rows : List (List Int)} {o : HO} (hD : H D = some (.lst acc)) (e : ∀ a xs, H a = some (.tup xs) → H' a = some (.tup xs)) {vs : List V} (p : Paired (TI H) vs rows) : Paired (TI (upd H' D o)) vs rows :=
  paired_mono (fun x r h => by
    obtain ⟨z, rfl, hz⟩ := h
    exact ⟨z, rfl, by rw [upd_ne (ne_of hD hz (by intro q; cases q)).symm]; exact e _ _ hz⟩) p
end Lk

/-! ## LkR -/
set_option Elab.async false
set_option linter.all false
set_option maxRecDepth 100000
set_option maxHeartbeats 2000000
/-! The laws' draws: a row of four, the script first. -/
namespace Lk
open PySem PySem.Spec PyProof.Rows L2 Gx
open GxR (TabG Tabbed TabB)
variable [Own]
/-- as Ext, but for the list at r -/
structure ExtB (r : Addr) (H H' : Hp) : Prop where
  keep : ∀ a o, a ≠ r → H a = some o → isTbl o = false → H' a = some o
  tab : ∀ P, TabG H P → TabG H' P
  tb : ∀ a o, H a = some o → ∃ o', H' a = some o'
  own : ∀ P ps, Own.own P → H P = some (.tbl ps) → H' P = some (.tbl ps)
theorem Ext.b {r : Addr} {H H' : Hp} (e : Ext H H') : ExtB r H H' := ⟨fun a o _ h q => e.keep a o h q, e.tab, e.tb, e.own⟩
theorem ExtB.refl (r : Addr) (H : Hp) : ExtB r H H := (Ext.refl H).b
theorem ExtB.trans {r : Addr} {H H1 H2 : Hp} (a : ExtB r H H1) (b : ExtB r H1 H2) : ExtB r H H2 := ⟨fun c o n h q => b.keep c o n (a.keep c o n h q) q, fun P h => b.tab P (a.tab P h), fun c o h => by
  obtain ⟨o', h'⟩ := a.tb c o h
  exact b.tb c o' h', fun P ps o h => b.own P ps o (a.own P ps o h)⟩
theorem ExtB.upd {r : Addr} {H : Hp} {xs ys : List V} (h : H r = some (.lst xs)) : ExtB r H (upd H r (.lst ys)) := ⟨fun a o n e _ => by rw [upd_ne n]; exact e, fun P ⟨ps, e, t⟩ => ⟨ps, by rw [upd_ne (ne_of h e (by intro z; cases z)).symm]; exact e, t⟩, fun a o e => by
  by_cases z : a = r
  · exact ⟨_, by rw [z]; exact upd_same⟩
  · exact ⟨o, by rw [upd_ne z]; exact e⟩, fun P ps _ e => by rw [upd_ne (ne_of h e (by intro z; cases z)).symm]; exact e⟩
theorem ExtB.free {r : Addr} {H H' : Hp} (e : ExtB r H H') {l : Addr} (h : H' l = none) : H l = none := by
  cases q : H l with
  | none => rfl
  | some o =>
    obtain ⟨o', h'⟩ := e.tb l o q
    rw [h] at h'
    cases h'
section
variable {r : Addr} {H H' : Hp} {rs : List V}
theorem ExtB.tup (e : ExtB r H H') (hr : H r = some (.lst rs)) {a : Addr} {xs : List V} (h : H a = some (.tup xs)) : H' a = some (.tup xs) := e.keep _ _ (ne_of hr h (by intro z; cases z)).symm h rfl
theorem ExtB.lst (e : ExtB r H H') {a : Addr} {xs : List V} (n : a ≠ r) (h : H a = some (.lst xs)) : H' a = some (.lst xs) := e.keep _ _ n h rfl
theorem TI.extB (e : ExtB r H H') (hr : H r = some (.lst rs)) {v : V} {ns : List Int} (h : TI H v ns) : TI H' v ns := by
  obtain ⟨a, q, h⟩ := h
  exact ⟨a, q, e.tup hr h⟩
theorem pTI.extB (e : ExtB r H H') (hr : H r = some (.lst rs)) {vs : List V} {rows : List (List Int)} (h : Paired (TI H) vs rows) : Paired (TI H') vs rows := paired_mono (fun _ _ h => h.extB e hr) h
theorem TT2.extB (e : ExtB r H H') (hr : H r = some (.lst rs)) {v : V} {rows : List (List Int)} (h : TT2 H v rows) : TT2 H' v rows := by
  obtain ⟨a, vs, q, h, p⟩ := h
  exact ⟨a, vs, q, e.tup hr h, pTI.extB e hr p⟩
theorem WebAt.extB (e : ExtB r H H') (hr : H r = some (.lst rs)) {v : V} {W : Web} (h : WebAt H v W) : WebAt H' v W := by
  obtain ⟨a, t, l, q, h, p1, p2⟩ := h
  exact ⟨a, t, l, q, e.tup hr h, p1.extB e hr, p2.extB e hr⟩
theorem Tabs.extB {Ps : List Addr} (t : Tabs Ps H) (e : ExtB r H H') : Tabs Ps H' := fun P h => e.tab P (t P h)
end
/-- the rest of a row of draws -/
structure Dr where
  pos : Nat
  rest : Int
  cell : Int
structure Dr.Ok (d : Dr) : Prop where
  r0 : 0 ≤ d.rest
  r1 : d.rest < 2147483647
  c0 : 0 ≤ d.cell
theorem SqL.extB {K : PySem.W.Frag} {r : Addr} {H H' : Hp} (e : ExtB r H H') {a : Addr} {xs : List V} (n : a ≠ r) (h : SqL K H a xs) : SqL K H' a xs := by
  rcases h with (h | ⟨o, h⟩) | h
  · exact .inl (.inl (e.keep _ _ n h rfl))
  · exact .inl (.inr ⟨o, e.keep _ _ n h rfl⟩)
  · exact .inr h
theorem SqL.ext {K : PySem.W.Frag} {H H' : Hp} (e : Ext H H') {a : Addr} {xs : List V} (h : SqL K H a xs) : SqL K H' a xs := by
  rcases h with (h | ⟨o, h⟩) | h
  · exact .inl (.inl (e.keep _ _ h rfl))
  · exact .inl (.inr ⟨o, e.keep _ _ h rfl⟩)
  · exact .inr h
/-- the script, that is no row -/
def ScrAt (K : PySem.W.Frag) (H : Hp) (r sc : Addr) (xs : List V) : Prop := (SqL K H sc xs ∧ sc ≠ r) ∨ ∀ H' : Hp, SqL K H' sc xs
theorem ScrAt.sql {K : PySem.W.Frag} {H : Hp} {r sc : Addr} {xs : List V} (h : ScrAt K H r sc xs) : SqL K H sc xs := by
  rcases h with h | h
  · exact h.1
  · exact h H
theorem ScrAt.extB {K : PySem.W.Frag} {H H' : Hp} {r sc : Addr} {xs : List V} (h : ScrAt K H r sc xs) (e : ExtB r H H') : ScrAt K H' r sc xs := by
  rcases h with ⟨h, n⟩ | h
  · exact .inl ⟨SqL.extB e n h, n⟩
  · exact .inr h
theorem ScrAt.new {K : PySem.W.Frag} {H : Hp} {r sc : Addr} {xs : List V} (h : SqL K H sc xs) (hr : H r = none) (o : HO) : ScrAt K (L2.upd H r o) r sc xs := by
  rcases h with (h | ⟨o', h⟩) | h
  · have n := ne_of_none h hr
    exact .inl ⟨.inl (.inl (by rw [upd_ne n]; exact h)), n⟩
  · have n := ne_of_none h hr
    exact .inl ⟨.inl (.inr ⟨o', by rw [upd_ne n]; exact h⟩), n⟩
  · exact .inr fun _ => .inr h
/-- at a list that stands not in H0 -/
theorem ScrAt.put {K : PySem.W.Frag} {H H0 : Hp} {r sc D : Addr} {xs : List V} (h : ScrAt K H r sc xs) (h0 : ScrAt K H0 r sc xs) (q : H0 D = none) (o : HO) : ScrAt K (L2.upd H D o) r sc xs := by
  rcases h0 with ⟨h0, n0⟩ | h0
  · rcases h0 with (h1 | ⟨o1, h1⟩) | h1
    · have n := ne_of_none h1 q
      refine .inl ⟨?_, n0⟩
      rcases h.sql with (h2 | ⟨o2, h2⟩) | h2
      · exact .inl (.inl (by rw [upd_ne n]; exact h2))
      · exact .inl (.inr ⟨o2, by rw [upd_ne n]; exact h2⟩)
      · exact .inr h2
    · have n := ne_of_none h1 q
      refine .inl ⟨?_, n0⟩
      rcases h.sql with (h2 | ⟨o2, h2⟩) | h2
      · exact .inl (.inl (by rw [upd_ne n]; exact h2))
      · exact .inl (.inr ⟨o2, by rw [upd_ne n]; exact h2⟩)
      · exact .inr h2
    · exact .inr fun _ => .inr h1
  · exact .inr h0
/-- the row stands -/
structure RowAt (K : PySem.W.Frag) (H : Hp) (r sc : Addr) (ns : List Int) (d : Dr) : Prop where
  row : H r = some (.lst [.ref sc, .int d.pos, .int d.rest, .int d.cell])
  scr : ScrAt K H r sc (iv ns)
  len : ns.length ≤ 63
  ok : d.Ok
theorem RowAt.ext {K : PySem.W.Frag} {H H' : Hp} {r sc : Addr} {ns : List Int} {d : Dr} (h : RowAt K H r sc ns d) (e : Ext H H') : RowAt K H' r sc ns d := ⟨e.lst h.row, h.scr.extB e.b, h.len, h.ok⟩
theorem RowAt.extB {K : PySem.W.Frag} {H H' : Hp} {r sc : Addr} {ns : List Int} {d d' : Dr} (h : RowAt K H r sc ns d) (e : ExtB r H H') (hr : H' r = some (.lst [.ref sc, .int d'.pos, .int d'.rest, .int d'.cell])) (ok : d'.Ok) : RowAt K H' r sc ns d' := ⟨hr, h.scr.extB e, h.len, ok⟩
/-- one draw -/
def drawn (ns : List Int) (d : Dr) (m : Int) : Int × Dr :=
  if 0 < d.cell then (d.cell % m, { d with cell := d.cell / m })
  else if ns.length < d.pos + 1 then ((d.rest * 48271 + 11) % 2147483647 / 7 % m, { d with pos := d.pos + 1, rest := (d.rest * 48271 + 11) % 2147483647 })
  else ((ns.getD d.pos 0) % m, { pos := d.pos + 1, rest := (d.rest * 48271 + ns.getD d.pos 0 + 11) % 2147483647, cell := if 10 ^ 18 ≤ ns.getD d.pos 0 then ns.getD d.pos 0 / m else d.cell })
theorem drawn_bd {ns : List Int} {d : Dr} {m : Int} (h : 0 < m) : 0 ≤ (drawn ns d m).1 ∧ (drawn ns d m).1 < m := by
  unfold drawn
  split
  · exact ⟨Int.emod_nonneg _ (by omega), Int.emod_lt_of_pos _ h⟩
  · split
    · exact ⟨Int.emod_nonneg _ (by omega), Int.emod_lt_of_pos _ h⟩
    · exact ⟨Int.emod_nonneg _ (by omega), Int.emod_lt_of_pos _ h⟩
theorem drawn_ok {ns : List Int} {d : Dr} {m : Int} (h : 0 < m) (ok : d.Ok) : (drawn ns d m).2.Ok := by
  have h1 := ok.r0
  have h2 := ok.r1
  have h3 := ok.c0
  unfold drawn
  split
  · exact ⟨h1, h2, Int.ediv_nonneg h3 (by omega)⟩
  · split
    · exact ⟨Int.emod_nonneg _ (by omega), Int.emod_lt_of_pos _ (by omega), h3⟩
    · refine ⟨Int.emod_nonneg _ (by omega), Int.emod_lt_of_pos _ (by omega), ?_⟩
      show 0 ≤ (if 10 ^ 18 ≤ ns.getD d.pos 0 then ns.getD d.pos 0 / m else d.cell)
      split
      · rename_i hh
        exact Int.ediv_nonneg (by omega) (by omega)
      · exact h3
end Lk

/-! ## D20 -/
set_option Elab.async false
set_option linter.all false
set_option maxRecDepth 100000
set_option maxHeartbeats 2000000
namespace Lk
open PySem PySem.Spec PyProof.Rows L2 Gx
open GxR (TabG Tabbed TabB)
variable [Own]
abbrev s__law_taken : Stmt := top 36
theorem sc__law_taken : FnScope ["row", "many", "found", "cell"] ["row", "many"] (defScope s__law_taken) := ⟨rfl, rfl, rfl, by decide +kernel, rfl, by decide +kernel, by decide +kernel⟩
/-- a row of draws stands -/
def Rw (K : PySem.W.Frag) (H : Hp) (r sc : Addr) (ns : List Int) : Prop := ∃ d, RowAt K H r sc ns d
theorem Rw.lst {K : PySem.W.Frag} {H : Hp} {r sc : Addr} {ns : List Int} (h : Rw K H r sc ns) : ∃ rs, H r = some (.lst rs) := by
  obtain ⟨_, h⟩ := h
  exact ⟨_, h.row⟩
theorem Rw.ext {K : PySem.W.Frag} {H H' : Hp} {r sc : Addr} {ns : List Int} (h : Rw K H r sc ns) (e : Ext H H') : Rw K H' r sc ns := by
  obtain ⟨_, h⟩ := h
  exact ⟨_, h.ext e⟩
def spTaken (K : PySem.W.Frag) : Sp := fun vs H Q _ => ∃ (r sc : Addr) (ns : List Int) (m : Int), vs = [.ref r, .int m] ∧ Rw K H r sc ns ∧ (0 < m ∧ m < 1000000) ∧
  ∀ H' i, ExtB r H H' → Rw K H' r sc ns → (∀ a, a ≠ r → H' a = H a) → (0 ≤ i ∧ i < m) → Q (.int i) H'
section
variable {P : Program} {w : World} {K : PySem.W.Frag} {mg : Str → Option Value} {base : Heap} {Ps : List Addr}
theorem ok_taken {f : Addr} {fd : FuncData} (F : Fun K "_law_taken" "_law_taken" s__law_taken f fd) (B : Blt mg) : FnOk P w K mg base CX0 1 f fd ["row", "many"] (spTaken K) := by
  refine F.ok sc__law_taken (fun vs H Q E h => ?_) (fun cdv A outer s0 H vs Q E hr h => ?_)
  · obtain ⟨r, sc, ns, m, rfl, _⟩ := h
    rfl
  · obtain ⟨r, sc, ns, m, rfl, ⟨d, hR⟩, hm, k0⟩ := h
    have k : ∀ H', ExtB r H H' → RowAt K H' r sc ns (drawn ns d m).2 → (∀ a, a ≠ r → H' a = H a) → Q (.int (drawn ns d m).1) H' := fun H' e q t => k0 H' _ e ⟨_, q⟩ t (drawn_bd hm.1)
    refine ⟨_, (pss_cons (ps_if (pt_cmpR op_gt (pe_ix ix_lT (pv 0) pe_int (fun _ _ => rfl)) pe_int (nomark _))
        (pss_cons (ps_set (i := 2) sc__law_taken.nd rfl (by first | exact Or.inl rfl | exact Or.inr rfl) (pe_op op_mod (pe_callTy call_int1 (by rfl) B.int boot_tyInt (pa_cons (pe_ix ix_lT (pv 0) pe_int (fun _ _ => rfl)) pa_nil)) (pv 1)))
        (pss_cons (ps_asg (pe_op op_fdiv (pe_ix ix_lT (pv 0) pe_int (fun _ _ => rfl)) (pv 1)) (pg_sub (pv 0) pe_int set_list))
        (pss_one (ps_ret (pv 2))))) pss_nil)
      (pss_cons (ps_asg (pe_op op_add (pe_ix ix_lT (pv 0) pe_int (fun _ _ => rfl)) pe_int) (pg_sub (pv 0) pe_int set_list))
      (pss_cons (ps_if (pt_cmpR op_gt (pe_ix ix_lT (pv 0) pe_int (fun _ _ => rfl)) (pe_callB call_len_seq (by rfl) B.len PySem.boot_len (pa_cons (pe_ix ix_lT (pv 0) pe_int (fun _ _ => rfl)) pa_nil)) (nomark _))
        (pss_cons (ps_asg (pe_op op_mod (pe_callTy call_int1 (by rfl) B.int boot_tyInt (pa_cons (pe_op op_add (pe_op op_mul (pe_ix ix_lT (pv 0) pe_int (fun _ _ => rfl)) pe_int) pe_int) pa_nil)) pe_int) (pg_sub (pv 0) pe_int set_list))
        (pss_one (ps_ret (pe_op op_mod (pe_callTy call_int1 (by rfl) B.int boot_tyInt (pa_cons (pe_op op_fdiv (pe_ix ix_lT (pv 0) pe_int (fun _ _ => rfl)) pe_int) pa_nil)) (pv 1))))) pss_nil)
      (pss_cons (ps_set (i := 3) sc__law_taken.nd rfl (by first | exact Or.inl rfl | exact Or.inr rfl) (pe_ix ix_list (pe_ix ix_lT (pv 0) pe_int (fun _ _ => rfl)) (pe_op op_sub (pe_ix ix_lT (pv 0) pe_int (fun _ _ => rfl)) pe_int) (fun _ _ => rfl)))
      (pss_cons (ps_asg (pe_op op_mod (pe_callTy call_int1 (by rfl) B.int boot_tyInt (pa_cons (pe_op op_add (pe_op op_add (pe_op op_mul (pe_ix ix_lT (pv 0) pe_int (fun _ _ => rfl)) pe_int) (pv 3)) pe_int) pa_nil)) pe_int) (pg_sub (pv 0) pe_int set_list))
      (pss_cons (ps_if (pt_cmpR op_ge (pv 3) (pe_op op_pow pe_int pe_int) (nomark _))
        (pss_one (ps_asg (pe_op op_fdiv (pv 3) (pv 1)) (pg_sub (pv 0) pe_int set_list))) pss_nil)
      (pss_one (ps_ret (pe_op op_mod (pe_callTy call_int1 (by rfl) B.int boot_tyInt (pa_cons (pv 3) pa_nil)) (pv 1)))))))))), ?_⟩
    have h1 := hR.ok.r0
    have h2 := hR.ok.r1
    have h3 := hR.ok.c0
    have k1 := k
    refine ⟨_, rfl, r, _, _, _, rfl, rfl, hR.row, rfl, _, _, rfl, rfl, _, rfl, ?_⟩
    unfold drawn at k1
    by_cases hc : 0 < d.cell
    · rw [if_pos hc] at k1
      rw [decide_eq_true hc]
      refine iteT ?_
      refine ⟨_, rfl, r, _, _, _, rfl, rfl, hR.row, rfl, .inl ⟨_, rfl, _, rfl, _, _, rfl, rfl, hm.1, ?_⟩⟩
      refine ⟨_, rfl, r, _, _, _, rfl, rfl, hR.row, rfl, _, rfl, _, _, rfl, rfl, ⟨hm.1, by omega⟩, _, rfl, r, _, _, _, rfl, rfl, hR.row, rfl, _, rfl, ?_⟩
      exact k1 _ (ExtB.upd hR.row) (hR.extB (ExtB.upd hR.row) upd_same ⟨h1, h2, Int.ediv_nonneg h3 (by omega)⟩) fun a ha => upd_ne ha
    · rw [if_neg hc] at k1
      rw [decide_eq_false hc]
      refine iteF ?_
      refine ⟨_, rfl, r, _, _, _, rfl, rfl, hR.row, rfl, _, _, rfl, rfl, _, rfl, r, _, _, _, rfl, rfl, hR.row, rfl, ?_⟩
      have b1 := ExtB.upd (ys := [V.ref sc, .int ((d.pos : Int) + 1), .int d.rest, .int d.cell]) hR.row
      have r1 : (upd H r (.lst [V.ref sc, .int ((d.pos : Int) + 1), .int d.rest, .int d.cell])) r = some (.lst [V.ref sc, .int ((d.pos : Int) + 1), .int d.rest, .int d.cell]) := upd_same
      have s1 := (hR.scr.extB b1).sql
      refine ⟨_, rfl, r, _, _, _, rfl, rfl, r1, rfl, _, rfl, r, _, _, _, rfl, rfl, r1, rfl, sc, _, rfl, .inl s1, _, _, rfl, rfl, _, rfl, ?_⟩
      have eL : decide (((iv ns).length : Int) < (d.pos : Int) + 1) = decide (ns.length < d.pos + 1) := by
        rw [iv_len]
        exact decide_eq_decide.mpr (by omega)
      rw [eL]
      by_cases hL : ns.length < d.pos + 1
      · rw [if_pos hL] at k1
        rw [decide_eq_true hL]
        refine iteT ?_
        refine ⟨_, rfl, r, _, _, _, rfl, rfl, r1, rfl, _, _, rfl, rfl, .inl ⟨by omega, by omega⟩, _, _, rfl, rfl, .inl ⟨_, rfl, _, _, rfl, rfl, (show (0 : Int) < 2147483647 by decide), ?_⟩⟩
        refine ⟨_, rfl, r, _, _, _, rfl, rfl, r1, rfl, ?_⟩
        have eu : ∀ z w : HO, upd (upd H r z) r w = upd H r w := fun z w => upd_upd
        rw [eu]
        refine ⟨_, rfl, r, _, _, _, rfl, rfl, upd_same, rfl, _, _, rfl, rfl, ⟨by decide, by decide⟩, .inl ⟨_, rfl, _, rfl, _, _, rfl, rfl, hm.1, ?_⟩⟩
        exact k1 _ (ExtB.upd hR.row) (hR.extB (ExtB.upd hR.row) upd_same ⟨Int.emod_nonneg _ (by omega), Int.emod_lt_of_pos _ (by omega), h3⟩) fun a ha => upd_ne ha
      · rw [if_neg hL] at k1
        rw [decide_eq_false hL]
        refine iteF ?_
        have hp : ns[d.pos]? = some (ns.getD d.pos 0) := by rw [List.getD_eq_getElem?_getD, List.getElem?_eq_getElem (by omega)]; rfl
        generalize ns.getD d.pos 0 = cell at hp k1
        refine ⟨_, rfl, r, _, _, _, rfl, rfl, r1, rfl, _, rfl, r, _, _, _, rfl, rfl, r1, rfl, _, _, rfl, rfl, sc, _, _, _, rfl, rfl, s1, at_of (j := d.pos) (by omega) (iv_at hp), ?_⟩
        refine ⟨_, rfl, r, _, _, _, rfl, rfl, r1, rfl, _, _, rfl, rfl, .inl ⟨by omega, by omega⟩, _, rfl, _, _, rfl, rfl, _, _, rfl, rfl, .inl ⟨_, rfl, _, _, rfl, rfl, (show (0 : Int) < 2147483647 by decide), ?_⟩⟩
        refine ⟨_, rfl, r, _, _, _, rfl, rfl, r1, rfl, ?_⟩
        have eu : ∀ z w : HO, upd (upd H r z) r w = upd H r w := fun z w => upd_upd
        rw [eu]
        refine ⟨_, rfl, _, _, rfl, rfl, ⟨by decide, by decide, by decide⟩, _, _, rfl, rfl, _, rfl, ?_⟩
        have e18 : (10 : Int) ^ (18 : Int).toNat = 10 ^ 18 := rfl
        rw [e18]
        have i1 : 0 ≤ (d.rest * 48271 + cell + 11) % 2147483647 := Int.emod_nonneg _ (by omega)
        have i2 : (d.rest * 48271 + cell + 11) % 2147483647 < 2147483647 := Int.emod_lt_of_pos _ (by omega)
        by_cases h18 : 10 ^ 18 ≤ cell
        · rw [if_pos h18] at k1
          rw [decide_eq_true h18]
          refine iteT ?_
          refine ⟨_, rfl, _, rfl, _, _, rfl, rfl, ⟨hm.1, by omega⟩, _, rfl, r, _, _, _, rfl, rfl, upd_same, rfl, ?_⟩
          rw [eu]
          refine ⟨_, rfl, .inl ⟨_, rfl, _, rfl, _, _, rfl, rfl, hm.1, ?_⟩⟩
          exact k1 _ (ExtB.upd hR.row) (hR.extB (ExtB.upd hR.row) upd_same ⟨i1, i2, Int.ediv_nonneg (by omega) (by omega)⟩) fun a ha => upd_ne ha
        · rw [if_neg h18] at k1
          rw [decide_eq_false h18]
          refine iteF ?_
          refine ⟨_, rfl, .inl ⟨_, rfl, _, rfl, _, _, rfl, rfl, hm.1, ?_⟩⟩
          exact k1 _ (ExtB.upd hR.row) (hR.extB (ExtB.upd hR.row) upd_same ⟨i1, i2, h3⟩) fun a ha => upd_ne ha
end
end Lk

/-! ## D05 -/
set_option Elab.async false
set_option linter.all false
set_option maxRecDepth 100000
set_option maxHeartbeats 2000000
namespace Lk
open PySem PySem.Spec PyProof.Rows L2 Gx
open GxR (TabG Tabbed TabB)
variable [Own]
/-- the moods up to a top -/
def moods (t : Int) : List Int := (List.range (t + 1).toNat).map fun k : Nat => (k : Int)
def rowsStep (rows : List (List Int)) (t : Int) : List (List Int) := rows.flatMap fun r => (moods t).map fun m => r ++ [m]
/-- all rows of moods up to these tops -/
def rowsOf (tops : List Int) : List (List Int) := tops.foldl rowsStep [[]]
theorem moods_len (t : Int) : (moods t).length = (t + 1).toNat := by unfold moods; rw [List.length_map, List.length_range]
theorem rowsStep_len (rows : List (List Int)) (t : Int) : (rowsStep rows t).length = rows.length * (t + 1).toNat := by
  unfold rowsStep
  induction rows with
  | nil => simp
  | cons r rs ih =>
    rw [List.flatMap_cons, List.length_append, ih, List.length_map, moods_len, List.length_cons, Nat.add_mul, Nat.one_mul, Nat.add_comm]
theorem rows_len4 {tops : List Int} (h : ∀ t ∈ tops, t ≤ 3) : ∀ rows : List (List Int), (tops.foldl rowsStep rows).length ≤ rows.length * 4 ^ tops.length := by
  induction tops with
  | nil => intro rows; simp
  | cons t ts ih =>
    intro rows
    have h1 := ih (fun u hu => h u (List.mem_cons_of_mem _ hu)) (rowsStep rows t)
    rw [rowsStep_len] at h1
    have h2 : (t + 1).toNat ≤ 4 := by
      have := h t (List.mem_cons_self ..)
      omega
    rw [List.foldl_cons, List.length_cons, Nat.pow_succ]
    refine Nat.le_trans h1 ?_
    have h3 : rows.length * (t + 1).toNat ≤ rows.length * 4 := Nat.mul_le_mul_left _ h2
    calc rows.length * (t + 1).toNat * 4 ^ ts.length ≤ rows.length * 4 * 4 ^ ts.length := Nat.mul_le_mul_right _ h3
      _ = rows.length * (4 ^ ts.length * 4) := by rw [Nat.mul_assoc, Nat.mul_comm 4]
theorem rows_row {tops : List Int} : ∀ {rows : List (List Int)} {n : Nat}, (∀ r ∈ rows, r.length = n) → ∀ r ∈ tops.foldl rowsStep rows, r.length = n + tops.length := by
  induction tops with
  | nil => intro rows n h r hr; simpa using h r hr
  | cons t ts ih =>
    intro rows n h r hr
    rw [List.foldl_cons] at hr
    have := ih (rows := rowsStep rows t) (n := n + 1) (fun q hq => by
      unfold rowsStep at hq
      obtain ⟨z, hz, hq⟩ := List.mem_flatMap.mp hq
      obtain ⟨m, _, rfl⟩ := List.mem_map.mp hq
      rw [List.length_append, h z hz]
      rfl) r hr
    rw [this, List.length_cons]
    omega
def spRowsOf : Sp := fun vs H Q _ => ∃ (v : V) (tops : List Int), vs = [v] ∧ TI H v tops ∧ tops.length ≤ 6 ∧ (∀ t ∈ tops, 0 ≤ t ∧ t ≤ 3) ∧ ∀ H' p vs, Ext H H' → H p = none → H' p = some (.lst vs) → Paired (TI H') vs (rowsOf tops) → Q (.ref p) H'
theorem foldl_take {α β : Type} {f : α → β → α} {a : α} {l : List β} {i : Nat} {x : β} (h : l[i]? = some x) : (l.take (i + 1)).foldl f a = f ((l.take i).foldl f a) x := by
  rw [List.take_add_one, h]
  simp
theorem flatMap_take {α β : Type} {f : α → List β} {l : List α} {i : Nat} {x : α} (h : l[i]? = some x) : (l.take (i + 1)).flatMap f = (l.take i).flatMap f ++ f x := by
  rw [List.take_add_one, h]
  simp
section
variable {P : Program} {w : World} {K : PySem.W.Frag} {mg : Str → Option Value} {base : Heap} {Ps : List Addr}
end
end Lk

/-! ## D04 -/
set_option Elab.async false
set_option linter.all false
set_option maxRecDepth 100000
set_option maxHeartbeats 2000000
namespace Lk
open PySem PySem.Spec PyProof.Rows L2 Gx
open GxR (TabG Tabbed TabB)
variable [Own]
/-- at whom one looks, with which sign -/
def looksOf (W : Web) (f : Int) : List (Int × Int) := (W.looks.filter fun l => l.2.1 == f).map fun l => (l.1, l.2.2)
def row2 (p : Int × Int) : List Int := [p.1, p.2]
abbrev s_looks_of : Stmt := top 17
theorem sc_looks_of : FnScope ["web", "folk", "_", "looks", "one", "other", "sign"] ["web", "folk"] (defScope s_looks_of) := ⟨rfl, rfl, rfl, by decide +kernel, rfl, by decide +kernel, by decide +kernel⟩
def spLooksOf : Sp := fun vs H Q _ => ∃ (v : V) (W : Web) (f : Int), vs = [v, .int f] ∧ WebAt H v W ∧ W.looks.length ≤ 14 ∧ ∀ H' p vs, Ext H H' → H p = none → H' p = some (.lst vs) → Paired (TI H') vs ((looksOf W f).map row2) → Q (.ref p) H'
theorem take_snoc {α : Type} {l : List α} {i : Nat} {x : α} (h : l[i]? = some x) : l.take (i + 1) = l.take i ++ [x] := by
  rw [List.take_add_one, h]; rfl
section
variable {P : Program} {w : World} {K : PySem.W.Frag} {mg : Str → Option Value} {base : Heap} {Ps : List Addr}
theorem ok_looks_of {f : Addr} {fd : FuncData} (F : Fun K "looks_of" "looks_of" s_looks_of f fd) : FnOk P w K mg base CX0 1 f fd ["web", "folk"] spLooksOf := by
  refine F.ok sc_looks_of (fun vs H Q E h => ?_) (fun cdv A outer s H vs Q E hr h => ?_)
  · obtain ⟨v, W, n, rfl, _⟩ := h
    rfl
  · obtain ⟨v, W, n, rfl, ⟨a, t, l, rfl, ha, ht, ⟨b, ls, rfl, hb, hls⟩⟩, h14, k⟩ := h
    refine ⟨_, (pss_cons (ps_asg (pv 0) (pg_tupT (n := 2) rfl (pgs_cons (pg_name (i := 2) sc_looks_of.nd rfl (by first | exact Or.inl rfl | exact Or.inr rfl)) (pgs_cons (pg_name (i := 3) sc_looks_of.nd rfl (by first | exact Or.inl rfl | exact Or.inr rfl)) pgs_nil))))
      (pss_one (ps_ret (pe_lc (own := [("one", 4), ("other", 5), ("sign", 6)]) rfl sc_looks_of.nd (pi_tup (pv 3)) (blkOk_by (N := ["web", "folk", "_", "looks", "one", "other", "sign"]) (sc := defScope s_looks_of) (by decide +kernel)) (fun _ _ _ _ _ => (pg_tupT (n := 3) rfl (pgs_cons (pg_name (i := 4) sc_looks_of.nd rfl (by first | exact Or.inl rfl | exact Or.inr rfl)) (pgs_cons (pg_name (i := 5) sc_looks_of.nd rfl (by first | exact Or.inl rfl | exact Or.inr rfl)) (pgs_cons (pg_name (i := 6) sc_looks_of.nd rfl (by first | exact Or.inl rfl | exact Or.inr rfl)) pgs_nil))))) (fun _ _ _ _ _ => (pts_one (pt_cmpR op_eq (pv 5) (pv 1) (nomark _)))) (fun _ _ _ _ _ => (pe_tup (pa_cons (pv 4) (pa_cons (pv 6) pa_nil)))))))), ?_⟩
    refine ⟨_, rfl, a, _, rfl, ha, rfl, _, _, rfl, _, _, rfl, rfl, ?_⟩
    refine ⟨_, rfl, b, rfl, ⟨_, SqT.of hb⟩, fun D hD => ?_⟩
    have llen : ls.length = W.looks.length := by rw [paired_len hls, List.length_map]
    refine lc_tup (xs := ls) (fun i H' => ∃ acc, H' D = some (.lst acc) ∧ Ext H H' ∧ acc.length ≤ i ∧ Paired (TI H') acc ((((W.looks.take i).filter fun l => l.2.1 == n).map fun l => (l.1, l.2.2)).map row2)) ⟨[], upd_same, Ext.new hD _, Nat.le_refl _, .nil⟩ (fun i H' _ ⟨_, _, e, _⟩ => SqT.of (e.tup hb)) (fun i x H' hi ⟨acc, hacc, e, hl, hp⟩ => ?_) fun H' ⟨acc, hacc, e, hl, hp⟩ => ?_
    · obtain ⟨row, hrow, hx⟩ := paired_get' (pTI.ext e hls) hi
      obtain ⟨lk, hlk, rfl⟩ : ∃ lk, W.looks[i]? = some lk ∧ row = row3 lk := by
        rw [List.getElem?_map] at hrow
        cases q : W.looks[i]? with
        | none => rw [q] at hrow; cases hrow
        | some lk => rw [q] at hrow; exact ⟨lk, rfl, (Option.some.inj hrow).symm⟩
      obtain ⟨p, rfl, hp1⟩ := hx
      have hi14 : i < 14 := by
        have := (List.getElem?_eq_some_iff.mp hlk).1
        omega
      refine ⟨p, _, rfl, hp1, rfl, _, _, rfl, _, _, rfl, _, _, rfl, rfl, rfl, ?_⟩
      refine ⟨_, rfl, _, rfl, rfl, _, rfl, ?_⟩
      rw [take_snoc hlk, List.filter_append]
      by_cases hf : lk.2.1 = n
      · have e1 : decide (V.int lk.2.1 = V.int n) = true := decide_eq_true (by rw [hf])
        have e2 : (lk.2.1 == n) = true := by rw [hf]; exact beq_self_eq_true n
        rw [e1]
        refine iteT ⟨_, rfl, _, rfl, (by show 2 ≤ sizeLine; decide), fun q hq => ?_⟩
        have dq : D ≠ q := ne_of_none hacc hq
        refine ⟨acc, by rw [upd_ne dq]; exact hacc, small1000 (by omega), acc ++ [.ref q], upd_same, (e.trans (Ext.new hq _)).put hD _, by rw [List.length_append]; simp; omega, ?_⟩
        have F1 : [lk].filter (fun l => l.2.1 == n) = [lk] := by rw [List.filter_cons, if_pos e2]; rfl
        rw [F1, List.map_append, List.map_append]
        refine paired_snoc ⟨q, rfl, by rw [upd_ne dq.symm]; exact upd_same⟩ ?_
        refine paired_mono (fun x r h => ?_) hp
        obtain ⟨z, rfl, hz⟩ := h
        exact ⟨z, rfl, by rw [upd_ne (ne_of hacc hz (by intro q; cases q)).symm, upd_ne (ne_of_none hz hq)]; exact hz⟩
      · have e1 : decide (V.int lk.2.1 = V.int n) = false := decide_eq_false (fun z => hf (by cases z; rfl))
        have e2 : (lk.2.1 == n) = false := by simpa using hf
        rw [e1]
        have F1 : [lk].filter (fun l => l.2.1 == n) = [] := by rw [List.filter_cons, e2]; rfl
        rw [F1, List.append_nil]
        exact iteF ⟨acc, hacc, e, by omega, hp⟩
    · rw [llen, List.take_length] at hp
      exact k H' D acc e hD hacc hp
end
end Lk

/-! ## Seq2 -/
set_option Elab.async false
set_option linter.all false
set_option maxRecDepth 100000
set_option maxHeartbeats 2000000
/-! Walks over a list or a tuple. -/
namespace Lk
open PySem PySem.Spec PyProof.Rows L2 Gx
variable [Own]
/-- a list (true) or a tuple of these -/
def SqB (k : Bool) (H : Hp) (a : Addr) (xs : List V) : Prop := if k = true then H a = some (.lst xs) else H a = some (.tup xs)
theorem SqB.ext {k : Bool} {H H' : Hp} {a : Addr} {xs : List V} (e : Ext H H') (h : SqB k H a xs) : SqB k H' a xs := by
  cases k with
  | true => exact e.lst h
  | false => exact e.tup h
def itB (K : PySem.W.Frag) (k : Bool) (a : Addr) : It := if k = true then Itl K a else Itt K a
def iSeqV (K : PySem.W.Frag) (i : Nat) : L2.TI := fun σ H R => ∃ a, σ[i]? = some (some (.ref a)) ∧ ∃ (k : Bool) (xs : List V), SqB k H a xs ∧ R (itB K k a) H
section
variable {X : Cx} {tg l : Expr}
theorem pi_seqV {i : Nat} (hv : PE X l (tVar i)) : PI X tg l (iSeqV X.K i) := by
  refine ⟨fun pins s σ H R I h => ?_⟩
  obtain ⟨a, e, k, xs, h, r⟩ := h
  cases k with
  | true => exact (pi_list hv).run pins s σ H R I ⟨_, e, a, rfl, ⟨xs, SqL.of h⟩, r⟩
  | false => exact (pi_tup hv).run pins s σ H R I ⟨_, e, a, rfl, ⟨xs, SqT.of h⟩, r⟩
end
theorem for_seq {K : PySem.W.Frag} {k : Bool} {a : Addr} {xs : List V} {g : TG} {tb : TS} {D : Ends} {σ : L2.St} {H : Hp} (Pv : Nat → L2.St → Hp → Prop) (h0 : Pv 0 σ H) (hl : ∀ i σ H, i ≤ xs.length → Pv i σ H → SqB k H a xs)
    (hs : ∀ i x σ H, xs[i]? = some x → Pv i σ H → g x σ H fun σ2 H2 => tb { nx := Pv (i + 1), rt := D.rt, bk := D.nx, ct := Pv (i + 1) } σ2 H2) (hd : ∀ σ H, Pv xs.length σ H → D.nx σ H) :
    ∃ W : Nat → Nat → L2.St → Hp → Prop, (∃ m, W 0 m σ H) ∧ ∀ i m σ H, W i m σ H → (itB K k a).stop i H ∧ D.nx σ H ∨ (itB K k a).go i H ∧
      ∃ N : L2.St → Hp → Prop, (∀ σ' H', N σ' H' → ∃ m', m' < m ∧ W (i + 1) m' σ' H') ∧ ∀ x H', (itB K k a).yld i H x H' → g x σ H' fun σ2 H2 => tb { nx := N, rt := D.rt, bk := D.nx, ct := N } σ2 H2 := by
  cases k with
  | true => exact for_list (K := K) (a := a) (xs := xs) Pv h0 (fun i σ H hi p => SqL.of (hl i σ H hi p)) hs hd
  | false => exact for_tup (K := K) (a := a) (xs := xs) Pv h0 (fun i σ H hi p => SqT.of (hl i σ H hi p)) hs hd
theorem paired_app {α β : Type} {R : α → β → Prop} : ∀ {l l' : List α} {m m' : List β}, Paired R l m → Paired R l' m' → Paired R (l ++ l') (m ++ m')
  | _, _, _, _, .nil, q => q
  | _, _, _, _, .cons r t, q => .cons r (paired_app t q)
end Lk

/-! ## Zip3 -/
set_option Elab.async false
set_option linter.all false
set_option maxRecDepth 100000
set_option maxHeartbeats 2000000
/-! zip of a list and two tuples of one length. -/
namespace Lk
open PySem PySem.Spec PyProof.Rows L2 Gx
variable [Own]
/-- what stands at the three -/
def At3 (a b c : Addr) (H : Hp) (xs ys zs : List V) : Prop := (H a = some (.lst xs) ∧ H b = some (.tup ys) ∧ H c = some (.tup zs)) ∧ ys.length = xs.length ∧ zs.length = xs.length
def Itz3 (a b c : Addr) : It where
  go i H := ∃ xs ys zs, At3 a b c H xs ys zs ∧ i < xs.length
  yld i H v H' := ∃ T x y u, v = .ref T ∧ H T = none ∧ H' = upd H T (.tup [x, y, u]) ∧ ∀ xs ys zs, At3 a b c H xs ys zs → xs[i]? = some x ∧ ys[i]? = some y ∧ zs[i]? = some u
  stop i H := ∃ xs ys zs, At3 a b c H xs ys zs ∧ i = xs.length
theorem vals_arr {xs : List V} {its : List Value} (v : Vals xs its) {i : Nat} {u : Value} (h : its.toArray[i]? = some u) : ∃ x, xs[i]? = some x ∧ L2.RelV x u := by
  have h2 : its[i]? = some u := by simpa using h
  exact paired_get v h2
theorem istup_is {h : Heap} {a : Addr} {arr : Array Value} (q : IsTup h a arr) : h.IsTuple a arr := by
  first
  | exact q
  | (obtain ⟨n, q⟩ := q; exact ⟨_, q, rfl, n, rfl⟩)
  | exact ⟨_, q, rfl, _, rfl⟩
theorem is_istup {h : Heap} {a : Addr} {arr : Array Value} (q : h.IsTuple a arr) (h0 : ∀ o, h.get? a = some o → o.cls = .type "tuple" → True) : IsTup h a arr := by
  first
  | exact q
  | exact ⟨_, q⟩
theorem get_lt {h : Heap} {a : Addr} {o : Obj} (e : h.get? a = some o) : a < h.objs.size := by
  rcases Nat.lt_or_ge a h.objs.size with q | q
  · exact q
  · exfalso
    unfold Heap.get? at e
    rw [Array.getElem?_eq_none q] at e
    cases e
abbrev tn3 (z TI TO i1 i2 i3 a b c : Addr) : Nat → Heap → Prop := fun i h => IsZip h z TI TO .none ∧ IsTupOf3 h TI (.ref i1) (.ref i2) (.ref i3) ∧ (∃ a1 a2 a3, IsTupOf3 h TO a1 a2 a3) ∧ h.IsListIter i1 a i ∧ h.IsTupleIter i2 b i ∧ h.IsTupleIter i3 c i
section
variable {P : Program} {w : World} {K : PySem.W.Frag}
theorem turn_zip3 {elts : List Expr} {kk : Nat} {tpos : Pos} {a b c z TI TO i1 i2 i3 : Addr} (sep : ZipSep3 z TI TO i1 i2 i3 [i1, a] [i2, b] [i3, c]) (n1 : a ≠ i1) (n2 : b ≠ i2) (n3 : c ≠ i3) :
    Turn P w K (.Tuple elts kk tpos) (Itz3 a b c) [z, TI, TO, i1, i2, i3] z (tn3 z TI TO i1 i2 i3 a b c) := by
  refine ⟨List.mem_cons_self .., ?_, ?_, ?_, ?_, ?_⟩
  · rintro i h ⟨hz, hti, ⟨a1, a2, a3, hto⟩, ⟨o1, h1, c1, d1⟩, ⟨o2, h2, c2, d2⟩, ⟨o3, h3, c3, d3⟩⟩ q hq
    simp only [List.mem_cons, List.mem_nil_iff, or_false] at hq
    rcases hq with rfl | rfl | rfl | rfl | rfl | rfl
    · exact ⟨_, hz, fun v e => by cases e⟩
    · exact ⟨_, hti, fun v e => by cases e⟩
    · exact ⟨_, hto, fun v e => by cases e⟩
    · exact ⟨_, h1, fun v e => by rw [d1] at e; cases e⟩
    · exact ⟨_, h2, fun v e => by rw [d2] at e; cases e⟩
    · exact ⟨_, h3, fun v e => by rw [d3] at e; cases e⟩
  · rintro i h h' ⟨hz, hti, ⟨a1, a2, a3, hto⟩, ⟨o1, h1, c1, d1⟩, ⟨o2, h2, c2, d2⟩, ⟨o3, h3, c3, d3⟩⟩ kp
    exact ⟨kp z (by simp) _ hz, kp TI (by simp) _ hti, ⟨a1, a2, a3, kp TO (by simp) _ hto⟩, ⟨o1, kp i1 (by simp) _ h1, c1, d1⟩, ⟨o2, kp i2 (by simp) _ h2, c2, d2⟩, ⟨o3, kp i3 (by simp) _ h3, c3, d3⟩⟩
  · rintro X rfl rfl rfl calm i pins s σ H E I hfp ⟨hz, hti, hto, h1, h2, h3⟩ ⟨xs, ys, zs, ⟨⟨ea, eb, ec⟩, ly, lz⟩, hi⟩
    obtain ⟨its1, m1, v1, g1, s1⟩ := I.lst ea
    obtain ⟨its2, v2, g2, s2⟩ := I.tuple (SqT.of eb)
    obtain ⟨its3, v3, g3, s3⟩ := I.tuple (SqT.of ec)
    have hA : X.A.in1.handled = none := I.ok.hd calm
    have G := GoesN.zip3 (prog := X.prog) (w := X.w) (A := X.A) (elts := elts) (x1 := kk) (pos := tpos) sep (Draws.list hA i1 a n1 its1.toArray) (Draws.tuple hA i2 b n2 its2.toArray) (Draws.tuple hA i3 c n3 its3.toArray)
    have l1 := paired_len v1
    have l2 := paired_len v2
    have l3 := paired_len v3
    refine G.goes i s _ E (by simp only [List.size_toArray]; omega) ⟨hz, hti, hto, ⟨h1, ⟨_, g1, rfl, _, rfl⟩⟩, ⟨h2, istup_is g2⟩, ⟨h3, istup_is g3⟩⟩ ?_
    rintro v h' tk ⟨T, x, y, u, rfl, hT, p1, p2, p3, hI⟩ ⟨qz, qti, qto, ⟨q1, _⟩, ⟨q2, _⟩, ⟨q3, _⟩⟩ kp ht
    obtain ⟨x', e1, r1⟩ := vals_arr v1 p1
    obtain ⟨y', e2, r2⟩ := vals_arr v2 p2
    obtain ⟨u', e3, r3⟩ := vals_arr v3 p3
    have hT0 : H T = none := I.hok.fresh hT
    have I2 := I.turnedNew (h' := h') (t' := tk) (ch := [z, TO, i1, i2, i3]) (T := T) (ob := .tup [x', y', u']) kp (fun q hq => hfp q (by
      simp only [List.mem_cons, List.mem_nil_iff, or_false] at hq ⊢
      rcases hq with h | h | h | h | h <;> simp [h])) hT (by
        unfold ObjOk
        exact ⟨by show 3 ≤ sizeLine; decide, [x, y, u], .cons r1 (.cons r2 (.cons r3 .nil)), hI⟩)
    refine ⟨.ref T, _, I2, rfl, ⟨T, x', y', u', rfl, hT0, rfl, ?_⟩, ⟨qz, qti, qto, q1, q2, q3⟩, fun q hq => ?_⟩
    · rintro xs' ys' zs' ⟨⟨fa, fb, fc⟩, _, _⟩
      rw [ea] at fa
      rw [eb] at fb
      rw [ec] at fc
      cases fa
      cases fb
      cases fc
      exact ⟨e1, e2, e3⟩
    · obtain ⟨hn, _⟩ := hfp q hq
      obtain ⟨o, ho, _⟩ : ∃ o, s.heap.get? q = some o ∧ True := by
        obtain ⟨a1, a2, a3, hto⟩ := hto
        obtain ⟨o1, h1, _⟩ := h1
        obtain ⟨o2, h2, _⟩ := h2
        obtain ⟨o3, h3, _⟩ := h3
        simp only [List.mem_cons, List.mem_nil_iff, or_false] at hq
        rcases hq with rfl | rfl | rfl | rfl | rfl | rfl
        · exact ⟨_, hz, trivial⟩
        · exact ⟨_, hti, trivial⟩
        · exact ⟨_, hto, trivial⟩
        · exact ⟨_, h1, trivial⟩
        · exact ⟨_, h2, trivial⟩
        · exact ⟨_, h3, trivial⟩
      have : q ≠ T := fun e => by
        rw [e] at ho
        exact absurd (get_lt ho) (Nat.not_lt.mpr hT)
      rw [upd_ne this]
      exact hn
  · rintro X rfl rfl rfl calm i pins s σ H E I hfp ⟨hz, hti, hto, h1, h2, h3⟩ ⟨xs, ys, zs, ⟨⟨ea, eb, ec⟩, ly, lz⟩, hi⟩
    obtain ⟨its1, m1, v1, g1, s1⟩ := I.lst ea
    obtain ⟨its2, v2, g2, s2⟩ := I.tuple (SqT.of eb)
    obtain ⟨its3, v3, g3, s3⟩ := I.tuple (SqT.of ec)
    have hA : X.A.in1.handled = none := I.ok.hd calm
    have G := GoesN.zip3 (prog := X.prog) (w := X.w) (A := X.A) (elts := elts) (x1 := kk) (pos := tpos) sep (Draws.list hA i1 a n1 its1.toArray) (Draws.tuple hA i2 b n2 its2.toArray) (Draws.tuple hA i3 c n3 its3.toArray)
    have l1 := paired_len v1
    have l2 := paired_len v2
    have l3 := paired_len v3
    have en : min (min its1.toArray.size its2.toArray.size) its3.toArray.size = i := by simp only [List.size_toArray]; omega
    refine G.stops s _ E (by rw [en]; exact ⟨hz, hti, hto, ⟨h1, ⟨_, g1, rfl, _, rfl⟩⟩, ⟨h2, istup_is g2⟩, ⟨h3, istup_is g3⟩⟩) ?_
    intro h' tk kp ht
    exact I.turnedL (h' := h') (t' := tk) (ch := [z, TO, i1, i2, i3]) kp (fun q hq => hfp q (by
      simp only [List.mem_cons, List.mem_nil_iff, or_false] at hq ⊢
      rcases hq with h | h | h | h | h <;> simp [h]))
  · rintro A i s Q E ⟨hz, _⟩ q
    exact wpAny_pyIter_zip hz q
def iZip3 (ta : TA) : L2.TI := fun σ H R => ta σ H fun vs H1 => ∃ (a b c : Addr) (xs ys zs : List V), vs = [.ref a, .ref b, .ref c] ∧ At3 a b c H1 xs ys zs ∧ R (Itz3 a b c) H1
theorem pi_zip3 {X : Cx} {e e2 e3 : Expr} {ta : TA} {p pos tpos : Pos} {elts : List Expr} {kk : Nat} (hg : Gl X "zip") (hm : X.mg "zip" = none) (ha : PA X [e, e2, e3] ta)
    (hs : starEach [e, e2, e3] X.env = (false, eval e X.env) :: starEach [e2, e3] X.env := by rfl) (hpl : (backTo pos (starEach [e2, e3] X.env)).any (·.1) = false := by rfl) :
    PI X (.Tuple elts kk tpos) (.Call (.Name "zip" p) [e, e2, e3] [] pos) (iZip3 ta) := by
  refine ⟨fun pins s σ H R I h => ?_⟩
  refine Call_ (ld_blt I hg hm boot_zip (PyProof.Rows.callWith_type1 (thn (ha.run pos pins s σ H _ I h) fun us s2 q => ?_) hs hpl))
  obtain ⟨vs, H2, I2, rv, a, b, c, xs, ys, zs, rfl, hat, r⟩ := q
  obtain ⟨⟨ea, eb, ec⟩, ly, lz⟩ := id hat
  cases rv with
  | cons r1 rv =>
  cases rv with
  | cons r2 rv =>
  cases rv with
  | cons r3 rv =>
  cases rv
  cases r1
  cases r2
  cases r3
  obtain ⟨its1, m1, v1, g1, s1⟩ := I2.lst ea
  obtain ⟨its2, v2, g2, s2'⟩ := I2.tuple (SqT.of eb)
  obtain ⟨its3, v3, g3, s3⟩ := I2.tuple (SqT.of ec)
  have la := get_lt g1
  have lb : b < s2.heap.objs.size := by obtain ⟨o, g, _⟩ := g2; exact get_lt g
  have lc : c < s2.heap.objs.size := by obtain ⟨o, g, _⟩ := g3; exact get_lt g
  refine zip_begins3 (begins_list a its1.toArray) (begins_tuple b its2.toArray) (begins_tuple c its3.toArray) ⟨_, g1, rfl, _, rfl⟩ (istup_is g2) (istup_is g3) ?_
  intro h' hz hti hto e1 e2 e3 hsz kp
  refine wpAny_pyIter_zip hz ?_
  have sep := zip_sep3 (N := s2.heap.objs.size) (fp1 := [a]) (fp2 := [b]) (fp3 := [c]) (by simpa using la) (by simpa using lb) (by simpa using lc)
  have I3 : L2.Inv X pins σ H2 { heap := h', gens := s2.gens, drawn := s2.drawn, toks := s2.toks, os := s2.os } := I2.kept kp
  refine ⟨_, _, _, _, H2, rfl, I3, turn_zip3 sep (Nat.ne_of_lt la) (Nat.ne_of_lt (Nat.lt_succ_of_lt lb)) (Nat.ne_of_lt (Nat.lt_succ_of_lt (Nat.lt_succ_of_lt lc))), ⟨hz, hti, ⟨_, _, _, hto⟩, ⟨_, e1, rfl, rfl⟩, ⟨_, e2, rfl, rfl⟩, ⟨_, e3, rfl, rfl⟩⟩, fun q hq => ?_, r⟩
  have hq2 : s2.heap.objs.size ≤ q := by
    simp only [List.mem_cons, List.mem_nil_iff, or_false] at hq
    rcases hq with h | h | h | h | h | h <;> (rw [h]; simp)
  exact I2.fpOk hq2 (I2.hok.fresh hq2)
theorem walk_zip3 {a b c : Addr} {xs ys zs : List V} : Walk (Itz3 a b c) xs.length (fun H => At3 a b c H xs ys zs) (fun i H v H' => ∃ T x y u, v = .ref T ∧ H T = none ∧ H' = upd H T (.tup [x, y, u]) ∧ xs[i]? = some x ∧ ys[i]? = some y ∧ zs[i]? = some u) := by
  refine ⟨fun i H hi h => ⟨xs, ys, zs, h, hi⟩, fun H h => ⟨xs, ys, zs, h, rfl⟩, fun i H x H' hi h y => ?_⟩
  obtain ⟨T, x', y', u, e, h0, e2, q⟩ := y
  exact ⟨T, x', y', u, e, h0, e2, q xs ys zs h⟩
end
end Lk

/-! ## D24 -/
set_option Elab.async false
set_option linter.all false
set_option maxRecDepth 100000
set_option maxHeartbeats 2000000
namespace Lk
open PySem PySem.Spec PyProof.Rows L2 Gx
open GxR (TabG Tabbed TabB)
variable [Own]
/-- a comprehension over any walk -/
theorem lc_walk {J : It} {n : Nat} {G : Hp → Prop} {Y : Nat → Hp → V → Hp → Prop} (w : Walk J n G Y) {g : TG} {tt : TT} {te : TE} {vs : List Nat} {σ : L2.St} {H1 : Hp} {D : Addr} {Qd : Hp → Prop} (Pv : Nat → Hp → Prop) (h0 : Pv 0 (upd H1 D (.lst []))) (hG : ∀ i H, i ≤ n → Pv i H → G H)
    (hs : ∀ i x H H', i < n → Pv i H → Y i H x H' → g x (wipe σ vs) H' fun σ2 H2 => wipe σ2 vs = wipe σ vs ∧ tt σ2 H2 fun b H3 =>
      if b = true then te σ2 H3 fun y H4 => ∃ acc, H4 D = some (.lst acc) ∧ acc.length < sizeLine ∧ Pv (i + 1) (upd H4 D (.lst (acc ++ [y]))) else Pv (i + 1) H3) (hd : ∀ H, Pv n H → Qd H) :
    ∃ W : Nat → Nat → Hp → Prop, (∃ m, W 0 m (upd H1 D (.lst []))) ∧ ∀ i m H, W i m H →
      (J.stop i H ∧ Qd H) ∨ (J.go i H ∧ ∃ Nx : Hp → Prop, (∀ H', Nx H' → ∃ m', m' < m ∧ W (i + 1) m' H') ∧ ∀ x H', J.yld i H x H' → g x (wipe σ vs) H' fun σ2 H2 => wipe σ2 vs = wipe σ vs ∧ tt σ2 H2 fun b H3 =>
        if b = true then te σ2 H3 fun y H4 => ∃ acc, H4 D = some (.lst acc) ∧ acc.length < sizeLine ∧ Nx (upd H4 D (.lst (acc ++ [y]))) else Nx H3) := by
  refine ⟨fun i m H => m = n - i ∧ i ≤ n ∧ Pv i H, ⟨n, by simp, Nat.zero_le _, h0⟩, ?_⟩
  rintro i m H ⟨rfl, hi, p⟩
  have q := hG i H hi p
  by_cases hlt : i < n
  · exact .inr ⟨w.goes i H hlt q, Pv (i + 1), fun H' p' => ⟨n - (i + 1), by omega, rfl, hlt, p'⟩, fun x H' y => hs i x H H' hlt p (w.yields i H x H' hlt q y)⟩
  · have e : i = n := by omega
    subst e
    exact .inl ⟨w.stops H q, hd H p⟩
/-- an empty list, told of any -/
def rEqLn : R2 := fun x y H Q => ∃ (a b : Addr) (n : Nat), x = .ref a ∧ y = .ref b ∧ H a = some (.lst (List.replicate n (.int 1))) ∧ H b = some (.lst []) ∧ Q (.bl (decide (n = 0))) H
/-- nowhere worse, by signs -/
def lawGoes : List Int → List Int → List Int → Bool
  | s :: ss, x :: xs, y :: ys => !decide (s * (y - x) < 0) && lawGoes ss xs ys
  | _, _, _ => true
def spLawGoes : Sp := fun vs H Q _ => ∃ (a : Addr) (x y : V) (ss xs ys : List Int), vs = [.ref a, x, y] ∧ H a = some (.lst (iv ss)) ∧ TI H x xs ∧ TI H y ys ∧ xs.length = ss.length ∧ ys.length = ss.length ∧ ss.length ≤ 1000 ∧ (∀ s ∈ ss, s = 1 ∨ s = -1) ∧ (∀ x ∈ xs, 0 ≤ x ∧ x ≤ 1000) ∧ (∀ x ∈ ys, 0 ≤ x ∧ x ≤ 1000) ∧
  ∀ H', Ext H H' → Q (.bl (lawGoes ss xs ys)) H'
def worse (ss xs ys : List Int) : Nat → Nat
  | 0 => 0
  | n + 1 => worse ss xs ys n + if ss.getD n 0 * (ys.getD n 0 - xs.getD n 0) < 0 then 1 else 0
theorem worse_le (ss xs ys : List Int) : ∀ n, worse ss xs ys n ≤ n
  | 0 => Nat.le_refl _
  | n + 1 => by
    have := worse_le ss xs ys n
    unfold worse
    split <;> omega
theorem worse_cons (s x y : Int) (ss xs ys : List Int) : ∀ n, worse (s :: ss) (x :: xs) (y :: ys) (n + 1) = (if s * (y - x) < 0 then 1 else 0) + worse ss xs ys n
  | 0 => by simp [worse]
  | n + 1 => by
    have := worse_cons s x y ss xs ys n
    rw [worse, this, worse]
    simp only [List.getD_cons_succ]
    omega
theorem worse_goes : ∀ (ss xs ys : List Int), xs.length = ss.length → ys.length = ss.length → decide (worse ss xs ys ss.length = 0) = lawGoes ss xs ys
  | [], [], [], _, _ => by simp [worse, lawGoes]
  | s :: ss, x :: xs, y :: ys, h1, h2 => by
    rw [List.length_cons, worse_cons, lawGoes, ← worse_goes ss xs ys (by simpa using h1) (by simpa using h2)]
    by_cases h : s * (y - x) < 0
    · rw [if_pos h, decide_eq_true h]
      simp
    · rw [if_neg h, decide_eq_false h]
      simp
section
variable {P : Program} {w : World} {K : PySem.W.Frag} {mg : Str → Option Value} {base : Heap} {Ps : List Addr}
theorem eqv_reps (n : Nat) : PyData.eqv (.list ((List.replicate n 1).map .int)) (.list ([].map .int)) = decide (n = 0) := by
  cases n with
  | zero => simp [PyData.eqv, PyData.eqvAll]
  | succ n => simp [PyData.eqv, PyData.eqvAll, List.replicate_succ]
theorem shaped_li (a : List Int) : SeqAt.shaped (.list (a.map .int)) = true := by
  unfold SeqAt.shaped
  simp only [PyData.canLay0, canLay_ints a, PyData.depth, depth_ints a, Bool.true_and]
  decide
theorem op_eqLn {X : Cx} (hu : X.A.units + 64 < cLine) : OpR X (compareOp .Eq) rEqLn := by
  intro pins s σ H x y v u Q I rx ry h
  obtain ⟨a, b, n, rfl, rfl, h1, h2, q⟩ := h
  refine op_eqD hu pins s σ H _ _ v u Q I rx ry ⟨_, _, .lst (SqL.of h1) (by
    have := dpAll_ints (K := X.K) (H := H) (List.replicate n 1)
    unfold iv at this
    rw [List.map_replicate] at this
    exact this), .lst (SqL.of h2) .nil, shaped_li _, shaped_li [], ?_⟩
  rw [show ([] : List PyData) = ([] : List Int).map .int from rfl, eqv_reps]
  exact q
end
end Lk

/-! ## RM -/
set_option Elab.async false
set_option linter.all false
/-! Rings of looks, as data: the paths level by level; what they are. -/
namespace Lk
theorem nodup_le {α : Type} [DecidableEq α] : ∀ (l D : List α), l.Nodup → (∀ x ∈ l, x ∈ D) → l.length ≤ D.length
  | [], D, _, _ => Nat.zero_le _
  | x :: l, D, nd, h => by
    obtain ⟨n1, n2⟩ := List.nodup_cons.mp nd
    have hx : x ∈ D := h x (List.mem_cons_self ..)
    have ih := nodup_le l (D.erase x) n2 fun y hy => by
      have ne : y ≠ x := fun e => n1 (e ▸ hy)
      exact (List.mem_erase_of_ne ne).mpr (h y (List.mem_cons_of_mem _ hy))
    rw [List.length_erase_of_mem hx] at ih
    have : 0 < D.length := List.length_pos_of_mem hx
    rw [List.length_cons]
    omega
/-- the whole numbers from a, below b -/
def nums (a b : Int) : List Int := (List.range (b - a).toNat).map fun i : Nat => a + (i : Int)
theorem nums_len (a b : Int) : (nums a b).length = (b - a).toNat := by unfold nums; rw [List.length_map, List.length_range]
theorem mem_nums {a b x : Int} : x ∈ nums a b ↔ a ≤ x ∧ x < b := by
  unfold nums
  rw [List.mem_map]
  constructor
  · rintro ⟨i, hi, rfl⟩
    have := List.mem_range.mp hi
    omega
  · rintro ⟨h1, h2⟩
    exact ⟨(x - a).toNat, List.mem_range.mpr (by omega), by omega⟩
theorem nums_get {a b : Int} {i : Nat} (h : i < (b - a).toNat) : (nums a b)[i]? = some (a + (i : Int)) := by
  unfold nums
  rw [List.getElem?_map, List.getElem?_range h] <;> rfl
theorem nums_cons {a b : Int} (h : a < b) : nums a b = a :: nums (a + 1) b := by
  unfold nums
  have e : (b - a).toNat = (b - (a + 1)).toNat + 1 := by omega
  rw [e, List.range_succ_eq_map, List.map_cons, List.map_map]
  congr 1
  · simp
  · refine List.map_congr_left fun i _ => ?_
    show a + ((i + 1 : Nat) : Int) = a + 1 + (i : Int)
    omega
theorem nums_nil {a b : Int} (h : b ≤ a) : nums a b = [] := by
  unfold nums
  have e : (b - a).toNat = 0 := by omega
  rw [e] <;> rfl
/-- the greater ones alone -/
theorem nums_over {q : Int → Bool} {h b : Int} : ∀ (n : Nat) {a : Int}, (h + 1 - a).toNat = n → a ≤ h + 1 → (nums a b).filter (fun x => q x && decide (h < x)) = (nums (h + 1) b).filter q
  | 0, a, e, l => by
    have ea : a = h + 1 := by omega
    subst ea
    refine List.filter_congr fun x hx => ?_
    have := (mem_nums.mp hx).1
    rw [decide_eq_true (show h < x by omega), Bool.and_true]
  | n + 1, a, e, l => by
    by_cases hab : a < b
    · rw [nums_cons hab, List.filter_cons]
      have : decide (h < a) = false := decide_eq_false (by omega)
      rw [this, Bool.and_false]
      simp only [Bool.false_eq_true, if_false]
      exact nums_over n (by omega) (by omega)
    · rw [nums_nil (by omega), nums_nil (by omega)] <;> rfl
/-! ### looks by their numbers -/
def lookN (ls : List (Int × Int × Int)) (n : Int) : Int × Int × Int := ls.getD n.toNat (0, 0, 0)
/-- at whom, who, the sign -/
def lkd (ls : List (Int × Int × Int)) (n : Int) : Int := (lookN ls n).1
def lkr (ls : List (Int × Int × Int)) (n : Int) : Int := (lookN ls n).2.1
def lks (ls : List (Int × Int × Int)) (n : Int) : Int := (lookN ls n).2.2
theorem lookN_get {ls : List (Int × Int × Int)} {n : Int} (h0 : 0 ≤ n) (h : n < ls.length) : ls[n.toNat]? = some (lookN ls n) := by
  unfold lookN
  rw [List.getD_eq_getElem?_getD, List.getElem?_eq_getElem (by omega)] <;> rfl
theorem lookN_mem {ls : List (Int × Int × Int)} {n : Int} (h0 : 0 ≤ n) (h : n < ls.length) : lookN ls n ∈ ls := List.mem_of_getElem? (lookN_get h0 h)
def closesP (ls : List (Int × Int × Int)) (p : List Int) : Bool := lkr ls (p.getLastD 0) == lkd ls (p.headD 0)
def goesOnP (ls : List (Int × Int × Int)) (p : List Int) (n : Int) : Bool := lkd ls n == lkr ls (p.getLastD 0) && !((p.map (lkr ls)).contains (lkr ls n))
def longer (ls : List (Int × Int × Int)) (p : List Int) : List (List Int) := if closesP ls p = true then [] else ((nums (p.headD 0 + 1) ls.length).filter (goesOnP ls p)).map fun n => p ++ [n]
def level (ls : List (Int × Int × Int)) : Nat → List (List Int)
  | 0 => (nums 0 ls.length).map fun n => [n]
  | k + 1 => (level ls k).flatMap (longer ls)
def foundN (ls : List (Int × Int × Int)) : Nat → List (List Int)
  | 0 => []
  | k + 1 => foundN ls k ++ (level ls k).filter (closesP ls)
/-- all rings, not yet sorted -/
def ringsRaw (ls : List (Int × Int × Int)) : List (List Int) := foundN ls 7
/-- a path: numbers of looks, the first the least, each one's looker the one at whom the next one looks, through unlike folk -/
structure PathOk (ls : List (Int × Int × Int)) (p : List Int) : Prop where
  ne : p ≠ []
  num : ∀ n ∈ p, 0 ≤ n ∧ n < ls.length
  nd : (p.map (lkr ls)).Nodup
  least : ∀ n ∈ p, p.headD 0 ≤ n
  chain : ∀ (i : Nat) (a b : Int), p[i]? = some a → p[i + 1]? = some b → lkr ls a = lkd ls b
theorem headD_app {p : List Int} {x : List Int} (h : p ≠ []) : (p ++ x).headD 0 = p.headD 0 := by
  cases p with
  | nil => exact absurd rfl h
  | cons a b => rfl
theorem getLastD_app {p : List Int} {n : Int} : (p ++ [n]).getLastD 0 = n := by simp [List.getLastD_eq_getLast?]
theorem getLastD_get {p : List Int} (h : p ≠ []) : p[p.length - 1]? = some (p.getLastD 0) := by
  rw [List.getLastD_eq_getLast?, List.getLast?_eq_getElem?]
  have : 0 < p.length := List.length_pos_iff.mpr h
  rw [List.getElem?_eq_getElem (by omega)] <;> rfl
theorem getLastD_mem {p : List Int} (h : p ≠ []) : p.getLastD 0 ∈ p := List.mem_of_getElem? (getLastD_get h)
theorem headD_mem {p : List Int} (h : p ≠ []) : p.headD 0 ∈ p := by
  cases p with
  | nil => exact absurd rfl h
  | cons a b => exact List.mem_cons_self ..
theorem path_one {ls : List (Int × Int × Int)} {n : Int} (h : 0 ≤ n ∧ n < ls.length) : PathOk ls [n] :=
  ⟨by simp, fun m hm => by rw [List.mem_singleton.mp hm]; exact h, by simp, fun m hm => by rw [List.mem_singleton.mp hm]; exact Int.le_refl _, fun i a b h1 h2 => by simp at h2⟩
theorem path_more {ls : List (Int × Int × Int)} {p : List Int} {n : Int} (ok : PathOk ls p) (hn : p.headD 0 + 1 ≤ n ∧ n < ls.length) (g : goesOnP ls p n = true) : PathOk ls (p ++ [n]) := by
  obtain ⟨g1, g2⟩ := Bool.and_eq_true_iff.mp g
  have g1 : lkd ls n = lkr ls (p.getLastD 0) := beq_iff_eq.mp g1
  have g2 : lkr ls n ∉ p.map (lkr ls) := by
    intro z
    rw [Bool.not_eq_true', ← Bool.not_eq_true] at g2
    exact g2 (List.contains_iff_mem.mpr z)
  have h0 := ok.num _ (headD_mem ok.ne)
  refine ⟨by simp, fun m hm => ?_, ?_, fun m hm => ?_, fun i a b h1 h2 => ?_⟩
  · rcases List.mem_append.mp hm with q | q
    · exact ok.num m q
    · rw [List.mem_singleton.mp q]
      exact ⟨by omega, hn.2⟩
  · rw [List.map_append, List.map_singleton]
    refine List.nodup_append.mpr ⟨ok.nd, by simp, fun a ha b hb => ?_⟩
    rw [List.mem_singleton.mp hb]
    intro e
    exact g2 (e ▸ ha)
  · rw [headD_app ok.ne]
    rcases List.mem_append.mp hm with q | q
    · exact ok.least m q
    · rw [List.mem_singleton.mp q]
      omega
  · by_cases hi : i + 1 < p.length
    · rw [List.getElem?_append_left (by omega)] at h1
      rw [List.getElem?_append_left hi] at h2
      exact ok.chain i a b h1 h2
    · have hl : i + 1 = p.length := by
        have := (List.getElem?_eq_some_iff.mp h2).1
        rw [List.length_append, List.length_singleton] at this
        omega
      rw [List.getElem?_append_right (by omega), hl, Nat.sub_self] at h2
      rw [List.getElem?_append_left (by omega)] at h1
      have e1 := getLastD_get ok.ne
      rw [show p.length - 1 = i by omega, h1] at e1
      have eb : n = b := by simpa using h2
      rw [Option.some.inj e1, ← eb]
      exact g1.symm
theorem longer_mem {ls : List (Int × Int × Int)} {p q : List Int} (h : q ∈ longer ls p) : closesP ls p = false ∧ ∃ n, q = p ++ [n] ∧ (p.headD 0 + 1 ≤ n ∧ n < ls.length) ∧ goesOnP ls p n = true := by
  unfold longer at h
  by_cases c : closesP ls p = true
  · rw [if_pos c] at h
    simp at h
  · rw [if_neg c] at h
    obtain ⟨n, hn, rfl⟩ := List.mem_map.mp h
    obtain ⟨h1, h2⟩ := List.mem_filter.mp hn
    exact ⟨by simpa using c, n, rfl, mem_nums.mp h1, h2⟩
theorem level_ok {ls : List (Int × Int × Int)} : ∀ (k : Nat) {p : List Int}, p ∈ level ls k → PathOk ls p ∧ p.length = k + 1
  | 0, p, h => by
    obtain ⟨n, hn, rfl⟩ := List.mem_map.mp h
    exact ⟨path_one (mem_nums.mp hn), rfl⟩
  | k + 1, p, h => by
    obtain ⟨q, hq, hp⟩ := List.mem_flatMap.mp h
    obtain ⟨ok, hl⟩ := level_ok k hq
    obtain ⟨_, n, rfl, hn, g⟩ := longer_mem hp
    exact ⟨path_more ok hn g, by rw [List.length_append, hl]; rfl⟩
theorem level_none {ls : List (Int × Int × Int)} {m : Nat} (hm : ∀ l ∈ ls, 0 ≤ l.2.1 ∧ l.2.1 < (m : Int)) {k : Nat} (hk : m ≤ k) : level ls k = [] := by
  cases e : level ls k with
  | nil => rfl
  | cons p r =>
    obtain ⟨ok, hl⟩ := level_ok (ls := ls) k (p := p) (by rw [e]; exact List.mem_cons_self ..)
    have := nodup_le (p.map (lkr ls)) (nums 0 m) ok.nd fun x hx => by
      obtain ⟨n, hn, rfl⟩ := List.mem_map.mp hx
      obtain ⟨h0, h1⟩ := ok.num n hn
      exact mem_nums.mpr (hm _ (lookN_mem h0 h1))
    rw [List.length_map, nums_len, hl] at this
    omega
theorem filter_len_le {α : Type} (p : α → Bool) (l : List α) : (l.filter p).length ≤ l.length := List.length_filter_le _ _
theorem longer_len (ls : List (Int × Int × Int)) (p : List Int) (h : 0 ≤ p.headD 0 ∨ True) (h14 : ls.length ≤ 14) (h0 : 0 ≤ p.headD 0) : (longer ls p).length ≤ 14 := by
  unfold longer
  split
  · exact Nat.zero_le _
  · rw [List.length_map]
    refine Nat.le_trans (List.length_filter_le _ _) ?_
    rw [nums_len]
    omega
theorem flatMap_len {α β : Type} {f : α → List β} {c : Nat} : ∀ {l : List α}, (∀ x ∈ l, (f x).length ≤ c) → (l.flatMap f).length ≤ c * l.length
  | [], _ => by simp
  | x :: l, h => by
    rw [List.flatMap_cons, List.length_append, List.length_cons]
    have h1 := h x (List.mem_cons_self ..)
    have h2 := flatMap_len (l := l) fun y hy => h y (List.mem_cons_of_mem _ hy)
    rw [Nat.mul_succ]
    omega
theorem level_len {ls : List (Int × Int × Int)} (h14 : ls.length ≤ 14) : ∀ k : Nat, (level ls k).length ≤ 14 ^ (k + 1)
  | 0 => by
    show ((nums 0 ls.length).map fun n => [n]).length ≤ 14 ^ (0 + 1)
    rw [List.length_map, nums_len]
    omega
  | k + 1 => by
    have h := flatMap_len (f := longer ls) (c := 14) (l := level ls k) fun p hp => longer_len ls p (.inr trivial) h14 ((level_ok k hp).1.num _ (headD_mem (level_ok k hp).1.ne)).1
    have h2 := level_len h14 k
    show ((level ls k).flatMap (longer ls)).length ≤ 14 ^ (k + 1 + 1)
    rw [Nat.pow_succ]
    omega
theorem level_small {ls : List (Int × Int × Int)} (h14 : ls.length ≤ 14) (hm : ∀ l ∈ ls, 0 ≤ l.2.1 ∧ l.2.1 < (6 : Int)) (k : Nat) : (level ls k).length ≤ 7529536 := by
  by_cases hk : 6 ≤ k
  · rw [level_none (m := 6) hm hk]
    exact Nat.zero_le _
  · have h := level_len h14 k
    have h2 : 14 ^ (k + 1) ≤ 14 ^ 6 := Nat.pow_le_pow_right (by decide) (by omega)
    exact Nat.le_trans h h2
theorem found_small {ls : List (Int × Int × Int)} (h14 : ls.length ≤ 14) (hm : ∀ l ∈ ls, 0 ≤ l.2.1 ∧ l.2.1 < (6 : Int)) : ∀ k : Nat, (foundN ls k).length ≤ 8108730
  | 0 => Nat.zero_le _
  | 1 => by
    have := level_len h14 0
    have h2 := List.length_filter_le (closesP ls) (level ls 0)
    show ([] ++ (level ls 0).filter (closesP ls)).length ≤ _
    rw [List.nil_append]
    omega
  | k + 2 => by
    have key : ∀ k, (foundN ls k).length ≤ if k = 0 then 0 else if k = 1 then 14 else if k = 2 then 210 else if k = 3 then 2954 else if k = 4 then 41370 else if k = 5 then 579194 else 8108730 := by
      intro k
      induction k with
      | zero => exact Nat.zero_le _
      | succ k ih =>
        have h1 := level_len h14 k
        have h2 := List.length_filter_le (closesP ls) (level ls k)
        have e : (foundN ls (k + 1)).length = (foundN ls k).length + ((level ls k).filter (closesP ls)).length := by
          show (foundN ls k ++ _).length = _
          rw [List.length_append]
        rw [e]
        rcases (by omega : k = 0 ∨ k = 1 ∨ k = 2 ∨ k = 3 ∨ k = 4 ∨ k = 5 ∨ 6 ≤ k) with z | z | z | z | z | z | z
        · subst z; have z0 : (foundN ls 0).length = 0 := rfl; simp at h1 ⊢; omega
        · subst z; simp at ih h1 ⊢; omega
        · subst z; simp at ih h1 ⊢; omega
        · subst z; simp at ih h1 ⊢; omega
        · subst z; simp at ih h1 ⊢; omega
        · subst z; simp at ih h1 ⊢; omega
        · rw [level_none (m := 6) hm z] at h2 ⊢
          simp at ih ⊢
          split at ih <;> (try split at ih) <;> (try split at ih) <;> (try split at ih) <;> (try split at ih) <;> (try split at ih) <;> (try split) <;> (try split) <;> (try split) <;> (try split) <;> (try split) <;> omega
    have := key (k + 2)
    refine Nat.le_trans this ?_
    repeat' split
    all_goals omega
theorem found_end {ls : List (Int × Int × Int)} {k : Nat} (h : level ls k = []) : ∀ j, foundN ls (k + j) = foundN ls k
  | 0 => rfl
  | j + 1 => by
    have hz : ∀ j, level ls (k + j) = [] := fun j => by
      induction j with
      | zero => exact h
      | succ j ih =>
        show (level ls (k + j)).flatMap (longer ls) = []
        rw [ih] <;> rfl
    show foundN ls (k + j) ++ (level ls (k + j)).filter (closesP ls) = _
    rw [hz j, found_end h j]
    simp
theorem found_all {ls : List (Int × Int × Int)} {k : Nat} (h : level ls k = []) (hk : k ≤ 7) : foundN ls k = ringsRaw ls := by
  have := found_end h (7 - k)
  rw [show k + (7 - k) = 7 by omega] at this
  exact this.symm
theorem found_mem {ls : List (Int × Int × Int)} : ∀ {k : Nat} {p : List Int}, p ∈ foundN ls k → ∃ j, j < k ∧ p ∈ level ls j ∧ closesP ls p = true
  | 0, p, h => by simp [foundN] at h
  | k + 1, p, h => by
    rcases List.mem_append.mp (show p ∈ foundN ls k ++ (level ls k).filter (closesP ls) from h) with q | q
    · obtain ⟨j, a, b⟩ := found_mem q
      exact ⟨j, by omega, b⟩
    · obtain ⟨a, b⟩ := List.mem_filter.mp q
      exact ⟨k, by omega, a, b⟩
theorem raw_ok {ls : List (Int × Int × Int)} {p : List Int} (h : p ∈ ringsRaw ls) : PathOk ls p ∧ closesP ls p = true ∧ p.length ≤ 7 := by
  obtain ⟨j, hj, a, b⟩ := found_mem (k := 7) h
  obtain ⟨ok, hl⟩ := level_ok j a
  exact ⟨ok, b, by omega⟩
/-- a ring twice over is none -/
theorem raw_twice {ls : List (Int × Int × Int)} {p : List Int} (h : p ≠ []) : p ++ p ∉ ringsRaw ls := fun z => by
  have nd := (raw_ok z).1.nd
  rw [List.map_append] at nd
  have := (List.nodup_append.mp nd).2.2 (lkr ls (p.headD 0)) (List.mem_map.mpr ⟨_, headD_mem h, rfl⟩) _ (List.mem_map.mpr ⟨_, headD_mem h, rfl⟩)
  exact this rfl
/-! ### signs -/
def prodS (ls : List (Int × Int × Int)) (p : List Int) : Int := p.foldl (fun a n => a * lks ls n) 1
def evenP (ls : List (Int × Int × Int)) (p : List Int) : Bool := (p.filter fun n => lks ls n == -1).length % 2 == 0
theorem prod_fold {ls : List (Int × Int × Int)} : ∀ (p : List Int) (a : Int), (a = 1 ∨ a = -1) → (∀ n ∈ p, lks ls n = 1 ∨ lks ls n = -1) →
    p.foldl (fun a n => a * lks ls n) a = a * (if (p.filter fun n => lks ls n == -1).length % 2 = 0 then 1 else -1)
  | [], a, _, _ => by simp
  | n :: p, a, ha, h => by
    have hn := h n (List.mem_cons_self ..)
    rw [List.foldl_cons, prod_fold p (a * lks ls n) (by rcases ha with e | e <;> rcases hn with f | f <;> rw [e, f] <;> simp) fun m hm => h m (List.mem_cons_of_mem _ hm), List.filter_cons]
    rcases hn with f | f
    · rw [f]
      simp
    · rw [f]
      simp only [beq_self_eq_true, if_true, List.length_cons]
      by_cases e : (p.filter fun n => lks ls n == -1).length % 2 = 0
      · rw [if_pos e, if_neg (by omega)]
        omega
      · rw [if_neg e, if_pos (by omega)]
        omega
theorem prod_even {ls : List (Int × Int × Int)} {p : List Int} (h : ∀ n ∈ p, lks ls n = 1 ∨ lks ls n = -1) : prodS ls p = if evenP ls p = true then 1 else -1 := by
  unfold prodS
  rw [prod_fold p 1 (.inl rfl) h, Int.one_mul]
  unfold evenP
  by_cases e : (p.filter fun n => lks ls n == -1).length % 2 = 0
  · rw [if_pos e, e] <;> rfl
  · rw [if_neg e, if_neg (by simpa using e)]
end Lk

/-! ## Lcg -/
set_option Elab.async false
set_option linter.all false
set_option maxRecDepth 100000
set_option maxHeartbeats 2000000
/-! Comprehensions told by a function of what their source holds. -/
namespace Lk
open PySem PySem.Spec PyProof.Rows L2 Gx
variable [Own]
/-- what is told of a value stays told in heaps that have grown, and behind a write at a list -/
structure Stays {α : Type} (S : Hp → V → α → Prop) : Prop where
  ext : ∀ {H H' : Hp} {v : V} {a : α}, Ext H H' → S H v a → S H' v a
  put : ∀ {H : Hp} {D : Addr} {acc : List V} {o : HO} {v : V} {a : α}, H D = some (.lst acc) → S H v a → S (upd H D o) v a
theorem stTI : Stays TI := ⟨fun e h => h.ext e, fun {H D acc o v a} hD h => by
  obtain ⟨z, rfl, hz⟩ := h
  exact ⟨z, rfl, by rw [upd_ne (ne_of hD hz (by intro q; cases q)).symm]; exact hz⟩⟩
/-- an int -/
def VI : Hp → V → Int → Prop := fun _ v n => v = .int n
theorem stVI : Stays VI := ⟨fun _ h => h, fun _ h => h⟩
theorem pVI {H : Hp} : ∀ {vs : List V} {ns : List Int}, Paired (VI H) vs ns → vs = iv ns
  | _, _, .nil => rfl
  | _, _, .cons h t => by rw [show _ = _ from h, pVI t] <;> rfl
theorem iv_pVI {H : Hp} : ∀ ns : List Int, Paired (VI H) (iv ns) ns
  | [] => .nil
  | n :: ns => .cons rfl (iv_pVI ns)
/-- any value, told by nothing but itself -/
def VV : Hp → V → V → Prop := fun _ v w => v = w
theorem stVV : Stays VV := ⟨fun _ h => h, fun _ h => h⟩
theorem pVV {H : Hp} : ∀ {vs ws : List V}, Paired (VV H) vs ws → vs = ws
  | _, _, .nil => rfl
  | _, _, .cons h t => by rw [show _ = _ from h, pVV t]
theorem vv_p {H : Hp} : ∀ vs : List V, Paired (VV H) vs vs
  | [] => .nil
  | _ :: vs => .cons rfl (vv_p vs)
theorem filterMap_take {α β : Type} {f : α → Option β} {l : List α} {i : Nat} {x : α} (h : l[i]? = some x) : (l.take (i + 1)).filterMap f = (l.take i).filterMap f ++ (match f x with | some y => [y] | none => []) := by
  rw [take_snoc h, List.filterMap_append]
  congr 1
  cases e : f x <;> simp [e]
theorem lc_fm {J : It} {n : Nat} {G : Hp → Prop} {Y : Nat → Hp → V → Hp → Prop} (w : Walk J n G Y) {α β : Type} {R : Hp → V → α → Prop} {S : Hp → V → β → Prop} (st : Stays S) {bs : List α} {g : TG} {tt : TT} {te : TE} {vs : List Nat} {σ : L2.St} {H1 : Hp} {D : Addr} {Qd : Hp → Prop}
    (f : α → Option β) (hD : H1 D = none) (few : n ≤ sizeLine) (hn : bs.length = n) (hG : ∀ H', Ext H1 H' → G H') (hY : ∀ i H x H', Ext H1 H → i < n → Y i H x H' → H' = H ∧ ∃ b, bs[i]? = some b ∧ R H x b)
    (hs : ∀ x b H' (Ky : V → Hp → Prop) (Kn : Hp → Prop), Ext H1 H' → b ∈ bs → R H' x b → (∀ y r H4, f b = some r → Ext H' H4 → S H4 y r → Ky y H4) → (∀ H3, f b = none → Ext H' H3 → Kn H3) →
      g x (wipe σ vs) H' fun σ2 H2 => wipe σ2 vs = wipe σ vs ∧ tt σ2 H2 fun c H3 => if c = true then te σ2 H3 Ky else Kn H3)
    (hd : ∀ H' acc, Ext H1 H' → H' D = some (.lst acc) → Paired (S H') acc (bs.filterMap f) → Qd H') :
    ∃ W : Nat → Nat → Hp → Prop, (∃ m, W 0 m (upd H1 D (.lst []))) ∧ ∀ i m H, W i m H →
      (J.stop i H ∧ Qd H) ∨ (J.go i H ∧ ∃ Nx : Hp → Prop, (∀ H', Nx H' → ∃ m', m' < m ∧ W (i + 1) m' H') ∧ ∀ x H', J.yld i H x H' → g x (wipe σ vs) H' fun σ2 H2 => wipe σ2 vs = wipe σ vs ∧ tt σ2 H2 fun b H3 =>
        if b = true then te σ2 H3 fun y H4 => ∃ acc, H4 D = some (.lst acc) ∧ acc.length < sizeLine ∧ Nx (upd H4 D (.lst (acc ++ [y]))) else Nx H3) := by
  refine lc_walk w (fun i H' => ∃ acc, H' D = some (.lst acc) ∧ Ext H1 H' ∧ acc.length ≤ i ∧ Paired (S H') acc ((bs.take i).filterMap f)) ⟨[], upd_same, Ext.new hD _, Nat.le_refl _, .nil⟩ (fun i H' _ ⟨_, _, e, _⟩ => hG H' e) (fun i x H' H2 hi ⟨acc, hacc, e, hl, hp⟩ y => ?_) fun H' ⟨acc, hacc, e, hl, hp⟩ => ?_
  · obtain ⟨rfl, b, hb, hr⟩ := hY i H' x H2 e hi y
    refine hs x b _ _ _ e (List.mem_of_getElem? hb) hr (fun y r H4 hf e4 hy => ?_) fun H3 hf e3 => ?_
    · have h4 := e4.lst hacc
      refine ⟨acc, h4, by omega, acc ++ [y], upd_same, (e.trans e4).put hD _, by rw [List.length_append]; simp; omega, ?_⟩
      rw [filterMap_take hb, hf]
      exact paired_snoc (st.put h4 hy) (paired_mono (fun v a h => st.put h4 (st.ext e4 h)) hp)
    · refine ⟨acc, e3.lst hacc, e.trans e3, by omega, ?_⟩
      rw [filterMap_take hb, hf]
      show Paired _ _ (_ ++ [])
      rw [List.append_nil]
      exact paired_mono (fun v a h => st.ext e3 h) hp
  · refine hd H' acc e hacc ?_
    rw [← hn, List.take_length] at hp
    exact hp
section
variable {K : PySem.W.Frag} {a : Addr} {xs : List V} {α β : Type} {R : Hp → V → α → Prop} {S : Hp → V → β → Prop} {bs : List α} {g : TG} {tt : TT} {te : TE} {vs : List Nat} {σ : L2.St} {H1 : Hp} {D : Addr} {Qd : Hp → Prop}
/-- over a list -/
theorem lc_fmL (sr : Stays R) (st : Stays S) (f : α → Option β) (hD : H1 D = none) (hx : H1 a = some (.lst xs)) (hp : Paired (R H1) xs bs) (few : xs.length ≤ sizeLine)
    (hs : ∀ x b H' (Ky : V → Hp → Prop) (Kn : Hp → Prop), Ext H1 H' → b ∈ bs → R H' x b → (∀ y r H4, f b = some r → Ext H' H4 → S H4 y r → Ky y H4) → (∀ H3, f b = none → Ext H' H3 → Kn H3) →
      g x (wipe σ vs) H' fun σ2 H2 => wipe σ2 vs = wipe σ vs ∧ tt σ2 H2 fun c H3 => if c = true then te σ2 H3 Ky else Kn H3)
    (hd : ∀ H' acc, Ext H1 H' → H' D = some (.lst acc) → Paired (S H') acc (bs.filterMap f) → Qd H') :
    ∃ W : Nat → Nat → Hp → Prop, (∃ m, W 0 m (upd H1 D (.lst []))) ∧ ∀ i m H, W i m H →
      ((Itl K a).stop i H ∧ Qd H) ∨ ((Itl K a).go i H ∧ ∃ Nx : Hp → Prop, (∀ H', Nx H' → ∃ m', m' < m ∧ W (i + 1) m' H') ∧ ∀ x H', (Itl K a).yld i H x H' → g x (wipe σ vs) H' fun σ2 H2 => wipe σ2 vs = wipe σ vs ∧ tt σ2 H2 fun b H3 =>
        if b = true then te σ2 H3 fun y H4 => ∃ acc, H4 D = some (.lst acc) ∧ acc.length < sizeLine ∧ Nx (upd H4 D (.lst (acc ++ [y]))) else Nx H3) :=
  lc_fm (walk_list (K := K) (a := a) (xs := xs)) st f hD few (paired_len hp).symm (fun H' e => SqL.of (e.lst hx)) (fun i H x H' e hi y => by
    obtain ⟨rfl, hx2⟩ := y
    obtain ⟨b, hb, hr⟩ := paired_get' hp hx2
    exact ⟨rfl, b, hb, sr.ext e hr⟩) hs hd
/-- over a tuple -/
theorem lc_fmT (sr : Stays R) (st : Stays S) (f : α → Option β) (hD : H1 D = none) (hx : H1 a = some (.tup xs)) (hp : Paired (R H1) xs bs) (few : xs.length ≤ sizeLine)
    (hs : ∀ x b H' (Ky : V → Hp → Prop) (Kn : Hp → Prop), Ext H1 H' → b ∈ bs → R H' x b → (∀ y r H4, f b = some r → Ext H' H4 → S H4 y r → Ky y H4) → (∀ H3, f b = none → Ext H' H3 → Kn H3) →
      g x (wipe σ vs) H' fun σ2 H2 => wipe σ2 vs = wipe σ vs ∧ tt σ2 H2 fun c H3 => if c = true then te σ2 H3 Ky else Kn H3)
    (hd : ∀ H' acc, Ext H1 H' → H' D = some (.lst acc) → Paired (S H') acc (bs.filterMap f) → Qd H') :
    ∃ W : Nat → Nat → Hp → Prop, (∃ m, W 0 m (upd H1 D (.lst []))) ∧ ∀ i m H, W i m H →
      ((Itt K a).stop i H ∧ Qd H) ∨ ((Itt K a).go i H ∧ ∃ Nx : Hp → Prop, (∀ H', Nx H' → ∃ m', m' < m ∧ W (i + 1) m' H') ∧ ∀ x H', (Itt K a).yld i H x H' → g x (wipe σ vs) H' fun σ2 H2 => wipe σ2 vs = wipe σ vs ∧ tt σ2 H2 fun b H3 =>
        if b = true then te σ2 H3 fun y H4 => ∃ acc, H4 D = some (.lst acc) ∧ acc.length < sizeLine ∧ Nx (upd H4 D (.lst (acc ++ [y]))) else Nx H3) :=
  lc_fm (walk_tup (K := K) (a := a) (xs := xs)) st f hD few (paired_len hp).symm (fun H' e => SqT.of (e.tup hx)) (fun i H x H' e hi y => by
    obtain ⟨rfl, hx2⟩ := y
    obtain ⟨b, hb, hr⟩ := paired_get' hp hx2
    exact ⟨rfl, b, hb, sr.ext e hr⟩) hs hd
end
section
variable {β : Type} {S : Hp → V → β → Prop} {g : TG} {tt : TT} {te : TE} {vs : List Nat} {σ : L2.St} {H1 : Hp} {D : Addr} {Qd : Hp → Prop}
/-- over a range -/
theorem lc_fmR {lo : Int} {n : Nat} (st : Stays S) (f : Int → Option β) (hD : H1 D = none) (few : n ≤ sizeLine)
    (hs : ∀ b H' (Ky : V → Hp → Prop) (Kn : Hp → Prop), Ext H1 H' → lo ≤ b → b < lo + n → (∀ y r H4, f b = some r → Ext H' H4 → S H4 y r → Ky y H4) → (∀ H3, f b = none → Ext H' H3 → Kn H3) →
      g (.int b) (wipe σ vs) H' fun σ2 H2 => wipe σ2 vs = wipe σ vs ∧ tt σ2 H2 fun c H3 => if c = true then te σ2 H3 Ky else Kn H3)
    (hd : ∀ H' acc, Ext H1 H' → H' D = some (.lst acc) → Paired (S H') acc ((nums lo (lo + n)).filterMap f) → Qd H') :
    ∃ W : Nat → Nat → Hp → Prop, (∃ m, W 0 m (upd H1 D (.lst []))) ∧ ∀ i m H, W i m H →
      ((Itr lo n).stop i H ∧ Qd H) ∨ ((Itr lo n).go i H ∧ ∃ Nx : Hp → Prop, (∀ H', Nx H' → ∃ m', m' < m ∧ W (i + 1) m' H') ∧ ∀ x H', (Itr lo n).yld i H x H' → g x (wipe σ vs) H' fun σ2 H2 => wipe σ2 vs = wipe σ vs ∧ tt σ2 H2 fun b H3 =>
        if b = true then te σ2 H3 fun y H4 => ∃ acc, H4 D = some (.lst acc) ∧ acc.length < sizeLine ∧ Nx (upd H4 D (.lst (acc ++ [y]))) else Nx H3) :=
  lc_fm (walk_range (lo := lo) (n := n)) (R := VI) (bs := nums lo (lo + n)) st f hD few (by rw [nums_len]; omega) (fun _ _ => trivial) (fun i H x H' e hi y => by
    obtain ⟨rfl, hx2⟩ := y
    refine ⟨rfl, lo + (i : Int), nums_get (by omega), hx2⟩) (fun x b H' Ky Kn e hb hr k1 k2 => by
    rw [show x = V.int b from hr]
    obtain ⟨b1, b2⟩ := mem_nums.mp hb
    exact hs b H' Ky Kn e b1 b2 k1 k2) hd
end
end Lk

/-! ## D50 -/
set_option Elab.async false
set_option linter.all false
set_option maxRecDepth 100000
set_option maxHeartbeats 2000000
namespace Lk
open PySem PySem.Spec PyProof.Rows L2 Gx
variable [Own]
abbrev s_closes : Stmt := top 20
theorem sc_closes : FnScope ["looks", "path"] ["looks", "path"] (defScope s_closes) := ⟨rfl, rfl, rfl, by decide +kernel, rfl, by decide +kernel, by decide +kernel⟩
abbrev s_goes_on : Stmt := top 21
theorem sc_goes_on : FnScope ["looks", "path", "number", "one", "other", "_", "place"] ["looks", "path", "number"] (defScope s_goes_on) := ⟨rfl, rfl, rfl, by decide +kernel, rfl, by decide +kernel, by decide +kernel⟩
abbrev s_has_even_spites : Stmt := top 23
theorem sc_has_even_spites : FnScope ["web", "ring", "_", "looks", "number", "spites"] ["web", "ring"] (defScope s_has_even_spites) := ⟨rfl, rfl, rfl, by decide +kernel, rfl, by decide +kernel, by decide +kernel⟩
theorem at_last {p : List Int} (h : p ≠ []) : atI (iv p) (-1) = some (.int (p.getLastD 0)) := by
  have hl : 0 < p.length := List.length_pos_iff.mpr h
  have e : ixN (iv p).length (-1) = some (p.length - 1) := by
    unfold ixN
    rw [iv_len]
    rw [if_neg (by omega), if_pos (by omega)]
    congr 1
    omega
  unfold atI
  rw [e]
  exact iv_at (getLastD_get h)
theorem at_head {p : List Int} (h : p ≠ []) : atI (iv p) 0 = some (.int (p.headD 0)) := by
  cases p with
  | nil => exact absurd rfl h
  | cons a b => exact at_of (j := 0) rfl rfl
/-- the looks of a web, as a value -/
def LooksAt (H : Hp) (l : V) (ls : List Look3) : Prop := TT2 H l (ls.map row3)
theorem lookAt {H : Hp} {vs : List V} {ls : List Look3} {n : Int} (hp : Paired (TI H) vs (ls.map row3)) (h : 0 ≤ n ∧ n < ls.length) : ∃ q, atI vs n = some (.ref q) ∧ H q = some (.tup (iv (row3 (lookN ls n)))) := by
  obtain ⟨v, hv, q, rfl, hq⟩ := paired_get hp (show (ls.map row3)[n.toNat]? = some (row3 (lookN ls n)) by rw [List.getElem?_map, lookN_get h.1 h.2] <;> rfl)
  exact ⟨q, at_of (j := n.toNat) (by omega) hv, hq⟩
theorem dec_int (a b : Int) : decide (V.int a = V.int b) = (a == b) := by
  by_cases h : a = b
  · rw [h]
    simp
  · rw [decide_eq_false (fun z => h (by cases z; rfl))]
    simpa using h
theorem flat_iv : ∀ ns : List Int, (iv ns).all flatV = true
  | [] => rfl
  | n :: ns => by
    show (flatV (V.int n) && (iv ns).all flatV) = true
    rw [flat_iv ns] <;> rfl
theorem inV_iv (n : Int) : ∀ ns : List Int, inV (V.int n) (iv ns) = ns.contains n
  | [] => rfl
  | m :: ns => by
    show (eqV (V.int m) (V.int n) || inV (V.int n) (iv ns)) = _
    rw [inV_iv n ns, List.contains_cons]
    congr 1
    show (m == n) = (n == m)
    rw [Bool.eq_iff_iff, beq_iff_eq, beq_iff_eq]
    exact eq_comm
theorem fmIf {α : Type} (p : α → Bool) : ∀ l : List α, (l.filterMap fun m => if p m = true then some m else none) = l.filter p
  | [] => rfl
  | x :: l => by
    rw [List.filterMap_cons, List.filter_cons, fmIf p l]
    cases p x <;> rfl
def spCloses : Sp := fun vs H Q _ => ∃ (l p : V) (ls : List Look3) (path : List Int), vs = [l, p] ∧ TT2 H l (ls.map row3) ∧ TI H p path ∧ path ≠ [] ∧ (∀ n ∈ path, 0 ≤ n ∧ n < ls.length) ∧ Q (.bl (closesP ls path)) H
def spGoesOn : Sp := fun vs H Q _ => ∃ (l p : V) (n : Int) (ls : List Look3) (path : List Int), vs = [l, p, .int n] ∧ TT2 H l (ls.map row3) ∧ TI H p path ∧ path ≠ [] ∧ path.length ≤ 100 ∧ (∀ n ∈ path, 0 ≤ n ∧ n < ls.length) ∧ (0 ≤ n ∧ n < ls.length) ∧ ∀ H', Ext H H' → Q (.bl (goesOnP ls path n)) H'
def spHasEven : Sp := fun vs H Q _ => ∃ (v r : V) (W : Web) (ring : List Int), vs = [v, r] ∧ WebAt H v W ∧ TI H r ring ∧ ring.length ≤ 100 ∧ (∀ n ∈ ring, 0 ≤ n ∧ n < W.looks.length) ∧ ∀ H', Ext H H' → Q (.bl (evenP W.looks ring)) H'
section
variable {P : Program} {w : World} {K : PySem.W.Frag} {mg : Str → Option Value} {base : Heap} {Ps : List Addr}
theorem ok_closes {f : Addr} {fd : FuncData} (F : Fun K "closes" "closes" s_closes f fd) : FnOk P w K mg base CX0 1 f fd ["looks", "path"] spCloses := by
  refine F.ok sc_closes (fun vs H Q E h => ?_) (fun cdv A outer s H vs Q E hr h => ?_)
  · obtain ⟨l, p, ls, path, rfl, _⟩ := h
    rfl
  · obtain ⟨l, p, ls, path, rfl, ⟨a, vs, rfl, ha, hvs⟩, ⟨b, rfl, hb⟩, hne, hin, k⟩ := h
    refine ⟨_, (pss_one (ps_ret (pe_cmpR op_eq (pe_ix ix_tT (pe_ix ix_tT (pv 0) (pe_ix ix_tT (pv 1) (pe_un un_neg pe_int) (fun _ _ => rfl)) (fun _ _ => rfl)) pe_int (fun _ _ => rfl)) (pe_ix ix_tT (pe_ix ix_tT (pv 0) (pe_ix ix_tT (pv 1) pe_int (fun _ _ => rfl)) (fun _ _ => rfl)) pe_int (fun _ _ => rfl)) (nomark _)))), ?_⟩
    obtain ⟨q1, e1, h1⟩ := lookAt hvs (hin _ (getLastD_mem hne))
    obtain ⟨q2, e2, h2⟩ := lookAt hvs (hin _ (headD_mem hne))
    refine ⟨_, rfl, _, rfl, _, rfl, b, _, _, _, rfl, rfl, hb, at_last hne, a, _, _, _, rfl, rfl, ha, e1, q1, _, _, _, rfl, rfl, h1, at_of (j := 1) rfl rfl, ?_⟩
    refine ⟨_, rfl, _, rfl, b, _, _, _, rfl, rfl, hb, at_head hne, a, _, _, _, rfl, rfl, ha, e2, q2, _, _, _, rfl, rfl, h2, at_of (j := 0) rfl rfl, ?_⟩
    refine ⟨rfl, ?_⟩
    show Q (V.bl (decide (V.int (lkr ls (path.getLastD 0)) = V.int (lkd ls (path.headD 0))))) H
    rw [dec_int]
    exact k
theorem ok_goes_on {f : Addr} {fd : FuncData} (F : Fun K "goes_on" "goes_on" s_goes_on f fd) : FnOk P w K mg base CX0 1 f fd ["looks", "path", "number"] spGoesOn := by
  refine F.ok sc_goes_on (fun vs H Q E h => ?_) (fun cdv A outer s H vs Q E hr h => ?_)
  · obtain ⟨l, p, n, ls, path, rfl, _⟩ := h
    rfl
  · obtain ⟨l, p, n, ls, path, rfl, ⟨a, vs, rfl, ha, hvs⟩, ⟨b, rfl, hb⟩, hne, hlen, hin, hn, k⟩ := h
    refine ⟨_, (pss_cons (ps_asg (pe_ix ix_tT (pv 0) (pv 2) (fun _ _ => rfl)) (pg_tupT (n := 3) rfl (pgs_cons (pg_name (i := 3) sc_goes_on.nd rfl (by first | exact Or.inl rfl | exact Or.inr rfl)) (pgs_cons (pg_name (i := 4) sc_goes_on.nd rfl (by first | exact Or.inl rfl | exact Or.inr rfl)) (pgs_cons (pg_name (i := 5) sc_goes_on.nd rfl (by first | exact Or.inl rfl | exact Or.inr rfl)) pgs_nil)))))
      (pss_one (ps_ret (pe_and (pe_cmpR op_eq (pv 3) (pe_ix ix_tT (pe_ix ix_tT (pv 0) (pe_ix ix_tT (pv 1) (pe_un un_neg pe_int) (fun _ _ => rfl)) (fun _ _ => rfl)) pe_int (fun _ _ => rfl)) (nomark _)) (pe_one (pe_cmpR op_notIn_seq (pv 4) (pe_lc (own := [("place", 6)]) rfl sc_goes_on.nd (pi_tup (pv 1)) (blkOk_by (N := ["looks", "path", "number", "one", "other", "_", "place"]) (sc := defScope s_goes_on) (by decide +kernel)) (fun _ _ _ _ _ => (pg_name (i := 6) sc_goes_on.nd rfl (by first | exact Or.inl rfl | exact Or.inr rfl))) (fun _ _ _ _ _ => pts_nil) (fun _ _ _ _ _ => (pe_ix ix_tT (pe_ix ix_tT (pv 0) (pv 6) (fun _ _ => rfl)) pe_int (fun _ _ => rfl)))) (by with_unfolding_all rfl))))))), ?_⟩
    obtain ⟨q0, e0, h0⟩ := lookAt hvs hn
    obtain ⟨q1, e1, h1⟩ := lookAt hvs (hin _ (getLastD_mem hne))
    refine ⟨_, rfl, _, rfl, a, _, _, _, rfl, rfl, ha, e0, q0, _, rfl, h0, rfl, _, _, rfl, _, _, rfl, _, _, rfl, rfl, ?_⟩
    refine ⟨_, rfl, _, rfl, _, rfl, _, rfl, b, _, _, _, rfl, rfl, hb, at_last hne, a, _, _, _, rfl, rfl, ha, e1, q1, _, _, _, rfl, rfl, h1, at_of (j := 1) rfl rfl, rfl, ?_⟩
    refine ⟨_, rfl, ?_⟩
    rw [dec_int]
    show if (lkd ls n == lkr ls (path.getLastD 0)) = true then _ else _
    unfold goesOnP at k
    refine ite_of (fun hc => ?_) fun hc => ?_
    · rw [hc] at k
      refine ⟨_, rfl, _, rfl, b, rfl, ⟨_, SqT.of hb⟩, fun D hD => ?_⟩
      refine lc_fmT (R := VI) (S := VI) stVI stVI (xs := iv path) (bs := path) (fun m => some (lkr ls m)) hD hb (iv_pVI path) (by rw [iv_len]; exact Nat.le_of_lt (small1000 (by omega))) (fun x m H' Ky Kn e hm hx k1 k2 => ?_) fun H' acc e hacc hp => ?_
      · obtain ⟨q2, e2, h2⟩ := lookAt hvs (hin m hm)
        rw [show x = V.int m from hx]
        refine ⟨rfl, yes ?_⟩
        exact ⟨_, rfl, _, rfl, a, _, _, _, rfl, rfl, e.tup ha, e2, q2, _, _, _, rfl, rfl, e.tup h2, at_of (j := 1) rfl rfl, k1 _ _ _ rfl (Ext.refl _) rfl⟩
      · have eacc := pVI hp
        subst eacc
        refine ⟨D, _, rfl, .inl (SqL.of hacc), rfl, flat_iv _, ?_⟩
        have := k H' e
        rw [show (!inV (V.int (lookN ls n).2.1) (iv (path.filterMap fun m => some (lkr ls m)))) = (true && !(path.map (lkr ls)).contains (lkr ls n)) from ?_]
        · exact this
        · rw [List.filterMap_eq_map' , inV_iv, Bool.true_and]
          rfl
    · rw [hc] at k
      exact k H (Ext.refl H)
theorem ok_has_even_spites {f : Addr} {fd : FuncData} (F : Fun K "has_even_spites" "has_even_spites" s_has_even_spites f fd) (B : Blt mg) : FnOk P w K mg base CX0 1 f fd ["web", "ring"] spHasEven := by
  refine F.ok sc_has_even_spites (fun vs H Q E h => ?_) (fun cdv A outer s H vs Q E hr h => ?_)
  · obtain ⟨v, r, W, ring, rfl, _⟩ := h
    rfl
  · obtain ⟨v, r, W, ring, rfl, ⟨a, t, l, rfl, ha, ht, ⟨b, ls, rfl, hb, hls⟩⟩, ⟨c, rfl, hc⟩, hlen, hin, k⟩ := h
    refine ⟨_, (pss_cons (ps_asg (pv 0) (pg_tupT (n := 2) rfl (pgs_cons (pg_name (i := 2) sc_has_even_spites.nd rfl (by first | exact Or.inl rfl | exact Or.inr rfl)) (pgs_cons (pg_name (i := 3) sc_has_even_spites.nd rfl (by first | exact Or.inl rfl | exact Or.inr rfl)) pgs_nil))))
      (pss_cons (ps_setLc (i := 5) (own := [("number", 4)]) rfl sc_has_even_spites.nd rfl rfl (sw_true rfl rfl rfl (by decide +kernel)) (pi_tup (pv 1)) (blkOk_by (N := ["web", "ring", "_", "looks", "number", "spites"]) (sc := defScope s_has_even_spites) (by decide +kernel)) (fun _ _ _ _ _ => (pg_name (i := 4) sc_has_even_spites.nd rfl (by first | exact Or.inl rfl | exact Or.inr rfl))) (fun _ _ _ _ _ => (pts_one (pt_cmpR op_eq (pe_ix ix_tT (pe_ix ix_tT (pv 3) (pv 4) (fun _ _ => rfl)) pe_int (fun _ _ => rfl)) (pe_un un_neg pe_int) (nomark _)))) (fun _ _ _ _ _ => (pv 4)))
      (pss_one (ps_ret (pe_cmpR op_eq (pe_op op_mod (pe_callB call_lenT (by rfl) B.len PySem.boot_len (pa_cons (pv 5) pa_nil)) pe_int) pe_int (nomark _)))))), ?_⟩
    refine ⟨_, rfl, a, _, rfl, ha, rfl, _, _, rfl, _, _, rfl, rfl, ?_⟩
    refine ⟨_, rfl, c, rfl, ⟨_, SqT.of hc⟩, fun D hD => ?_⟩
    refine lc_fmT (R := VI) (S := VI) stVI stVI (xs := iv ring) (bs := ring) (fun m => if lks W.looks m == -1 then some m else none) hD hc (iv_pVI ring) (by rw [iv_len]; exact Nat.le_of_lt (small1000 (by omega))) (fun x m H' Ky Kn e hm hx k1 k2 => ?_) fun H' acc e hacc hp => ?_
    · obtain ⟨q2, e2, h2⟩ := lookAt hls (hin m hm)
      rw [show x = V.int m from hx]
      refine ⟨rfl, ?_⟩
      refine ⟨_, rfl, _, rfl, b, _, _, _, rfl, rfl, e.tup hb, e2, q2, _, _, _, rfl, rfl, e.tup h2, at_of (j := 2) rfl rfl, _, rfl, rfl, ?_⟩
      refine ⟨_, rfl, ?_⟩
      rw [dec_int]
      show if (lks W.looks m == -1) = true then _ else _
      refine ite_of (fun hc => ?_) fun hc => ?_
      · exact ⟨_, rfl, k1 _ _ _ (if_pos hc) (Ext.refl _) rfl⟩
      · exact k2 _ (if_neg (by rw [hc]; simp)) (Ext.refl _)
    · have eacc := pVI hp
      subst eacc
      have ef : (ring.filterMap fun m => if (lks W.looks m == -1) = true then some m else none) = ring.filter fun m => lks W.looks m == -1 := fmIf _ _
      rw [ef] at hacc
      refine ⟨_, rfl, D, _, rfl, .inl hacc, ?_⟩
      refine ⟨_, _, rfl, rfl, (show (0 : Int) < 2 by decide), rfl, ?_⟩
      rw [dec_int, iv_len]
      have e5 : ((((ring.filter fun m => lks W.looks m == -1).length : Nat) : Int) % 2 == 0) = evenP W.looks ring := by
        unfold evenP
        rw [Bool.eq_iff_iff, beq_iff_eq, beq_iff_eq]
        omega
      rw [e5]
      exact k H' e
end
end Lk

/-! ## SortT -/
set_option Elab.async false
set_option linter.all false
set_option maxRecDepth 100000
set_option maxHeartbeats 2000000
/-! sorted of a list of tuples of ints, none of them empty, any number of them. -/
namespace Lk
open PySem PySem.Spec PyProof.Rows L2 Gx
variable [Own]
/-- tuples of ints, in order -/
def sortT (rows : List (List Int)) : List (List Int) := rows.mergeSort (PySem.W.dataLe false dI)
theorem sortT_perm (rows : List (List Int)) : (sortT rows).Perm rows := List.mergeSort_perm ..
theorem sortT_mem {rows : List (List Int)} {r : List Int} : r ∈ sortT rows ↔ r ∈ rows := (sortT_perm rows).mem_iff
theorem sortT_len (rows : List (List Int)) : (sortT rows).length = rows.length := (sortT_perm rows).length_eq
def rSortT : List V → Hp → VK → Prop := fun vs H Q => ∃ (a : Addr) (xs : List V) (rows : List (List Int)), vs = [.ref a] ∧ H a = some (.lst xs) ∧ Paired (TI H) xs rows ∧ (∀ r ∈ rows, r ≠ []) ∧
  ∀ p ys, H p = none → Paired (TI H) ys (sortT rows) → Q (.ref p) (upd H p (.lst ys))
theorem both_of {H : Hp} : ∀ {xs : List V} {its : List Value} {rows : List (List Int)}, Vals xs its → Paired (TI H) xs rows → ∃ bs : List (V × List Int), bs.map (·.1) = xs ∧ bs.map (·.2) = rows ∧ PySem.W.EachIs (fun v (b : V × List Int) => RelV b.1 v ∧ TI H b.1 b.2) its bs
  | _, _, _, .nil, .nil => ⟨[], rfl, rfl, .nil⟩
  | x :: _, _, r :: _, .cons h1 t1, .cons h2 t2 => by
    obtain ⟨bs, e1, e2, e3⟩ := both_of t1 t2
    exact ⟨(x, r) :: bs, by rw [List.map_cons, e1], by rw [List.map_cons, e2], .cons ⟨h1, h2⟩ e3⟩
theorem of_both {H : Hp} : ∀ {its : List Value} {bs : List (V × List Int)}, PySem.W.EachIs (fun v (b : V × List Int) => RelV b.1 v ∧ TI H b.1 b.2) its bs → Vals (bs.map (·.1)) its ∧ Paired (TI H) (bs.map (·.1)) (bs.map (·.2))
  | _, _, .nil => ⟨.nil, .nil⟩
  | _, _, .cons h t => by
    obtain ⟨a, b⟩ := of_both t
    exact ⟨.cons h.1 a, .cons h.2 b⟩
theorem cr_sortTI {X : Cx} (hu : X.A.units + 64 < cLine) : CallR X (.builtin "sorted") rSortT := by
  intro pins s σ H vs us Q I r h
  obtain ⟨a, xs, rows, rfl, ha, hp, hne, q⟩ := h
  obtain ⟨its, rv, hl, hz⟩ := I.list (SqL.of ha)
  rw [Vals.ref1 r]
  obtain ⟨bs, e1, e2, e3⟩ := both_of rv hp
  have hmem : ∀ b ∈ bs, b.2 ∈ rows := fun b hb => by rw [← e2]; exact List.mem_map.mpr ⟨b, hb, rfl⟩
  refine PySem.W.sorted_data (enc := fun b : V × List Int => dI b.2) hl.isList e3 (e3.mono fun v b hb => ?_) (PySem.W.AllAlike.of fun b b' => ?_) (.inl fun d hd => ?_) (by rw [← List.length_map (f := (·.1)), e1]; exact hz) (fun b hb => ?_) fun out hlen ho => ?_
  · exact Dp.reads I _ _ _ hb.2.dp hb.1
  · show PySem.W.alike (.tuple _) (.tuple _) = true
    simp only [PySem.W.alike]
    exact PySem.W.alike_ints _ _
  · obtain ⟨b, hb, rfl⟩ := List.mem_map.mp hd
    have := hne _ (hmem b hb)
    cases e : b.2 with
    | nil => exact absurd e this
    | cons x t => exact ⟨.int x, t.map .int, rfl⟩
  · show X.A.units + 2 + (PyData.tuple _).depth < cLine
    simp only [PyData.depth, depth_ints]
    omega
  · obtain ⟨ep, he'⟩ := PyProof.Rows.sortedAll_at s.heap its out.toArray
    obtain ⟨k1, k2⟩ := of_both ho
    have e4 : (bs.mergeSort (PySem.W.dataLe false fun b : V × List Int => dI b.2)).map (·.2) = sortT rows := by
      unfold sortT
      rw [← e2]
      exact PySem.W.sort_maps _ fun _ _ _ _ => rfl
    rw [e4] at k2
    have hl2 : ((bs.mergeSort (PySem.W.dataLe false fun b : V × List Int => dI b.2)).map (·.1)).length ≤ sizeLine := by
      rw [List.length_map, List.length_mergeSort, ← List.length_map (f := (·.1)), e1]
      exact hz
    exact ⟨.ref _, upd H (s.heap.objs.size + 1) (.lst _), I.laid (t' := s.toks) (fun _ _ => PyProof.Rows.sortedAll_old) (Nat.le_succ _) ⟨hl2, out, ep, k1, he'⟩, rfl, q _ _ (I.hok.fresh (Nat.le_succ _)) k2⟩
end Lk

/-! ## D51 -/
set_option Elab.async false
set_option linter.all false
set_option maxRecDepth 100000
set_option maxHeartbeats 4000000
namespace Lk
open PySem PySem.Spec PyProof.Rows L2 Gx
variable [Own]
abbrev s_all_rings : Stmt := top 22
theorem sc_all_rings : FnScope ["web", "_", "looks", "found", "number", "paths", "path"] ["web"] (defScope s_all_rings) := ⟨rfl, rfl, rfl, by decide +kernel, rfl, by decide +kernel, by decide +kernel⟩
/-- all rings of a web, in sequence -/
def ringsOf (W : Web) : List (List Int) := sortT (ringsRaw W.looks)
/-- few enough looks, folk to have rings counted -/
structure Web.Few (W : Web) : Prop where
  most : W.looks.length ≤ 14
  six : ∀ l ∈ W.looks, 0 ≤ l.2.1 ∧ l.2.1 < (6 : Int)
theorem Web.Ok.fewL {W : Web} (ok : W.Ok) : W.Few := ⟨ok.most, fun l hl => by
  have h := (ok.look l hl).2.1
  have := ok.few
  omega⟩
def spAllRings : Sp := fun vs H Q _ => ∃ (v : V) (W : Web), vs = [v] ∧ WebAt H v W ∧ W.Few ∧ ∀ H' q, Ext H H' → H q = none → TT2 H' (.ref q) (ringsOf W) → Q (.ref q) H'
theorem tru_list {K : PySem.W.Frag} {H : Hp} {a : Addr} {xs : List V} (h : H a = some (.lst xs)) : TruV K (.ref a) H (!xs.isEmpty) := .inl ⟨xs, SqL.of h, rfl⟩
theorem longer_fm (ls : List Look3) (row : List Int) : ((nums (row.headD 0 + 1) ls.length).filterMap fun n => if (!closesP ls row && goesOnP ls row n) = true then some (row ++ [n]) else none) = longer ls row := by
  unfold longer
  cases closesP ls row with
  | true =>
    rw [if_pos rfl]
    generalize nums (row.headD 0 + 1) ls.length = l
    induction l with
    | nil => rfl
    | cons x l ih =>
      rw [List.filterMap_cons, ih]
      rfl
  | false =>
    rw [if_neg (by decide)]
    generalize nums (row.headD 0 + 1) ls.length = l
    induction l with
    | nil => rfl
    | cons x l ih =>
      rw [List.filterMap_cons, ih, List.filter_cons]
      cases goesOnP ls row x <;> rfl
theorem flatMap_take_le {α β : Type} (f : α → List β) (l : List α) (n : Nat) : ((l.take n).flatMap f).length ≤ (l.flatMap f).length := by
  have e : l.flatMap f = (l.take n).flatMap f ++ (l.drop n).flatMap f := by rw [← List.flatMap_append, List.take_append_drop]
  rw [e, List.length_append]
  omega
/-- row + (n,) -/
theorem cat_one {H : Hp} {z u : Addr} {row : List Int} {n : Int} {Q : VK} (hz : H z = some (.tup (iv row))) (hu : H u = none) (hl : row.length ≤ 100) (k : ∀ H7 y, Ext H H7 → TI H7 y (row ++ [n]) → Q y H7) :
    rCatT (.ref z) (.ref u) (upd H u (.tup [.int n])) Q := by
  have hzu : z ≠ u := ne_of_none hz hu
  refine ⟨z, u, iv row, _, rfl, rfl, by rw [upd_ne hzu]; exact hz, upd_same, by rw [iv_len]; show row.length + 1 ≤ sizeLine; exact Nat.le_of_lt (small1000 (by omega)), fun e0 => ?_, (fun _ e0 => by cases e0), fun e0 _ v hv => ?_⟩
  · refine k _ _ (Ext.new hu _) ⟨u, rfl, ?_⟩
    have r0 : row = [] := by
      cases row with
      | nil => rfl
      | cons a b => cases e0
    rw [upd_same, r0]
    rfl
  · refine k _ _ ((Ext.new hu _).trans (Ext.new hv _)) ⟨v, rfl, ?_⟩
    rw [upd_same]
    show some (HO.tup (iv row ++ [V.int n])) = _
    unfold iv
    rw [List.map_append]
    rfl
section
variable {P : Program} {w : World} {K : PySem.W.Frag} {mg : Str → Option Value} {base : Heap} {Ps : List Addr}
theorem ok_all_rings {f : Addr} {fd : FuncData} (F : Fun K "all_rings" "all_rings" s_all_rings f fd) (B : Blt mg)
    (c_closes : Cal P w K mg base CX0 1 "closes" ["looks", "path"] spCloses) (c_goes_on : Cal P w K mg base CX0 1 "goes_on" ["looks", "path", "number"] spGoesOn) : FnOk P w K mg base CX0 2 f fd ["web"] spAllRings := by
  refine F.ok sc_all_rings (fun vs H Q E h => ?_) (fun cdv A outer s H vs Q E hr h => ?_)
  · obtain ⟨v, W, rfl, _⟩ := h
    rfl
  · obtain ⟨v, W, rfl, ⟨a, t, l, rfl, ha, ht, ⟨b, ls, rfl, hb, hls⟩⟩, fw, k⟩ := h
    refine ⟨_, (pss_cons (ps_asg (pv 0) (pg_tupT (n := 2) rfl (pgs_cons (pg_name (i := 1) sc_all_rings.nd rfl (by first | exact Or.inl rfl | exact Or.inr rfl)) (pgs_cons (pg_name (i := 2) sc_all_rings.nd rfl (by first | exact Or.inl rfl | exact Or.inr rfl)) pgs_nil))))
      (pss_cons (ps_set (i := 3) sc_all_rings.nd rfl (by first | exact Or.inl rfl | exact Or.inr rfl) (pe_lst pa_nil))
      (pss_cons (ps_setLc (i := 5) (own := [("number", 4)]) rfl sc_all_rings.nd rfl rfl (sw_true rfl rfl rfl (by decide +kernel)) (pi_range1 (by rfl) B.range (pa_cons (pe_callB call_lenT (by rfl) B.len PySem.boot_len (pa_cons (pv 2) pa_nil)) pa_nil)) (blkOk_by (N := ["web", "_", "looks", "found", "number", "paths", "path"]) (sc := defScope s_all_rings) (by decide +kernel)) (fun _ _ _ _ _ => (pg_name (i := 4) sc_all_rings.nd rfl (by first | exact Or.inl rfl | exact Or.inr rfl))) (fun _ _ _ _ _ => pts_nil) (fun _ _ _ _ _ => (pe_tup (pa_cons (pv 4) pa_nil))))
      (pss_cons (ps_while PassesOwn.never (pt_truth (pv 5) (fun _ => rfl))
        (pss_cons (ps_set (i := 3) sc_all_rings.nd rfl (by first | exact Or.inl rfl | exact Or.inr rfl) (pe_op op_cat (pv 3) (pe_lc (own := [("path", 6)]) rfl sc_all_rings.nd (pi_list (pv 5)) (blkOk_by (N := ["web", "_", "looks", "found", "number", "paths", "path"]) (sc := defScope s_all_rings) (by decide +kernel)) (fun _ _ _ _ _ => (pg_name (i := 6) sc_all_rings.nd rfl (by first | exact Or.inl rfl | exact Or.inr rfl))) (fun _ _ _ _ _ => (pts_one (pt_val (pe_c0 c_closes (hr.mono (by decide)) (by rfl) (pa_cons (pv 2) (pa_cons (pv 6) pa_nil)))))) (fun _ _ _ _ _ => (pv 6)))))
        (pss_one (ps_setLc2 (i := 5) (own := [("path", 6), ("number", 4)]) (vs1 := [4]) rfl sc_all_rings.nd rfl rfl (sw_true rfl rfl rfl (by decide +kernel)) (pi_list (pv 5)) (blkOk_by (N := ["web", "_", "looks", "found", "number", "paths", "path"]) (sc := defScope s_all_rings) (by decide +kernel)) (by decide) (fun _ _ _ _ _ => (pg_name (i := 6) sc_all_rings.nd rfl (by first | exact Or.inl rfl | exact Or.inr rfl))) (fun _ _ _ _ _ => pts_nil) (fun _ _ _ _ _ => (pi_range2 (by rfl) B.range (pa_cons (pe_op op_add (pe_ix ix_tT (pv 6) pe_int (fun _ _ => rfl)) pe_int) (pa_cons (pe_callB call_lenT (by rfl) B.len PySem.boot_len (pa_cons (pv 2) pa_nil)) pa_nil)))) (fun _ _ _ _ _ => (pg_name (i := 4) sc_all_rings.nd rfl (by first | exact Or.inl rfl | exact Or.inr rfl))) (fun _ _ _ _ _ => (pts_one (PW.pt (pw_and (pt_not (pt_val (pe_c0 c_closes (hr.mono (by decide)) (by rfl) (pa_cons (pv 2) (pa_cons (pv 6) pa_nil))))) (pw_and1 (pt_val (pe_c0 c_goes_on (hr.mono (by decide)) (by rfl) (pa_cons (pv 2) (pa_cons (pv 6) (pa_cons (pv 4) pa_nil)))))))))) (fun _ _ _ _ _ => (pe_op op_catTT (pv 6) (pe_tup (pa_cons (pv 4) pa_nil))))))))
      (pss_one (ps_ret (pe_tupleL (by rfl) B.tuple (pe_callB (cr_sortTI hr.units) (by rfl) B.sorted boot_sorted (pa_cons (pv 3) pa_nil))))))))), ?_⟩
    refine ⟨_, rfl, a, _, rfl, ha, rfl, _, _, rfl, _, _, rfl, rfl, ?_⟩
    have l14 := fw.most
    have llen : ls.length = W.looks.length := by rw [paired_len hls, List.length_map]
    refine ⟨(by show 0 ≤ sizeLine; decide), fun fa hfa => ?_⟩
    have E1 : Ext H (upd H fa (.lst [])) := Ext.new hfa _
    refine ⟨_, rfl, b, _, rfl, .inr (E1.tup hb), _, rfl, by omega, by omega, fun D hD => ?_⟩
    have e0 : ((ls.length : Int)).toNat = ls.length := by omega
    rw [e0]
    refine lc_fmR (lo := 0) (n := ls.length) (S := TI) stTI (fun n => some [n]) hD (Nat.le_of_lt (small1000 (by omega))) (fun n H' Ky Kn e h1 h2 k1 k2 => ?_) fun H' acc e hacc hp => ?_
    · refine ⟨rfl, yes ⟨_, rfl, (by show 1 ≤ sizeLine; decide), fun u hu => k1 _ _ _ rfl (Ext.new hu _) ⟨u, rfl, upd_same⟩⟩⟩
    · have e00 : ((nums 0 (0 + (ls.length : Int))).filterMap fun n => some [n]) = level W.looks 0 := by
        rw [List.filterMap_eq_map', llen, Int.zero_add] <;> rfl
      rw [e00] at hp
      refine ⟨fun m σ H2 => ∃ (i : Nat) (fa pa : Addr) (fv pv : List V) (o4 o6 : Option V), m + i = 7 ∧ σ = [some (.ref a), some t, some (.ref b), some (.ref fa), o4, some (.ref pa), o6] ∧ Ext H H2 ∧ H2 fa = some (.lst fv) ∧ Paired (TI H2) fv (foundN W.looks i) ∧ H2 pa = some (.lst pv) ∧ Paired (TI H2) pv (level W.looks i),
        ⟨7, 0, fa, D, [], acc, none, none, rfl, rfl, E1.trans e, e.lst upd_same, .nil, hacc, hp⟩, ?_⟩
      rintro m σ H2 ⟨i, fa, pa, fv, pv, o4, o6, hm, rfl, e2, hfa, hfp, hpa, hpp⟩
      have lp := paired_len hpp
      refine ⟨_, rfl, _, tru_list hpa, ?_⟩
      refine ite_of (fun hc => ?_) fun hc => ?_
      · have hi : i < 6 := by
          refine Nat.lt_of_not_le fun q => ?_
          rw [level_none (m := 6) fw.six q] at lp
          rw [List.length_eq_zero_iff.mp lp] at hc
          cases hc
        have small := level_small l14 fw.six i
        have fsmall := found_small l14 fw.six i
        have fsmall2 := found_small l14 fw.six (i + 1)
        have hz : sizeLine = 16777216 := rfl
        have lf := paired_len hfp
        refine ⟨fun σ' H' => ∃ m', m' < m ∧ ∃ (i : Nat) (fa pa : Addr) (fv pv : List V) (o4 o6 : Option V), m' + i = 7 ∧ σ' = [some (.ref a), some t, some (.ref b), some (.ref fa), o4, some (.ref pa), o6] ∧ Ext H H' ∧ H' fa = some (.lst fv) ∧ Paired (TI H') fv (foundN W.looks i) ∧ H' pa = some (.lst pv) ∧ Paired (TI H') pv (level W.looks i), fun _ _ h => h, ?_⟩
        refine ⟨_, rfl, _, rfl, pa, rfl, ⟨_, SqL.of hpa⟩, fun D1 hD1 => ?_⟩
        refine lc_fmL (R := TI) (S := TI) stTI stTI (fun p => if closesP W.looks p = true then some p else none) hD1 hpa hpp (by omega) (fun x p H3 Ky Kn e3 hmem hx k1 k2 => ?_) fun H3 acc1 e3 hacc1 hp1 => ?_
        · obtain ⟨pok, pl⟩ := level_ok i hmem
          have E3 := e2.trans e3
          refine ⟨rfl, _, rfl, _, rfl, _, _, W.looks, p, rfl, ⟨b, ls, rfl, E3.tup hb, pTI.ext E3 hls⟩, hx, pok.ne, pok.num, _, rfl, ?_⟩
          refine ite_of (fun hc => ?_) fun hc => ?_
          · exact ⟨_, rfl, k1 _ _ _ (if_pos hc) (Ext.refl _) hx⟩
          · exact k2 _ (if_neg (by rw [hc]; simp)) (Ext.refl _)
        · rw [fmIf] at hp1
          have l1 := paired_len hp1
          have hfa1 := e3.lst hfa
          have hpa1 := e3.lst hpa
          refine ⟨fa, D1, fv, acc1, rfl, rfl, hfa1, hacc1, ?_, fun f2 hf2 => ?_⟩
          · have ef : (foundN W.looks (i + 1)).length = (foundN W.looks i).length + ((level W.looks i).filter (closesP W.looks)).length := by
              show (foundN W.looks i ++ _).length = _
              rw [List.length_append]
            omega
          have ef2 := Ext.new hf2 (HO.lst (fv ++ acc1))
          have hpa2 := ef2.lst hpa1
          have E4 := (e2.trans e3).trans ef2
          refine ⟨_, rfl, pa, rfl, ⟨_, SqL.of hpa2⟩, fun D2 hD2 => ?_⟩
          generalize hX0 : upd H3 f2 (HO.lst (fv ++ acc1)) = X0 at ef2 hpa2 E4 hD2
          have hf2X : X0 f2 = some (.lst (fv ++ acc1)) := by rw [← hX0]; exact upd_same
          have hppX : Paired (TI X0) pv (level W.looks i) := pTI.ext (e3.trans ef2) hpp
          have hfoundX : Paired (TI X0) (fv ++ acc1) (foundN W.looks (i + 1)) := paired_app (pTI.ext (e3.trans ef2) hfp) (pTI.ext ef2 hp1)
          refine lc2_out (walk_list (K := K) (a := pa) (xs := pv)) (fun j H4 => ∃ acc, H4 D2 = some (.lst acc) ∧ Ext X0 H4 ∧ Paired (TI H4) acc (((level W.looks i).take j).flatMap (longer W.looks))) ⟨[], upd_same, Ext.new hD2 _, .nil⟩ (fun j H4 _ ⟨_, _, e4, _⟩ => SqL.of (e4.lst hpa2)) (fun j x H4 H5 hj ⟨acc, hacc, e4, hp4⟩ y => ?_) fun H4 ⟨acc, hacc, e4, hp4⟩ => ?_
          · obtain ⟨rfl, hx⟩ := y
            obtain ⟨row, hrow, z, rfl, hz⟩ := paired_get' (pTI.ext e4 hppX) hx
            obtain ⟨pok, pl⟩ := level_ok i (List.mem_of_getElem? hrow)
            have hh := pok.num _ (headD_mem pok.ne)
            refine ⟨rfl, yes ?_⟩
            refine ⟨_, rfl, z, _, _, _, rfl, rfl, hz, at_head pok.ne, _, _, rfl, rfl, _, rfl, b, _, rfl, .inr ((E4.trans e4).tup hb), ?_⟩
            refine ⟨row.headD 0 + 1, (ls.length : Int), rfl, ⟨by omega, by omega, by omega, by omega⟩, ?_⟩
            refine lc2_in (walk_range (lo := row.headD 0 + 1) (n := ((ls.length : Int) - (row.headD 0 + 1)).toNat)) (fun q H6 => ∃ acc2, H6 D2 = some (.lst acc2) ∧ Ext X0 H6 ∧ Paired (TI H6) acc2 ((((level W.looks i).take j).flatMap (longer W.looks)) ++ ((nums (row.headD 0 + 1) ls.length).take q).filterMap fun n => if (!closesP W.looks row && goesOnP W.looks row n) = true then some (row ++ [n]) else none)) ⟨acc, hacc, e4, by simpa using hp4⟩ (fun _ _ _ _ => trivial) (fun q x H6 H7 hq ⟨acc2, hacc2, e6, hp6⟩ y => ?_) fun H6 ⟨acc2, hacc2, e6, hp6⟩ => ?_
            · obtain ⟨rfl, hx6⟩ := y
              have hx6 : x = V.int (row.headD 0 + 1 + (q : Int)) := hx6
              subst hx6
              have hz6 : H7 z = some (.tup (iv row)) := by
                obtain ⟨row', hrow', z', ez, hz'⟩ := paired_get' (pTI.ext e6 hppX) hx
                cases ez
                rw [hrow] at hrow'
                cases hrow'
                exact hz'
              have E7 := E4.trans e6
              have hW7 : TT2 H7 (.ref b) (W.looks.map row3) := ⟨b, ls, rfl, E7.tup hb, pTI.ext E7 hls⟩
              have en : (nums (row.headD 0 + 1) ls.length)[q]? = some (row.headD 0 + 1 + (q : Int)) := nums_get hq
              have hn : 0 ≤ row.headD 0 + 1 + (q : Int) ∧ row.headD 0 + 1 + (q : Int) < W.looks.length := by omega
              have hjv : j < pv.length := hj
              refine ⟨rfl, _, rfl, _, rfl, _, _, W.looks, row, rfl, hW7, ⟨z, rfl, hz6⟩, pok.ne, pok.num, _, rfl, ?_⟩
              have la : acc2.length ≤ 7529536 := by
                rw [paired_len hp6, List.length_append]
                have s1 := level_small l14 fw.six (i + 1)
                have s2 := (List.take_sublist q (nums (row.headD 0 + 1) ls.length)).filterMap fun n => if (!closesP W.looks row && goesOnP W.looks row n) = true then some (row ++ [n]) else none
                have s3 := s2.length_le
                rw [llen] at s3
                rw [longer_fm] at s3
                have s4 : (((level W.looks i).take (j + 1)).flatMap (longer W.looks)).length ≤ (level W.looks (i + 1)).length := by
                  show _ ≤ ((level W.looks i).flatMap (longer W.looks)).length
                  exact flatMap_take_le _ _ _
                rw [flatMap_take hrow, List.length_append] at s4
                rw [llen]
                omega
              rw [filterMap_take en]
              cases hc1 : closesP W.looks row with
              | true =>
                refine iteF ?_
                refine iteF ⟨acc2, hacc2, e6, ?_⟩
                simpa [hc1] using hp6
              | false =>
                refine iteT ?_
                refine ⟨_, rfl, _, rfl, _, rfl, _, _, _, W.looks, row, rfl, hW7, ⟨z, rfl, hz6⟩, pok.ne, by omega, pok.num, hn, fun H8 e8 => ⟨_, rfl, ?_⟩⟩
                cases hc2 : goesOnP W.looks row (row.headD 0 + 1 + (q : Int)) with
                | false =>
                  refine iteF ⟨acc2, e8.lst hacc2, e6.trans e8, ?_⟩
                  simpa [hc1] using pTI.ext e8 hp6
                | true =>
                  refine iteT ?_
                  refine ⟨_, rfl, _, rfl, (by show 1 ≤ sizeLine; decide), fun u hu => ?_⟩
                  refine cat_one (e8.tup hz6) hu (by omega) fun H9 y e9 hy => ?_
                  have h9 := (e8.trans e9).lst hacc2
                  refine ⟨acc2, h9, by omega, acc2 ++ [y], upd_same, ((e6.trans e8).trans e9).put hD2 _, ?_⟩
                  rw [← List.append_assoc]
                  refine paired_snoc (stTI.put h9 hy) (paired_mono (fun v r h => stTI.put h9 h) (pTI.ext (e8.trans e9) ?_))
                  simpa [hc1] using hp6
            · have hq2 : (nums (row.headD 0 + 1) ls.length).take ((ls.length : Int) - (row.headD 0 + 1)).toNat = nums (row.headD 0 + 1) ls.length := List.take_of_length_le (by rw [nums_len]; exact Nat.le_refl _)
              rw [hq2] at hp6
              refine ⟨acc2, hacc2, e6, ?_⟩
              rw [flatMap_take hrow]
              have el : ((nums (row.headD 0 + 1) ls.length).filterMap fun n => if (!closesP W.looks row && goesOnP W.looks row n) = true then some (row ++ [n]) else none) = longer W.looks row := by
                rw [llen]
                exact longer_fm _ _
              rw [el] at hp6
              exact hp6
          · have hj2 : (level W.looks i).take pv.length = level W.looks i := List.take_of_length_le (by rw [lp]; exact Nat.le_refl _)
            rw [hj2] at hp4
            exact ⟨m - 1, by omega, i + 1, f2, D2, fv ++ acc1, acc, _, _, by omega, rfl, E4.trans e4, e4.lst hf2X, pTI.ext e4 hfoundX, hacc, hp4⟩
      · have hpv : pv = [] := by
          cases pv with
          | nil => rfl
          | cons x y => cases hc
        rw [hpv] at lp
        have hl0 : level W.looks i = [] := List.length_eq_zero_iff.mp lp.symm
        have hall := found_all hl0 (by omega)
        rw [hall] at hfp
        refine ⟨_, rfl, fa, fv, _, rfl, hfa, hfp, fun r hr => (raw_ok hr).1.ne, fun p ys hp0 hys => ⟨p, ys, rfl, upd_same, fun q hq => ?_⟩⟩
        have x1 := Ext.new hp0 (HO.lst ys)
        have x2 := Ext.new hq (HO.tup ys)
        refine k _ q ((e2.trans x1).trans x2) ?_ ⟨q, ys, rfl, upd_same, pTI.ext (x1.trans x2) hys⟩
        exact (e2.trans x1).free hq
end
end Lk

/-! ## D02b -/
set_option Elab.async false
set_option linter.all false
set_option maxRecDepth 100000
set_option maxHeartbeats 2000000
namespace Lk
open PySem PySem.Spec PyProof.Rows L2 Gx
open GxR (TabG Tabbed TabB)
variable [Own]
abbrev s_are_tops : Stmt := top 11
theorem sc_are_tops : FnScope ["value", "top"] ["value"] (defScope s_are_tops) := ⟨rfl, rfl, rfl, by decide +kernel, rfl, by decide +kernel, by decide +kernel⟩
def spAreTops (Ps : List Addr) : Sp := fun vs H Q _ => ∃ (v : V) (tops : List Int), vs = [v] ∧ TI H v tops ∧ (1 ≤ tops.length ∧ tops.length ≤ 6) ∧ (∀ t ∈ tops, 1 ≤ t ∧ t ≤ 3) ∧ Tabs Ps H ∧ ∀ H', Ext H H' → Q (.bl true) H'
section
variable {P : Program} {w : World} {K : PySem.W.Frag} {mg : Str → Option Value} {base : Heap} {Ps : List Addr}
theorem ok_are_tops {f T : Addr} {fd : FuncData} (F : FunT K mg base Ps "are_tops" s_are_tops f fd T) (B : Blt mg) (M : Nums mg)
    (c_is_whole : Cal P w K mg base CX0 1 "is_whole" ["value", "least", "most"] spIsWhole) : FnOk P w K mg base CX0 3 f fd ["value"] (spAreTops Ps) := by
  refine F.ok sc_are_tops (fun vs H Q E h => ?_) (fun c A outer s H vs Q E TB hr h => ?_)
  · obtain ⟨v, tops, rfl, _⟩ := h
    rfl
  · obtain ⟨v, tops, rfl, ⟨a, rfl, ha⟩, ⟨h1, h6⟩, hT, hTb, k⟩ := h
    refine ⟨_, (pss_cons (ps_if (PW.pt (pw_or (pt_not (pt_val (pe_callB call_isi (by rfl) B.isi boot_isinstance (pa_cons (pv 0) (pa_cons (pe_bltn (v := .ty "tuple") (by rfl) B.tuple boot_tyTuple rfl) pa_nil))))) (pw_or1 (pt_not (pt_chain op_le op_le pe_int (pe_callB call_lenT (by rfl) B.len PySem.boot_len (pa_cons (pv 0) pa_nil)) (pe_num M.MOST_FOLK (by rfl)))))))
        (pss_one (ps_ret pe_bl)) pss_nil)
      (pss_one (ps_ret (pe_allG (own := [("top", 1)]) (k := 1) (hr.mono (by decide)) rfl sc_are_tops.nd (by rfl) B.all TB rfl (pi_tup (pv 0)) ⟨(blkOk_by (N := ["value", "top"]) (sc := defScope s_are_tops) (by decide +kernel)), noCells_ok (by decide +kernel), rfl, rfl⟩ (fun _ _ _ _ _ _ => (pg_name (i := 1) sc_are_tops.nd rfl (by first | exact Or.inl rfl | exact Or.inr rfl))) (fun _ _ _ _ _ _ hr' => pts_nil) (fun _ _ _ _ _ _ hr' => (pe_c0 c_is_whole (hr'.mono (by decide)) (by rfl) (pa_cons (pv 1) (pa_cons pe_int (pa_cons (pe_num M.MOST_TOP (by rfl)) pa_nil))))))))), ?_⟩
    have lenT : (iv tops).length = tops.length := iv_len tops
    refine ⟨_, rfl, _, _, _, _, true, rfl, .ty "tuple", isi_tup ha, kit_ty (by decide +kernel), _, rfl, iteF ?_⟩
    refine ⟨_, rfl, _, _, rfl, .inr ha, _, _, rfl, rfl, true, ?_⟩
    have e1 : decide ((1 : Int) ≤ ((iv tops).length : Int)) = true := decide_eq_true (by rw [lenT]; omega)
    have e2 : decide (((iv tops).length : Int) ≤ (6 : Int)) = true := decide_eq_true (by rw [lenT]; omega)
    refine ⟨congrArg V.bl e1, iteT ⟨_, _, rfl, rfl, true, congrArg V.bl e2, iteF ?_⟩⟩
    have hg : TabG H T := hTb T F.mem
    refine ⟨_, rfl, a, rfl, ⟨_, SqT.of ha⟩, hg, fun H2 hT2 => ?_⟩
    have E2 : Ext H H2 := Ext.tabbed F.nown hg hT2
    refine quant_it (walk_tup (xs := iv tops)) (fun _ H' => H' = H2) rfl (fun i H' _ e => by rw [e]; exact SqT.of (E2.tup ha)) (fun i x H' H'' hi e y => ?_) fun H' e => by rw [e]; exact k H2 E2
    obtain ⟨e', hx⟩ := y
    subst e e'
    obtain ⟨n, hn, rfl⟩ := iv_get hx
    refine ⟨rfl, yes ?_⟩
    refine ⟨_, rfl, n, 1, 3, rfl, ?_⟩
    have hb := hT n (List.mem_of_getElem? hn)
    have e3 : isWhole n 1 3 = true := by simp [isWhole, hb.1, hb.2]
    refine ⟨true, congrArg V.bl e3, iteTF rfl⟩
end
end Lk

/-! ## RevT -/
set_option Elab.async false
set_option linter.all false
set_option maxRecDepth 100000
set_option maxHeartbeats 2000000
namespace HT
open PySem PySem.Calls PyProof.Rows PySem.Spec
theorem adjust_rev (n : Nat) : Builtin.Slice.sliceAdjust none none (-1) (n : Int) = ((n : Int) - 1, -1) := by
  unfold Builtin.Slice.sliceAdjust
  have h1 : ((-1 : Int) < 0) := by omega
  simp only [h1, if_true]
theorem places_rev (n : Nat) : Builtin.Slice.slicePlaces ((n : Int) - 1) (-1) (-1) = n := by
  unfold Builtin.Slice.slicePlaces
  have h1 : ¬ ((-1 : Int) > 0) := by omega
  have h2 : (- (-1 : Int)) = 1 := by decide
  simp only [h1, if_false, h2, Int.ediv_one]
  split <;> omega
theorem fm_some {α β : Type} {f : α → Option β} {g : α → β} : ∀ {l : List α}, (∀ m ∈ l, f m = some (g m)) → l.filterMap f = l.map g
  | [], _ => rfl
  | x :: l, h => by
    rw [List.filterMap_cons, h x (List.mem_cons_self ..), List.map_cons, fm_some fun m hm => h m (List.mem_cons_of_mem _ hm)]
theorem pick_rev (xs : Array Value) : ((List.range xs.size).filterMap fun (m : Nat) => xs[(((xs.size : Int) - 1) + (m : Int) * (-1)).toNat]?).toArray = xs.toList.reverse.toArray := by
  congr 1
  apply List.ext_getElem?
  intro i
  have e : ((List.range xs.size).filterMap fun (m : Nat) => xs[(((xs.size : Int) - 1) + (m : Int) * (-1)).toNat]?) = (List.range xs.size).map fun (m : Nat) => xs.getD (xs.size - 1 - m) Value.none := by
    refine fm_some fun m hm => ?_
    have hm := List.mem_range.mp hm
    have e1 : (((xs.size : Int) - 1) + (m : Int) * (-1)).toNat = xs.size - 1 - m := by omega
    rw [e1]
    have hlt : xs.size - 1 - m < xs.size := by omega
    simp [Array.getD, hlt]
  rw [e, List.getElem?_map]
  by_cases hi : i < xs.size
  · have hlt : xs.size - 1 - i < xs.size := by omega
    rw [List.getElem?_range hi, List.getElem?_reverse (by rw [Array.length_toList]; exact hi), Array.length_toList]
    simp [Array.getD, hlt]
  · rw [List.getElem?_eq_none (by rw [List.length_range]; omega), List.getElem?_eq_none (by rw [List.length_reverse, Array.length_toList]; omega)]
    rfl
section
variable {prog : Program} {w : World} {A : Around} {E : Value → Shared → Prop} {s : Shared}
theorem sliceApplied_rev {sl : Addr} {t : Tok} {n : Nat} {Q : Int × Int × Nat → Shared → Prop} (hs : s.heap.IsSliceOf sl .none .none (.int (-1) t))
    (h : Q ((n : Int) - 1, -1, n) s) : wpAny (model prog w) A (Builtin.Slice.sliceApplied (.ref sl) (pure (n : Int))) Q E s := by
  obtain ⟨os, hos, hcs, hds⟩ := id hs
  unfold Builtin.Slice.sliceApplied Builtin.Slice.sliceFields
  refine wpAny_bind (wpAny_bind (wpAny_field hos hds (x := .none) rfl (wpAny_bind (wpAny_field hos hds (x := .none) rfl (wpAny_bind (wpAny_field hos hds (x := .int (-1) t) rfl (wpAny_pure ?_)))))))
  refine wpAny_bind (slicePart_int ?_)
  show wpAny _ _ (if ((-1 : Int) == 0) = true then _ else _) _ _ s
  rw [if_neg (by decide)]
  refine wpAny_bind (slicePart_none (wpAny_bind (slicePart_none (wpAny_bind (wpAny_pure ?_)))))
  show wpAny _ _ (match Builtin.Slice.sliceAdjust none none (-1) (n : Int) with | (lo, hi) => pure (lo, (-1 : Int), Builtin.Slice.slicePlaces lo hi (-1))) _ _ s
  rw [adjust_rev n]
  show wpAny _ _ (pure ((n : Int) - 1, (-1 : Int), Builtin.Slice.slicePlaces ((n : Int) - 1) (-1) (-1))) _ _ s
  rw [places_rev]
  exact wpAny_pure h
theorem getItem_tuple_rev {t sl : Addr} {items : Array Value} {tk : Tok} {Q : Value → Shared → Prop} (ht : IsTup s.heap t items) (hs : s.heap.IsSliceOf sl .none .none (.int (-1) tk))
    (h : Q (.ref s.heap.objs.size) { s with heap := s.heap.push { cls := .type "tuple", data := .seq items.toList.reverse.toArray } })
    (hsz : items.size ≤ sizeLine) : wpAny (model prog w) A (getItem (.ref t) (.ref sl)) Q E s := by
  have htake : sizeOk (.seq items.toList.reverse.toArray) := by
    show items.toList.reverse.toArray.size ≤ sizeLine
    rw [List.size_toArray, List.length_reverse, Array.length_toList]
    omega
  obtain ⟨os, hos, hcs, hds⟩ := id hs
  have hTs : s.TypeIs (.ref sl) "slice" := ⟨os, hos, hcs⟩
  unfold getItem
  try with_reducible refine wpAny_holding ?_
  first | refine wpAny_bind (wpAny_pure ?_) | skip
  refine wpAny_bind (wpAny_sequenceKey ht.typeIs (by decide) ?_)
  refine wpAny_bind (wpAny_callSpecial?_slot (name := Str.ofString "__getitem__") ht.typeIs PyProof.Rows.slot_tuple_getitem
    (wpAny_call_entry PyProof.Rows.slot_tuple_getitem ht.typeIs entry_tuple_getitem ?_ (args_tuple_getitem _ _)))
  show wpAny _ _ (Builtin.Tuple.tupleItemsOf (.ref t) >>= _) _ _ s
  refine wpAny_bind (tupleItemsOf_ ht ?_)
  refine wpAny_bind (wpAny_typeOf hTs ?_)
  rw [if_pos (by decide)]
  refine wpAny_bind (sliceApplied_rev hs ?_)
  have hno : ¬ ((((items.size : Int) - 1) == 0 && (-1 : Int) == 1 && items.size == items.size) = true) := by
    intro q
    rw [Bool.and_eq_true, Bool.and_eq_true] at q
    exact absurd q.1.2 (by decide)
  show wpAny _ _ (if (((items.size : Int) - 1) == 0 && (-1 : Int) == 1 && items.size == items.size) = true then _ else _) _ _ s
  rw [if_neg hno, pick_rev]
  first
    | exact wpAny_bind (m := Builtin.Tuple.tupleExact _) (wpAny_newObj_type (wpAny_pure ⟨_, rfl, wpAny_pure h⟩) htake)
    | exact wpAny_bind (m := Builtin.Tuple.tupleExact _) (wpAny_newObj_type (wpAny_bind (wpAny_pure (wpAny_pure ⟨_, rfl, wpAny_pure h⟩))) htake)
    | exact wpAny_bind (wpAny_bind (m := Builtin.Tuple.tupleExact _) (wpAny_newObj_type (wpAny_pure (wpAny_pure ⟨_, rfl, wpAny_pure h⟩)) htake))
    | exact wpAny_bind (wpAny_bind (m := Builtin.Tuple.tupleExact _) (wpAny_newObj_type (wpAny_pure ⟨_, rfl, wpAny_pure h⟩) htake))
end
end HT
namespace Lk
open PySem PySem.Spec PyProof.Rows L2 Gx
variable [Own]
/-- t[::-1] of a tuple -/
def tRevT (te : TE) : TE := fun σ H Q => te σ H fun x H1 => ∃ a xs, x = .ref a ∧ H1 a = some (.tup xs) ∧ ∀ p, H1 p = none → Q (.ref p) (upd H1 p (.tup xs.reverse))
section
variable {X : Cx}
theorem pe_revT {e : Expr} {te : TE} {k : Nat} {p1 p2 p3 pos : Pos} (he : PE X e te) : PE X (.Subscript e (.Slice none none (some (.UnaryOp .USub (.Constant (.int 1) k p1) p2)) p3) pos) (tRevT te) := by
  refine ⟨fun pins s σ H Q I h => ?_⟩
  refine Subscript_ (thn (he.run pins s σ H _ I h) fun v s1 ⟨x, H1, I1, r1, q1⟩ => ?_)
  obtain ⟨a, xs, ex, hx, q⟩ := q1
  subst ex
  cases r1
  have hst : PO X (some (.UnaryOp .USub (.Constant (.int 1) k p1) p2)) (tPart (tUn (rU fun i => .int (-i)) (tC (.int 1)))) := po_some (pe_un un_neg pe_int)
  refine wpAny_Slice (thn (po_none.run pins s1 σ H1 (fun o H2 => o = none ∧ H2 = H1) I1 ⟨rfl, rfl⟩) fun vl s2 ⟨l, H2, I2, pl, el, e2⟩ => ?_)
  subst el e2
  refine thn (po_none.run pins s2 σ H2 (fun o H3 => o = none ∧ H3 = H2) I2 ⟨rfl, rfl⟩) fun vu s3 ⟨u, H3, I3, pu, eu, e3⟩ => ?_
  subst eu e3
  refine thn (hst.run pins s3 σ H3 (fun o H4 => o = some (-1) ∧ H4 = H3) I3 ⟨1, rfl, -1, rfl, rfl, rfl⟩) fun vs s4 ⟨o, H4, I4, ps, eo, e4⟩ => ?_
  subst eo e4
  have I5 : Inv X pins σ H4 { s4 with heap := s4.heap.push { cls := .type "slice", data := .fields #[vl, vu, vs] } } := I4.kept (t' := s4.toks) fun b ob q => Heap.get?_push_of_some _ q
  obtain ⟨its, r, ht, hz⟩ := I5.tuple (SqT.of hx)
  have hlen := r.length
  show wpAny (model X.prog X.w) X.A (subscriptTail e (.Slice none none (some (.UnaryOp .USub (.Constant (.int 1) k p1) p2)) p3) (.ref a) (.ref s4.heap.objs.size)) (EP X pins σ Q) X.xe { s4 with heap := s4.heap.push { cls := .type "slice", data := .fields #[vl, vu, vs] } }
  refine tail_any (ops := [.ref a, .ref s4.heap.objs.size]) ht.typeIs (PySem.F.slot_tuple_getitem.lookup) ?_ (by with_unfolding_all rfl)
  cases pl
  cases pu
  cases ps with
  | int i t =>
    refine HT.getItem_tuple_rev ht (Heap.IsSliceOf.new _ .none .none _) ?_ (by rw [List.size_toArray]; omega)
    refine ⟨.ref _, _, I5.laid (t' := s4.toks) (o := .tup xs.reverse) (fun b ob q => Heap.get?_push_of_some _ q) (Nat.le_refl _) ?_, rfl, q _ (I5.hok.fresh (Nat.le_refl _))⟩
    exact ⟨by rw [List.length_reverse]; exact hz, _, r.reverse, _, Heap.get?_push_size _ rfl, rfl, 0, rfl⟩
/-- value in rows, rows a tuple or a list of tuples of ints -/
def rInTT : R2 := fun x y H Q => ∃ (a : List Int) (b : List (List Int)), TI H x a ∧ TT2 H y b ∧ Q (.bl (decide (a ∈ b))) H
theorem op_inTT (hu : X.A.units + 65 < cLine) : OpR X (compareOp .In) rInTT := by
  intro pins s σ H x y v u Q I rx ry h
  obtain ⟨a, b, h1, h2, q⟩ := h
  obtain ⟨as, r1⟩ := Dp.reads I _ x v h1.dp rx
  obtain ⟨bs, r2⟩ := Dp.reads I _ y u h2.dp ry
  have sd := shaped_t a
  refine SeqAt.in_tuple_reads r2 r1 (canLay_rows b) (SeqAt.canLay_of_shaped sd) ?_ ⟨.bl _, H, I, rfl, by rw [any_rows]; exact q⟩
  have := depth_rows b
  omega
def rNotInTI : R2 := fun x y H Q => ∃ (a : List Int) (b : List (List Int)), TI H x a ∧ LT2 H y b ∧ Q (.bl (!decide (a ∈ b))) H
theorem op_notInTI (hu : X.A.units + 65 < cLine) : OpR X (compareOp .NotIn) rNotInTI := by
  intro pins s σ H x y v u Q I rx ry h
  obtain ⟨a, b, h1, h2, q⟩ := h
  exact op_notInD hu pins s σ H x y v u Q I rx ry ⟨_, _, h1.dp, h2.dp, shaped_t a, shaped_l b, by rw [any_rows]; exact q⟩
def rEqLT2 : R2 := fun x y H Q => ∃ a b : List (List Int), LT2 H x a ∧ LT2 H y b ∧ Q (.bl (decide (a = b))) H
theorem op_eqLT2 (hu : X.A.units + 64 < cLine) : OpR X (compareOp .Eq) rEqLT2 := by
  intro pins s σ H x y v u Q I rx ry h
  obtain ⟨a, b, h1, h2, q⟩ := h
  exact op_eqD hu pins s σ H x y v u Q I rx ry ⟨_, _, h1.dp, h2.dp, shaped_l a, shaped_l b, by rw [eqv_ll]; exact q⟩
end
end Lk

/-! ## D52 -/
set_option Elab.async false
set_option linter.all false
set_option maxRecDepth 100000
set_option maxHeartbeats 4000000
namespace Lk
open PySem PySem.Spec PyProof.Rows L2 Gx
open GxR (TabG Tabbed TabB)
variable [Own]
abbrev s_even_rings : Stmt := top 24
theorem sc_even_rings : FnScope ["web", "ring"] ["web"] (defScope s_even_rings) := ⟨rfl, rfl, rfl, by decide +kernel, rfl, by decide +kernel, by decide +kernel⟩
abbrev s_odd_rings : Stmt := top 25
theorem sc_odd_rings : FnScope ["web", "ring"] ["web"] (defScope s_odd_rings) := ⟨rfl, rfl, rfl, by decide +kernel, rfl, by decide +kernel, by decide +kernel⟩
abbrev s_is_ring : Stmt := top 26
theorem sc_is_ring : FnScope ["web", "value", "_", "looks", "number"] ["web", "value"] (defScope s_is_ring) := ⟨rfl, rfl, rfl, by decide +kernel, rfl, by decide +kernel, by decide +kernel⟩
theorem un1 {k : Nat} {A : Around} (h : Room k A) : A.units + 65 < cLine := by
  have := h.un
  omega
/-- any value, an int or not -/
def spIsWholeG : Sp := fun vs H Q _ => ∃ (x : V) (lo hi : Int), vs = [x, .int lo, .int hi] ∧ ((∃ i, x = .int i ∧ Q (.bl (isWhole i lo hi)) H) ∨ (((∃ b, x = .bl b) ∨ x = .non) ∧ Q (.bl false) H))
/-- values that are no tuples -/
inductive Odd (H : Hp) : V → Prop where
  | non : Odd H .non
  | bl (b : Bool) : Odd H (.bl b)
  | int (i : Int) : Odd H (.int i)
  | str (s : Str) : Odd H (.str s)
  | lst {a : Addr} {xs : List V} (h : H a = some (.lst xs)) : Odd H (.ref a)
  | dT {a : Addr} {kvs : List (List Key × V)} (h : H a = some (.dT kvs)) : Odd H (.ref a)
theorem Odd.ext {H H' : Hp} {x : V} (e : Ext H H') (o : Odd H x) : Odd H' x := by
  cases o with
  | non => exact .non
  | bl b => exact .bl b
  | int i => exact .int i
  | str s => exact .str s
  | lst h => exact .lst (e.lst h)
  | dT h => exact .dT (e.keep _ _ h rfl)
theorem Odd.ty {K : PySem.W.Frag} {H : Hp} {x : V} (o : Odd H x) : ∃ T, TyX K H x (.type T) ∧ kitB T "tuple" = some false := by
  cases o with
  | non => exact ⟨_, .base .non, by decide +kernel⟩
  | bl b => exact ⟨_, .base (.bl b), by decide +kernel⟩
  | int i => exact ⟨_, .base (.int i), by decide +kernel⟩
  | str s => exact ⟨_, .base (.str s), by decide +kernel⟩
  | lst h => exact ⟨_, .base (.lst h), by decide +kernel⟩
  | dT h => exact ⟨_, .base (.dT h), by decide +kernel⟩
/-- what may be asked whether it is a ring: a tuple of ints, a tuple of one other thing, no tuple -/
def NoRing (H : Hp) (x : V) : Prop := Odd H x ∨ ∃ a y, x = .ref a ∧ H a = some (.tup [y]) ∧ (y = .non ∨ ∃ b, y = .bl b)
theorem NoRing.ext {H H' : Hp} {x : V} (e : Ext H H') (h : NoRing H x) : NoRing H' x := by
  rcases h with h | ⟨a, y, e1, h, hy⟩
  · exact .inl (h.ext e)
  · exact .inr ⟨a, y, e1, e.tup h, hy⟩
/-- the even ones (b = true), the odd ones -/
def kindOf (W : Web) (b : Bool) : List (List Int) := (ringsOf W).filter fun p => evenP W.looks p == b
def spKind (b : Bool) : Sp := fun vs H Q _ => ∃ (v : V) (W : Web), vs = [v] ∧ WebAt H v W ∧ W.Few ∧ ∀ H' p us, Ext H H' → H p = none → H' p = some (.lst us) → Paired (TI H') us (kindOf W b) → Q (.ref p) H'
def spIsRing (Ps : List Addr) : Sp := fun vs H Q _ => ∃ (v x : V) (W : Web), vs = [v, x] ∧ WebAt H v W ∧ W.Few ∧ Tabs Ps H ∧ ((∃ ring, TI H x ring ∧ ring.length ≤ 100 ∧ ∀ H', Ext H H' → Q (.bl (decide (ring ∈ ringsOf W))) H') ∨ (NoRing H x ∧ ∀ H', Ext H H' → Q (.bl false) H'))
theorem ring_ok {W : Web} {p : List Int} (h : p ∈ ringsOf W) : PathOk W.looks p ∧ closesP W.looks p = true ∧ p.length ≤ 7 := raw_ok (sortT_mem.mp h)
theorem rings_len {W : Web} (fw : W.Few) : (ringsOf W).length ≤ 8108730 := by
  unfold ringsOf
  rw [sortT_len]
  exact found_small fw.most fw.six 7
section
variable {P : Program} {w : World} {K : PySem.W.Frag} {mg : Str → Option Value} {base : Heap} {Ps : List Addr}
theorem ok_is_wholeG {f : Addr} {fd : FuncData} (F : Fun K "is_whole" "is_whole" sIsWhole f fd) (B : Blt mg) : FnOk P w K mg base CX0 1 f fd ["value", "least", "most"] spIsWholeG := by
  refine F.ok scIsWhole (fun vs H Q E h => ?_) (fun cdv A outer s H vs Q E hr h => ?_)
  · obtain ⟨i, lo, hi, rfl, _⟩ := h
    rfl
  · obtain ⟨x, lo, hi, rfl, h⟩ := h
    refine ⟨_, pss_one (ps_ret (pe_and (pe_callB call_isi (by rfl) B.isi boot_isinstance (pa_cons (pv 0) (pa_cons (pe_bltn (v := .ty "int") (by rfl) B.int boot_tyInt rfl) pa_nil)))
      (pe_and (pe_not (pe_callB call_isi (by rfl) B.isi boot_isinstance (pa_cons (pv 0) (pa_cons (pe_bltn (v := .ty "bool") (by rfl) B.bool boot_tyBool rfl) pa_nil))))
      (pe_one (pe_chain op_le op_le (pv 1) (pv 0) (pv 2)))))), ?_⟩
    rcases h with ⟨i, rfl, k⟩ | ⟨⟨b, rfl⟩ | rfl, k⟩
    · refine ⟨_, rfl, _, _, _, _, true, rfl, .ty "int", isi_int i, kit_ty (by decide +kernel), _, rfl, iteT ?_⟩
      refine ⟨_, rfl, _, _, _, _, false, rfl, .ty "bool", isi_int i, kit_ty (by decide +kernel), _, rfl, _, rfl, iteT ?_⟩
      refine ⟨_, rfl, _, rfl, _, _, rfl, rfl, _, rfl, ?_⟩
      unfold isWhole at k
      by_cases h : lo ≤ i
      · rw [decide_eq_true h, Bool.true_and] at k
        rw [decide_eq_true h]
        refine iteT ?_
        refine ⟨_, rfl, _, _, rfl, rfl, ?_⟩
        exact k
      · rw [decide_eq_false h, Bool.false_and] at k
        rw [decide_eq_false h]
        exact iteF k
    · refine ⟨_, rfl, _, _, _, _, true, rfl, .ty "int", .base (.bl b), kit_ty (by decide +kernel), _, rfl, iteT ?_⟩
      refine ⟨_, rfl, _, _, _, _, true, rfl, .ty "bool", .base (.bl b), kit_ty (by decide +kernel), _, rfl, _, rfl, iteF ?_⟩
      exact k
    · refine ⟨_, rfl, _, _, _, _, false, rfl, .ty "int", .base .non, kit_ty (by decide +kernel), _, rfl, iteF ?_⟩
      exact k
theorem ok_even_rings {f : Addr} {fd : FuncData} (F : Fun K "even_rings" "even_rings" s_even_rings f fd)
    (c_all_rings : Cal P w K mg base CX0 2 "all_rings" ["web"] spAllRings) (c_has_even_spites : Cal P w K mg base CX0 1 "has_even_spites" ["web", "ring"] spHasEven) : FnOk P w K mg base CX0 3 f fd ["web"] (spKind true) := by
  refine F.ok sc_even_rings (fun vs H Q E h => ?_) (fun cdv A outer s H vs Q E hr h => ?_)
  · obtain ⟨v, W, rfl, _⟩ := h
    rfl
  · obtain ⟨v, W, rfl, hW, fw, k⟩ := h
    refine ⟨_, (pss_one (ps_ret (pe_lc (own := [("ring", 1)]) rfl sc_even_rings.nd (pi_tup (pe_c0 c_all_rings (hr.mono (by decide)) (by rfl) (pa_cons (pv 0) pa_nil))) (blkOk_by (N := ["web", "ring"]) (sc := defScope s_even_rings) (by decide +kernel)) (fun _ _ _ _ _ => (pg_name (i := 1) sc_even_rings.nd rfl (by first | exact Or.inl rfl | exact Or.inr rfl))) (fun _ _ _ _ _ => (pts_one (pt_val (pe_c0 c_has_even_spites (hr.mono (by decide)) (by rfl) (pa_cons (pv 0) (pa_cons (pv 1) pa_nil)))))) (fun _ _ _ _ _ => (pv 1))))), ?_⟩
    refine ⟨_, rfl, _, W, rfl, hW, fw, fun H1 q e1 hq0 hq => ?_⟩
    obtain ⟨_, us, e, hqa, hus⟩ := id hq
    cases e
    refine ⟨q, rfl, ⟨_, SqT.of hqa⟩, fun D hD => ?_⟩
    refine lc_fmT (R := TI) (S := TI) stTI stTI (fun p => if (evenP W.looks p == true) = true then some p else none) hD hqa hus (by have := rings_len fw; rw [paired_len hus]; exact Nat.le_trans this (by decide)) (fun x p H3 Ky Kn e3 hmem hx k1 k2 => ?_) fun H3 acc1 e3 hacc1 hp1 => ?_
    · obtain ⟨ok, _, hl⟩ := ring_ok hmem
      refine ⟨rfl, _, rfl, _, rfl, _, _, W, p, rfl, hW.ext (e1.trans e3), hx, by omega, ok.num, fun H4 e4 => ⟨_, rfl, ?_⟩⟩
      refine ite_of (fun hc => ?_) fun hc => ?_
      · exact ⟨_, rfl, k1 _ _ _ (if_pos (by rw [hc]; rfl)) e4 (hx.ext e4)⟩
      · exact k2 _ (if_neg (by rw [hc]; simp)) e4
    · rw [fmIf] at hp1
      exact k H3 D acc1 (e1.trans e3) (e1.free hD) hacc1 hp1
theorem ok_odd_rings {f : Addr} {fd : FuncData} (F : Fun K "odd_rings" "odd_rings" s_odd_rings f fd)
    (c_all_rings : Cal P w K mg base CX0 2 "all_rings" ["web"] spAllRings) (c_has_even_spites : Cal P w K mg base CX0 1 "has_even_spites" ["web", "ring"] spHasEven) : FnOk P w K mg base CX0 3 f fd ["web"] (spKind false) := by
  refine F.ok sc_odd_rings (fun vs H Q E h => ?_) (fun cdv A outer s H vs Q E hr h => ?_)
  · obtain ⟨v, W, rfl, _⟩ := h
    rfl
  · obtain ⟨v, W, rfl, hW, fw, k⟩ := h
    refine ⟨_, (pss_one (ps_ret (pe_lc (own := [("ring", 1)]) rfl sc_odd_rings.nd (pi_tup (pe_c0 c_all_rings (hr.mono (by decide)) (by rfl) (pa_cons (pv 0) pa_nil))) (blkOk_by (N := ["web", "ring"]) (sc := defScope s_odd_rings) (by decide +kernel)) (fun _ _ _ _ _ => (pg_name (i := 1) sc_odd_rings.nd rfl (by first | exact Or.inl rfl | exact Or.inr rfl))) (fun _ _ _ _ _ => (pts_one (pt_not (pt_val (pe_c0 c_has_even_spites (hr.mono (by decide)) (by rfl) (pa_cons (pv 0) (pa_cons (pv 1) pa_nil))))))) (fun _ _ _ _ _ => (pv 1))))), ?_⟩
    refine ⟨_, rfl, _, W, rfl, hW, fw, fun H1 q e1 hq0 hq => ?_⟩
    obtain ⟨_, us, e, hqa, hus⟩ := id hq
    cases e
    refine ⟨q, rfl, ⟨_, SqT.of hqa⟩, fun D hD => ?_⟩
    refine lc_fmT (R := TI) (S := TI) stTI stTI (fun p => if (evenP W.looks p == false) = true then some p else none) hD hqa hus (by have := rings_len fw; rw [paired_len hus]; exact Nat.le_trans this (by decide)) (fun x p H3 Ky Kn e3 hmem hx k1 k2 => ?_) fun H3 acc1 e3 hacc1 hp1 => ?_
    · obtain ⟨ok, _, hl⟩ := ring_ok hmem
      refine ⟨rfl, _, rfl, _, rfl, _, _, W, p, rfl, hW.ext (e1.trans e3), hx, by omega, ok.num, fun H4 e4 => ⟨_, rfl, ?_⟩⟩
      cases hc : evenP W.looks p with
      | true => exact iteF (k2 _ (if_neg (by rw [hc]; simp)) e4)
      | false => exact iteT ⟨_, rfl, k1 _ _ _ (if_pos (by rw [hc]; rfl)) e4 (hx.ext e4)⟩
    · rw [fmIf] at hp1
      exact k H3 D acc1 (e1.trans e3) (e1.free hD) hacc1 hp1
theorem ok_is_ring {f T : Addr} {fd : FuncData} (F : FunT K mg base Ps "is_ring" s_is_ring f fd T) (B : Blt mg)
    (c_is_whole : Cal P w K mg base CX0 1 "is_whole" ["value", "least", "most"] spIsWholeG) (c_all_rings : Cal P w K mg base CX0 2 "all_rings" ["web"] spAllRings) : FnOk P w K mg base CX0 3 f fd ["web", "value"] (spIsRing Ps) := by
  refine F.ok sc_is_ring (fun vs H Q E h => ?_) (fun c A outer s0 H vs Q E TB hr h => ?_)
  · obtain ⟨v, z, W, rfl, _⟩ := h
    rfl
  · obtain ⟨v, x, W, rfl, hW, fw, hTb, h⟩ := h
    obtain ⟨a, t, l, rfl, ha, ht, ⟨b, ls, rfl, hb, hls⟩⟩ := id hW
    refine ⟨_, (pss_cons (ps_asg (pv 0) (pg_tupT (n := 2) rfl (pgs_cons (pg_name (i := 2) sc_is_ring.nd rfl (by first | exact Or.inl rfl | exact Or.inr rfl)) (pgs_cons (pg_name (i := 3) sc_is_ring.nd rfl (by first | exact Or.inl rfl | exact Or.inr rfl)) pgs_nil))))
      (pss_cons (ps_if (PW.pt (pw_or (pt_not (pt_val (pe_callB call_isi (by rfl) B.isi boot_isinstance (pa_cons (pv 1) (pa_cons (pe_bltn (v := .ty "tuple") (by rfl) B.tuple boot_tyTuple rfl) pa_nil))))) (pw_or1 (pt_not (pt_val (pe_allG (own := [("number", 4)]) (k := 1) (hr.mono (by decide)) rfl sc_is_ring.nd (by rfl) B.all TB rfl (pi_tup (pv 1)) ⟨(blkOk_by (N := ["web", "value", "_", "looks", "number"]) (sc := defScope s_is_ring) (by decide +kernel)), noCells_ok (by decide +kernel), rfl, rfl⟩ (fun _ _ _ _ _ _ => (pg_name (i := 4) sc_is_ring.nd rfl (by first | exact Or.inl rfl | exact Or.inr rfl))) (fun _ _ _ _ _ _ hr' => pts_nil) (fun _ _ _ _ _ _ hr' => (pe_c0 c_is_whole (hr'.mono (by decide)) (by rfl) (pa_cons (pv 4) (pa_cons pe_int (pa_cons (pe_op op_sub (pe_callB call_lenT (by rfl) B.len PySem.boot_len (pa_cons (pv 3) pa_nil)) pe_int) pa_nil)))))))))))
        (pss_one (ps_ret pe_bl)) pss_nil)
      (pss_one (ps_ret (pe_cmpR (op_inTT (un1 hr)) (pv 1) (pe_c0 c_all_rings (hr.mono (by decide)) (by rfl) (pa_cons (pv 0) pa_nil)) (by with_unfolding_all rfl)))))), ?_⟩
    refine ⟨_, rfl, a, _, rfl, ha, rfl, _, _, rfl, _, _, rfl, rfl, ?_⟩
    have hg : TabG H T := hTb T F.mem
    rcases h with ⟨ring, ⟨z, rfl, hz⟩, hlen, k⟩ | ⟨hno | ⟨z, y, rfl, hz, hy⟩, k⟩
    · refine ⟨_, rfl, _, _, _, _, true, rfl, .ty "tuple", isi_tup hz, kit_ty (by decide +kernel), _, rfl, iteF ?_⟩
      refine ⟨_, rfl, z, rfl, ⟨_, SqT.of hz⟩, hg, fun H2 hT2 => ?_⟩
      have E2 : Ext H H2 := Ext.tabbed F.nown hg hT2
      have llen : ls.length = W.looks.length := by rw [paired_len hls, List.length_map]
      refine quant_test (walk_tup (xs := iv ring)) (fun i H' => H' = H2 ∧ ∀ j n, j < i → ring[j]? = some n → 0 ≤ n ∧ n < W.looks.length) ⟨rfl, fun j n h => by omega⟩ (fun i H' _ e => by rw [e.1]; exact SqT.of (E2.tup hz)) (fun i x H' H'' hi ⟨e, hj⟩ y => ?_) fun H' ⟨e, hj⟩ => ?_
      · obtain ⟨e', hx⟩ := y
        subst e e'
        obtain ⟨n, hn, rfl⟩ := iv_get hx
        refine ⟨rfl, yes ?_⟩
        refine ⟨_, rfl, _, rfl, b, _, rfl, .inr (E2.tup hb), _, _, rfl, rfl, _, _, _, rfl, .inl ⟨n, rfl, _, rfl, ?_⟩⟩
        cases hw : isWhole n 0 ((ls.length : Int) - 1) with
        | true =>
          rw [if_neg (by decide)]
          refine ⟨rfl, fun j m hj2 hm => ?_⟩
          by_cases h2 : j < i
          · exact hj j m h2 hm
          · rw [show j = i by omega, hn] at hm
            cases hm
            unfold isWhole at hw
            simp at hw
            omega
        | false =>
          rw [if_pos rfl]
          refine ⟨_, rfl, ?_⟩
          have := k _ E2
          rw [decide_eq_false (fun hm => ?_)] at this
          · exact this
          · have := (ring_ok hm).1.num n (List.mem_of_getElem? hn)
            unfold isWhole at hw
            simp at hw
            omega
      · subst e
        refine iteF ?_
        refine ⟨_, rfl, _, rfl, _, W, rfl, hW.ext E2, fw, fun H3 q e3 hq0 hq => ?_⟩
        exact ⟨_, _, ⟨z, rfl, (E2.trans e3).tup hz⟩, hq, k _ (E2.trans e3)⟩
    · obtain ⟨Ty, t1, t2⟩ := hno.ty (K := K)
      refine ⟨_, rfl, _, _, _, _, false, rfl, .ty "tuple", t1, kit_ty t2, _, rfl, iteT ?_⟩
      exact k _ (Ext.refl _)
    · refine ⟨_, rfl, _, _, _, _, true, rfl, .ty "tuple", isi_tup hz, kit_ty (by decide +kernel), _, rfl, iteF ?_⟩
      refine ⟨_, rfl, z, rfl, ⟨_, SqT.of hz⟩, hg, fun H2 hT2 => ?_⟩
      have E2 : Ext H H2 := Ext.tabbed F.nown hg hT2
      refine quant_test (walk_tup (xs := [y])) (fun i H' => H' = H2 ∧ i = 0) ⟨rfl, rfl⟩ (fun i H' _ e => by rw [e.1]; exact SqT.of (E2.tup hz)) (fun i x H' H'' hi ⟨e, hj⟩ yy => ?_) fun H' ⟨e, hj⟩ => ?_
      · obtain ⟨e', hx⟩ := yy
        subst e e' hj
        have hxy : y = x := by simpa using hx
        subst hxy
        refine ⟨rfl, yes ?_⟩
        refine ⟨_, rfl, _, rfl, b, _, rfl, .inr (E2.tup hb), _, _, rfl, rfl, _, _, _, rfl, .inr ⟨?_, _, rfl, ?_⟩⟩
        · rcases hy with e | e
          · exact .inr e
          · exact .inl e
        rw [if_pos rfl]
        exact ⟨_, rfl, k _ E2⟩
      · exact absurd (show (1 : Nat) = 0 from hj) (by decide)
end
end Lk

/-! ## D03 -/
set_option Elab.async false
set_option linter.all false
set_option maxRecDepth 100000
set_option maxHeartbeats 2000000
namespace Lk
open PySem PySem.Spec PyProof.Rows L2 Gx
open GxR (TabG Tabbed TabB)
variable [Own]
abbrev s_is_look : Stmt := top 12
theorem sc_is_look : FnScope ["value", "many", "one", "other", "sign"] ["value", "many"] (defScope s_is_look) := ⟨rfl, rfl, rfl, by decide +kernel, rfl, by decide +kernel, by decide +kernel⟩
def spIsLook : Sp := fun vs H Q _ => ∃ (v : V) (n a b s : Int), vs = [v, .int n] ∧ TI H v [a, b, s] ∧ (0 ≤ a ∧ a < n) ∧ (0 ≤ b ∧ b < n) ∧ (s = 1 ∨ s = -1) ∧ Q (.bl true) H
section
variable {P : Program} {w : World} {K : PySem.W.Frag} {mg : Str → Option Value} {base : Heap} {Ps : List Addr}
theorem whole_in {i lo hi : Int} (h : lo ≤ i) (h2 : i ≤ hi) : isWhole i lo hi = true := by simp [isWhole, h, h2]
theorem ok_is_look {f : Addr} {fd : FuncData} (F : Fun K "is_look" "is_look" s_is_look f fd) (B : Blt mg)
    (c_is_whole : Cal P w K mg base CX0 1 "is_whole" ["value", "least", "most"] spIsWhole) : FnOk P w K mg base CX0 2 f fd ["value", "many"] spIsLook := by
  refine F.ok sc_is_look (fun vs H Q E h => ?_) (fun cdv A outer s H vs Q E hr h => ?_)
  · obtain ⟨v, n, a, b, s, rfl, _⟩ := h
    rfl
  · obtain ⟨v, n, a, b, sg, rfl, ⟨p, rfl, hp⟩, ⟨ha, ha2⟩, ⟨hb, hb2⟩, hs, k⟩ := h
    refine ⟨_, (pss_cons (ps_if (PW.pt (pw_or (pt_not (pt_val (pe_callB call_isi (by rfl) B.isi boot_isinstance (pa_cons (pv 0) (pa_cons (pe_bltn (v := .ty "tuple") (by rfl) B.tuple boot_tyTuple rfl) pa_nil))))) (pw_or1 (pt_cmpR op_ne (pe_callB call_lenT (by rfl) B.len PySem.boot_len (pa_cons (pv 0) pa_nil)) pe_int (nomark _)))))
        (pss_one (ps_ret pe_bl)) pss_nil)
      (pss_cons (ps_asg (pv 0) (pg_tupT (n := 3) rfl (pgs_cons (pg_name (i := 2) sc_is_look.nd rfl (by first | exact Or.inl rfl | exact Or.inr rfl)) (pgs_cons (pg_name (i := 3) sc_is_look.nd rfl (by first | exact Or.inl rfl | exact Or.inr rfl)) (pgs_cons (pg_name (i := 4) sc_is_look.nd rfl (by first | exact Or.inl rfl | exact Or.inr rfl)) pgs_nil)))))
      (pss_cons (ps_if (PW.pt (pw_or (pt_not (pt_val (pe_c0 c_is_whole (hr.mono (by decide)) (by rfl) (pa_cons (pv 2) (pa_cons pe_int (pa_cons (pe_op op_sub (pv 1) pe_int) pa_nil)))))) (pw_or1 (pt_not (pt_val (pe_c0 c_is_whole (hr.mono (by decide)) (by rfl) (pa_cons (pv 3) (pa_cons pe_int (pa_cons (pe_op op_sub (pv 1) pe_int) pa_nil)))))))))
        (pss_one (ps_ret pe_bl)) pss_nil)
      (pss_one (ps_ret (pe_and (pe_c0 c_is_whole (hr.mono (by decide)) (by rfl) (pa_cons (pv 4) (pa_cons (pe_un un_neg pe_int) (pa_cons pe_int pa_nil)))) (pe_one (pe_cmpR op_ne (pv 4) pe_int (nomark _))))))))), ?_⟩
    refine ⟨_, rfl, _, _, _, _, true, rfl, .ty "tuple", isi_tup hp, kit_ty (by decide +kernel), _, rfl, iteF ?_⟩
    refine ⟨_, rfl, _, _, rfl, .inr hp, rfl, _, rfl, iteF ?_⟩
    refine ⟨_, rfl, p, _, rfl, hp, rfl, _, _, rfl, _, _, rfl, _, _, rfl, rfl, ?_⟩
    refine ⟨_, rfl, _, rfl, _, _, rfl, rfl, a, 0, n - 1, rfl, _, rfl, ?_⟩
    rw [whole_in ha (by omega)]
    refine iteF ⟨_, rfl, _, rfl, _, _, rfl, rfl, b, 0, n - 1, rfl, _, rfl, ?_⟩
    rw [whole_in hb (by omega)]
    refine iteF ⟨_, rfl, _, rfl, sg, -1, 1, rfl, _, rfl, ?_⟩
    rw [whole_in (by omega) (by omega)]
    refine iteT ⟨_, rfl, rfl, ?_⟩
    have e : (!decide (V.int sg = V.int 0)) = true := by
      rw [decide_eq_false (fun z => by cases z; omega)]
      rfl
    show Q (V.bl (!decide (V.int sg = V.int 0))) H
    rw [e]
    exact k
end
end Lk

/-! ## D06 -/
set_option Elab.async false
set_option linter.all false
set_option maxRecDepth 100000
set_option maxHeartbeats 2000000
namespace Lk
open PySem PySem.Spec PyProof.Rows L2 Gx
open GxR (TabG Tabbed TabB)
variable [Own]
abbrev s_are_looks : Stmt := top 13
theorem sc_are_looks : FnScope ["value", "many", "look", "one", "other", "_", "pairs", "lookers", "folk"] ["value", "many"] (defScope s_are_looks) := ⟨rfl, rfl, rfl, by decide +kernel, rfl, by decide +kernel, by decide +kernel⟩
def spAreLooks (Ps : List Addr) : Sp := fun vs H Q _ => ∃ (v : V) (W : Web), vs = [v, .int W.tops.length] ∧ TT2 H v (W.looks.map row3) ∧ W.Ok ∧ Tabs Ps H ∧ ∀ H', Ext H H' → Q (.bl true) H'
def pair2 (l : Look3) : List Int := [l.1, l.2.1]
theorem pairs_asc {W : Web} (ok : W.Ok) : (W.looks.map pair2).Pairwise fun x y => TS.code 64 x < TS.code 64 y := by
  rw [List.pairwise_map]
  refine List.Pairwise.imp_of_mem (fun {a b} ha hb h => ?_) ok.asc
  have h1 := ok.look a ha
  have h2 := ok.look b hb
  have h6 := ok.few
  unfold pair2
  rw [code_pair, code_pair]
  omega
section
variable {P : Program} {w : World} {K : PySem.W.Frag} {mg : Str → Option Value} {base : Heap} {Ps : List Addr}
theorem row3_at {H : Hp} {vs : List V} {ls : List Look3} {i : Nat} {x : V} (p : Paired (TI H) vs (ls.map row3)) (h : vs[i]? = some x) : ∃ l q, ls[i]? = some l ∧ x = .ref q ∧ H q = some (.tup [.int l.1, .int l.2.1, .int l.2.2]) := by
  obtain ⟨row, hrow, q, e, hq⟩ := paired_get' p h
  rw [List.getElem?_map] at hrow
  cases e2 : ls[i]? with
  | none => rw [e2] at hrow; cases hrow
  | some l =>
    rw [e2] at hrow
    obtain rfl := Option.some.inj hrow
    exact ⟨l, q, rfl, e, hq⟩
theorem pair_at {H : Hp} {vs : List V} {ls : List Look3} {i : Nat} {x : V} (p : Paired (TI H) vs (ls.map pair2)) (h : vs[i]? = some x) : ∃ l q, ls[i]? = some l ∧ x = .ref q ∧ H q = some (.tup [.int l.1, .int l.2.1]) := by
  obtain ⟨row, hrow, q, e, hq⟩ := paired_get' p h
  rw [List.getElem?_map] at hrow
  cases e2 : ls[i]? with
  | none => rw [e2] at hrow; cases hrow
  | some l =>
    rw [e2] at hrow
    obtain rfl := Option.some.inj hrow
    exact ⟨l, q, rfl, e, hq⟩
theorem ok_are_looks {f T : Addr} {fd : FuncData} (F : FunT K mg base Ps "are_looks" s_are_looks f fd T) (B : Blt mg) (M : Nums mg)
    (c_is_look : Cal P w K mg base CX0 2 "is_look" ["value", "many"] spIsLook) : FnOk P w K mg base CX0 4 f fd ["value", "many"] (spAreLooks Ps) := by
  refine F.ok sc_are_looks (fun vs H Q E h => ?_) (fun c A outer s0 H vs Q E TB hr h => ?_)
  · obtain ⟨v, W, rfl, _⟩ := h
    rfl
  · obtain ⟨v, W, rfl, ⟨a, ls, rfl, ha, hls⟩, ok, hTb, k⟩ := h
    refine ⟨_, (pss_cons (ps_if (PW.pt (pw_or (pt_not (pt_val (pe_callB call_isi (by rfl) B.isi boot_isinstance (pa_cons (pv 0) (pa_cons (pe_bltn (v := .ty "tuple") (by rfl) B.tuple boot_tyTuple rfl) pa_nil))))) (pw_or1 (pt_cmpR op_gt (pe_callB call_lenT (by rfl) B.len PySem.boot_len (pa_cons (pv 0) pa_nil)) (pe_num M.MOST_LOOKS (by rfl)) (nomark _)))))
        (pss_one (ps_ret pe_bl)) pss_nil)
      (pss_cons (ps_if (pt_not (pt_val (pe_allG (own := [("look", 2)]) (k := 2) (hr.mono (by decide)) rfl sc_are_looks.nd (by rfl) B.all TB rfl (pi_tup (pv 0)) ⟨(blkOk_by (N := ["value", "many", "look", "one", "other", "_", "pairs", "lookers", "folk"]) (sc := defScope s_are_looks) (by decide +kernel)), noCells_ok (by decide +kernel), rfl, rfl⟩ (fun _ _ _ _ _ _ => (pg_name (i := 2) sc_are_looks.nd rfl (by first | exact Or.inl rfl | exact Or.inr rfl))) (fun _ _ _ _ _ _ hr' => pts_nil) (fun _ _ _ _ _ _ hr' => (pe_c0 c_is_look (hr'.mono (by decide)) (by rfl) (pa_cons (pv 2) (pa_cons (pv 1) pa_nil)))))))
        (pss_one (ps_ret pe_bl)) pss_nil)
      (pss_cons (ps_setLc (i := 6) (own := [("one", 3), ("other", 4), ("_", 5)]) rfl sc_are_looks.nd rfl rfl (sw_true rfl rfl rfl (by decide +kernel)) (pi_tup (pv 0)) (blkOk_by (N := ["value", "many", "look", "one", "other", "_", "pairs", "lookers", "folk"]) (sc := defScope s_are_looks) (by decide +kernel)) (fun _ _ _ _ _ => (pg_tupT (n := 3) rfl (pgs_cons (pg_name (i := 3) sc_are_looks.nd rfl (by first | exact Or.inl rfl | exact Or.inr rfl)) (pgs_cons (pg_name (i := 4) sc_are_looks.nd rfl (by first | exact Or.inl rfl | exact Or.inr rfl)) (pgs_cons (pg_name (i := 5) sc_are_looks.nd rfl (by first | exact Or.inl rfl | exact Or.inr rfl)) pgs_nil))))) (fun _ _ _ _ _ => pts_nil) (fun _ _ _ _ _ => (pe_tup (pa_cons (pv 3) (pa_cons (pv 4) pa_nil)))))
      (pss_cons (ps_if (pt_cmpR (op_neLT2 hr.units) (pv 6) (pe_callB (cr_sortedT rfl) (by rfl) B.sorted boot_sorted (pa_cons (pe_callTy (cr_setOfT rfl hr.units) (by rfl) B.set boot_set (pa_cons (pv 6) pa_nil)) pa_nil)) (nomark _))
        (pss_one (ps_ret pe_bl)) pss_nil)
      (pss_cons (ps_set (i := 7) sc_are_looks.nd rfl (by first | exact Or.inl rfl | exact Or.inr rfl) (pe_lc (own := [("_", 5), ("other", 4)]) rfl sc_are_looks.nd (pi_list (pv 6)) (blkOk_by (N := ["value", "many", "look", "one", "other", "_", "pairs", "lookers", "folk"]) (sc := defScope s_are_looks) (by decide +kernel)) (fun _ _ _ _ _ => (pg_tupT (n := 2) rfl (pgs_cons (pg_name (i := 5) sc_are_looks.nd rfl (by first | exact Or.inl rfl | exact Or.inr rfl)) (pgs_cons (pg_name (i := 4) sc_are_looks.nd rfl (by first | exact Or.inl rfl | exact Or.inr rfl)) pgs_nil)))) (fun _ _ _ _ _ => pts_nil) (fun _ _ _ _ _ => (pv 4))))
      (pss_one (ps_ret (pe_allG (own := [("folk", 8)]) (k := 2) (hr.mono (by decide)) rfl sc_are_looks.nd (by rfl) B.all TB rfl (pi_range1 (by rfl) B.range (pa_cons (pv 1) pa_nil)) ⟨(blkOk_by (N := ["value", "many", "look", "one", "other", "_", "pairs", "lookers", "folk"]) (sc := defScope s_are_looks) (by decide +kernel)), noCells_ok (by decide +kernel), rfl, rfl⟩ (fun _ _ _ _ _ _ => (pg_name (i := 8) sc_are_looks.nd rfl (by first | exact Or.inl rfl | exact Or.inr rfl))) (fun _ _ _ _ _ _ hr' => pts_nil) (fun _ _ _ _ _ _ hr' => (pe_cmpR op_le (pe_bmL PySem.F.plainAttrs_list PySem.F.slot_list_count PySem.F.type_list_count mt_cntL (pv 7) (pa_cons (pv 8) pa_nil)) (pe_num M.MOST_LOOKS_OF_ONE (by rfl)) (nomark _))))))))))), ?_⟩
    have lls : ls.length = W.looks.length := by rw [paired_len hls, List.length_map]
    have h14 := ok.most
    have h6 := ok.few
    refine ⟨_, rfl, _, _, _, _, true, rfl, .ty "tuple", isi_tup ha, kit_ty (by decide +kernel), _, rfl, iteF ?_⟩
    refine ⟨_, rfl, _, _, rfl, .inr ha, _, _, rfl, rfl, _, rfl, ?_⟩
    rw [decide_eq_false (by omega : ¬ (14 : Int) < (ls.length : Int))]
    refine iteF ?_
    have hg : TabG H T := hTb T F.mem
    refine ⟨_, rfl, a, rfl, ⟨_, SqT.of ha⟩, hg, fun H2 hT2 => ?_⟩
    have E2 : Ext H H2 := Ext.tabbed F.nown hg hT2
    refine quant_test (walk_tup (K := K) (xs := ls)) (fun _ H' => H' = H2) rfl (fun i H' _ e => by rw [e]; exact SqT.of (E2.tup ha)) (fun i x H4 H5 hi e4 y => ?_) fun H4 e4 => ?_
    · subst e4
      obtain ⟨rfl, hx⟩ := y
      obtain ⟨lk, q, hlk, rfl, hq⟩ := row3_at (pTI.ext E2 hls) hx
      have h1 := ok.look lk (List.mem_of_getElem? hlk)
      refine ⟨rfl, yes ?_⟩
      exact ⟨_, rfl, _, rfl, _, _, lk.1, lk.2.1, lk.2.2, rfl, ⟨q, rfl, hq⟩, h1.1, h1.2.1, h1.2.2, true, rfl, iteTF rfl⟩
    · subst e4
      refine iteF ?_
      refine ⟨_, rfl, a, rfl, ⟨_, SqT.of (E2.tup ha)⟩, fun D hD => ?_⟩
      refine lc_tup (K := K) (xs := ls) (fun i H' => ∃ acc, H' D = some (.lst acc) ∧ Ext H4 H' ∧ acc.length ≤ i ∧ Paired (TI H') acc ((W.looks.take i).map pair2)) ⟨[], upd_same, Ext.new hD _, Nat.le_refl _, .nil⟩ (fun i H' _ ⟨_, _, e, _⟩ => SqT.of (e.tup (E2.tup ha))) (fun i x H' hi ⟨acc, hacc, e, hl, hp⟩ => ?_) fun H' ⟨acc, hacc, e, hl, hp⟩ => ?_
      · obtain ⟨lk, q, hlk, rfl, hq⟩ := row3_at (pTI.ext (E2.trans e) hls) hi
        have hi14 : i < 14 := by
          have := (List.getElem?_eq_some_iff.mp hlk).1
          omega
        refine ⟨q, _, rfl, hq, rfl, _, _, rfl, _, _, rfl, _, _, rfl, rfl, rfl, yes ?_⟩
        refine ⟨_, rfl, _, rfl, (by show 2 ≤ sizeLine; decide), fun u hu => ?_⟩
        have hDu : D ≠ u := ne_of_none hacc hu
        refine ⟨acc, by rw [upd_ne hDu]; exact hacc, small1000 (by omega), acc ++ [.ref u], upd_same, (e.trans (Ext.new hu _)).put hD _, by rw [List.length_append]; simp; omega, ?_⟩
        rw [take_snoc hlk, List.map_append]
        exact pTI.put (H := upd H' u (.tup [.int lk.1, .int lk.2.1])) (by rw [upd_ne hDu]; exact hacc) (fun _ _ h => h) (paired_snoc ⟨u, rfl, upd_same⟩ (pTI.ext (Ext.new hu _) hp))
      · rw [lls, List.take_length] at hp
        have E3 := E2.trans e
        have lacc : acc.length = W.looks.length := by rw [paired_len hp, List.length_map]
        obtain ⟨ks, rfl, hrows, hks⟩ := paired_ks hp
        have lks : ks.length ≤ 14 := by rw [← List.length_map (f := fun p : Addr × List Int => V.ref p.1), lacc]; exact h14
        refine ⟨_, rfl, _, rfl, D, ks, rfl, SqL.of hacc, fun p hpk => SqT.of (hks p hpk), by omega, fun u L hu hL1 hL2 => ?_⟩
        have hksu : ∀ p ∈ ks, p.1 ≠ u := fun p hp z => by
          have := hks p hp
          rw [z, hu] at this
          cases this
        have hmem : ∀ p ∈ ks, ∃ l ∈ W.looks, p.2 = pair2 l := fun p hp => by
          have h1 : p.2 ∈ ks.map (·.2) := List.mem_map.mpr ⟨p, hp, rfl⟩
          rw [← hrows] at h1
          obtain ⟨l, hl, e⟩ := List.mem_map.mp h1
          exact ⟨l, hl, e.symm⟩
        have bdP : ∀ p ∈ ks, p.2.length = 2 ∧ TS.Bd 64 p.2 := fun p hp => by
          obtain ⟨l, hl, e⟩ := hmem p hp
          have h1 := ok.look l hl
          rw [e]
          refine ⟨rfl, fun m hm => ?_⟩
          unfold pair2 at hm
          rcases List.mem_cons.mp hm with z | hm
          · omega
          · rw [List.mem_singleton.mp hm]
            omega
        refine ⟨u, L, 2, 64, rfl, upd_same, fun p hp => SqT.of (by rw [upd_ne (hksu p (hL1 p hp))]; exact hks p (hL1 p hp)), by decide, fun p hp => bdP p (hL1 p hp), fun L' q perm nd hlt hpw hq => ?_⟩
        have E5 := (Ext.new hu _).trans (Ext.new hq (.lst (L'.map fun q => V.ref q.1)))
        have inK : ∀ p ∈ L', p ∈ ks := fun p hp => hL1 p (perm.mem_iff.mp hp)
        have hb : L'.map (·.2) = W.looks.map pair2 := by
          refine asc_eq (f := TS.code 64) ?_ (pairs_asc ok) fun x => ⟨fun hx => ?_, fun hx => ?_⟩
          · rw [List.pairwise_map]
            have nd2 := List.pairwise_map.mp nd
            refine List.Pairwise.imp_of_mem (fun {x y} hx hy h => ?_) (hpw.and nd2)
            obtain ⟨h1, h2⟩ := h
            obtain ⟨l, hl, ex⟩ := hmem x (inK x hx)
            obtain ⟨m, hm, ey⟩ := hmem y (inK y hy)
            have b1 := ok.look l hl
            have b2 := ok.look m hm
            rw [ex, ey] at h1 h2 ⊢
            unfold pair2 at h1 h2 ⊢
            rw [code_pair, code_pair] at h1 ⊢
            rcases Int.lt_or_eq_of_le h1 with z | z
            · exact z
            · exact absurd (by rw [show l.1 = m.1 by omega, show l.2.1 = m.2.1 by omega]) h2
          · obtain ⟨p, hp, rfl⟩ := List.mem_map.mp hx
            rw [hrows]
            exact List.mem_map.mpr ⟨p, inK p hp, rfl⟩
          · rw [hrows] at hx
            obtain ⟨p, hp, rfl⟩ := List.mem_map.mp hx
            obtain ⟨p', hp', e'⟩ := List.mem_map.mp (hL2 p hp)
            exact List.mem_map.mpr ⟨p', perm.mem_iff.mpr hp', e'⟩
        refine ⟨W.looks.map pair2, L'.map (·.2), ⟨D, _, rfl, E5.lst hacc, pTI.ext E5 hp⟩, ⟨q, _, rfl, upd_same, ks_paired fun p hp => E5.tup (hks p (inK p hp))⟩, _, rfl, ?_⟩
        rw [hb, decide_eq_true rfl]
        refine iteF ?_
        refine ⟨_, rfl, D, rfl, ⟨_, SqL.of (E5.lst hacc)⟩, fun D2 hD2 => ?_⟩
        refine lc_list (K := K) (xs := ks.map fun p => V.ref p.1) (fun i H7 => H7 D2 = some (.lst (iv ((W.looks.take i).map fun l => l.2.1))) ∧ Ext H' H7) ⟨upd_same, E5.trans (Ext.new hD2 _)⟩ (fun i H7 _ ⟨_, e7⟩ => SqL.of (e7.lst hacc)) (fun i x H7 hi ⟨h7, e7⟩ => ?_) fun H7 ⟨h7, e7⟩ => ?_
        · obtain ⟨lk, z, hlk, rfl, hz⟩ := pair_at (pTI.ext e7 hp) hi
          refine ⟨z, _, rfl, hz, rfl, _, _, rfl, _, _, rfl, rfl, rfl, yes ?_⟩
          have hi14 : i < 14 := by
            have := (List.getElem?_eq_some_iff.mp hlk).1
            omega
          refine ⟨_, rfl, _, h7, ?_, ?_, e7.put (E5.free hD2) _⟩
          · rw [iv_len, List.length_map, List.length_take]
            exact small1000 (by omega)
          · rw [upd_same, take_snoc hlk, List.map_append]
            show some (HO.lst _) = some (HO.lst (List.map V.int (_ ++ _)))
            rw [List.map_append]
            rfl
        · have h7 : H7 D2 = some (.lst (iv (W.looks.map fun l => l.2.1))) := by
            rw [h7, lacc, List.take_length]
          have E7 := E3.trans e7
          have hg7 : TabG H7 T := E7.tab T hg
          refine ⟨_, rfl, _, rfl, by omega, by omega, hg7, fun H8 hT8 => ?_⟩
          have E8 := E7.trans (Ext.tabbed F.nown hg7 hT8)
          have h8 := (Ext.tabbed F.nown hg7 hT8).lst h7
          refine quant_it (walk_range (lo := 0) (n := ((W.tops.length : Int)).toNat)) (fun _ H' => H' = H8) rfl (fun _ _ _ _ => trivial) (fun i x H9 H10 hi e9 y => ?_) fun H9 e9 => by rw [e9]; exact k H8 E8
          subst e9
          obtain ⟨rfl, rfl⟩ := rng_len y
          refine ⟨rfl, yes ?_⟩
          refine ⟨_, rfl, ⟨D2, _, rfl, h8⟩, _, rfl, D2, _, (i : Int), rfl, rfl, h8, _, _, rfl, rfl, ?_⟩
          have h4 := ok.four (i : Int)
          rw [← List.countP_eq_length_filter] at h4
          refine ⟨true, congrArg V.bl (decide_eq_true ?_), iteTF rfl⟩
          have : ((W.looks.map fun l => l.2.1).count (i : Int)) ≤ 4 := h4
          omega
end
end Lk

/-! ## D07 -/
set_option Elab.async false
set_option linter.all false
set_option maxRecDepth 100000
set_option maxHeartbeats 2000000
namespace Lk
open PySem PySem.Spec PyProof.Rows L2 Gx
open GxR (TabG Tabbed TabB)
variable [Own]
def topAt (W : Web) (i : Int) : Int := W.tops.getD i.toNat 0
theorem topAt_get {W : Web} {i : Int} (h0 : 0 ≤ i) (h1 : i < W.tops.length) : W.tops[i.toNat]? = some (topAt W i) := by
  unfold topAt
  rw [List.getD_eq_getElem?_getD, List.getElem?_eq_getElem (by omega)]
  rfl
theorem topAt_ok {W : Web} (ok : W.Ok) {i : Int} (h0 : 0 ≤ i) (h1 : i < W.tops.length) : 1 ≤ topAt W i ∧ topAt W i ≤ 3 := ok.tops _ (List.mem_of_getElem? (topAt_get h0 h1))
theorem looksOf_ok {W : Web} (ok : W.Ok) {f : Int} : ∀ p ∈ looksOf W f, (0 ≤ p.1 ∧ p.1 < W.tops.length) ∧ (p.2 = 1 ∨ p.2 = -1) := by
  intro p hp
  unfold looksOf at hp
  obtain ⟨l, hl, rfl⟩ := List.mem_map.mp hp
  have := ok.look l (List.mem_filter.mp hl).1
  exact ⟨this.1, this.2.2⟩
def manyStep (W : Web) (m : Int) (p : Int × Int) : Int := m * (topAt W p.1 + 1)
/-- how many rows of moods one can see -/
def manyRows (W : Web) (f : Int) : Int := (looksOf W f).foldl (manyStep W) 1
def spManyRows : Sp := fun vs H Q _ => ∃ (v : V) (W : Web) (f : Int), vs = [v, .int f] ∧ WebAt H v W ∧ W.Ok ∧ ∀ H', Ext H H' → Q (.int (manyRows W f)) H'
theorem foldl_take' {α β : Type} {f : α → β → α} {a : α} {l : List β} {i : Nat} {x : β} (h : l[i]? = some x) : (l.take (i + 1)).foldl f a = f ((l.take i).foldl f a) x := by
  rw [List.take_add_one, h]
  simp
section
variable {P : Program} {w : World} {K : PySem.W.Frag} {mg : Str → Option Value} {base : Heap} {Ps : List Addr}
/-- a look of the list, taken apart -/
theorem look_at {H : Hp} {vs : List V} {ls : List (Int × Int)} {i : Nat} {x : V} (p : Paired (TI H) vs (ls.map row2)) (h : vs[i]? = some x) : ∃ l q, ls[i]? = some l ∧ x = .ref q ∧ H q = some (.tup [.int l.1, .int l.2]) := by
  obtain ⟨row, hrow, q, e, hq⟩ := paired_get' p h
  rw [List.getElem?_map] at hrow
  cases e2 : ls[i]? with
  | none => rw [e2] at hrow; cases hrow
  | some l =>
    rw [e2] at hrow
    obtain rfl := Option.some.inj hrow
    exact ⟨l, q, rfl, e, hq⟩
def stAt (st : List Int) (i : Int) : Int := st.getD i.toNat 0
def placeStep (W : Web) (st : List Int) (m : Int) (p : Int × Int) : Int := m * (topAt W p.1 + 1) + stAt st p.1
def placeOf (W : Web) (st : List Int) (f : Int) : Int := (looksOf W f).foldl (placeStep W st) 0
/-- a state of the web -/
structure StOk (W : Web) (st : List Int) : Prop where
  len : st.length = W.tops.length
  bd : ∀ i : Int, 0 ≤ i → i < W.tops.length → 0 ≤ stAt st i ∧ stAt st i ≤ topAt W i
theorem stAt_get {st : List Int} {i : Int} (h0 : 0 ≤ i) (h1 : i < st.length) : st[i.toNat]? = some (stAt st i) := by
  unfold stAt
  rw [List.getD_eq_getElem?_getD, List.getElem?_eq_getElem (by omega)]
  rfl
theorem place_bd {W : Web} (ok : W.Ok) {st : List Int} (so : StOk W st) : ∀ (ls : List (Int × Int)) (m p : Int), (∀ l ∈ ls, 0 ≤ l.1 ∧ l.1 < W.tops.length) → 0 ≤ p → p < m → 0 ≤ ls.foldl (placeStep W st) p ∧ ls.foldl (placeStep W st) p < ls.foldl (manyStep W) m
  | [], _, _, _, h0, h1 => ⟨h0, h1⟩
  | l :: ls, m, p, hl, h0, h1 => by
    have hh := hl l (List.mem_cons_self ..)
    have ht := topAt_ok ok hh.1 hh.2
    have hs := so.bd l.1 hh.1 hh.2
    refine place_bd ok so ls (manyStep W m l) (placeStep W st p l) (fun x hx => hl x (List.mem_cons_of_mem _ hx)) ?_ ?_
    · unfold placeStep
      have : 0 ≤ p * (topAt W l.1 + 1) := Int.mul_nonneg h0 (by omega)
      omega
    · unfold placeStep manyStep
      have h2 : (p + 1) * (topAt W l.1 + 1) ≤ m * (topAt W l.1 + 1) := Int.mul_le_mul_of_nonneg_right (by omega) (by omega)
      rw [Int.add_mul, Int.one_mul] at h2
      omega
/-- tables: one for each, as long as there are rows -/
structure RuOk (W : Web) (ru : List (List Int)) : Prop where
  len : ru.length = W.tops.length
  rows : ∀ f : Int, 0 ≤ f → f < W.tops.length → ((ru.getD f.toNat []).length : Int) = manyRows W f
def moodTold (W : Web) (ru : List (List Int)) (st : List Int) (f : Int) : Int := (ru.getD f.toNat []).getD (placeOf W st f).toNat 0
def spMoodTold : Sp := fun vs H Q _ => ∃ (v r z : V) (W : Web) (ru : List (List Int)) (st : List Int) (f : Int), vs = [v, r, z, .int f] ∧ WebAt H v W ∧ W.Ok ∧ TT2 H r ru ∧ RuOk W ru ∧ TI H z st ∧ StOk W st ∧ (0 ≤ f ∧ f < W.tops.length) ∧ ∀ H', Ext H H' → Q (.int (moodTold W ru st f)) H'
end
end Lk

/-! ## D11 -/
set_option Elab.async false
set_option linter.all false
set_option maxRecDepth 100000
set_option maxHeartbeats 2000000
namespace Lk
open PySem PySem.Spec PyProof.Rows L2 Gx
open GxR (TabG Tabbed TabB)
open RZ (ItzT pi_zipA)
variable [Own]
theorem walk_zipT {K : PySem.W.Frag} {a b : Addr} {xs ys : List V} {n : Nat} (hn : n = min xs.length ys.length) : Walk (ItzT K a b) n (fun H => SqT K H a xs ∧ SqT K H b ys) (YPair (fun i => xs[i]?) (fun i => ys[i]?)) := by
  subst hn
  refine ⟨fun i _ hi q => ⟨xs, ys, xs[i]'(by omega), ys[i]'(by omega), q.1, q.2, by simp [show i < xs.length by omega], by simp [show i < ys.length by omega]⟩, fun _ q => ⟨xs, ys, q.1, q.2, by omega⟩, fun i H v H' _ q y => ?_⟩
  obtain ⟨T, x, z, h1, h2, h3, h4, h5⟩ := y
  exact ⟨T, x, z, h1, h2, h3, h4 xs q.1, h5 ys q.2⟩
def spIsState (Ps : List Addr) : Sp := fun vs H Q _ => ∃ (v z : V) (W : Web) (st : List Int), vs = [v, z] ∧ WebAt H v W ∧ W.Ok ∧ TI H z st ∧ StOk W st ∧ Tabs Ps H ∧ ∀ H', Ext H H' → Q (.bl true) H'
def spCheckState (Ps : List Addr) : Sp := fun vs H Q _ => ∃ (v z : V) (W : Web) (st : List Int), vs = [v, z] ∧ WebAt H v W ∧ W.Ok ∧ TI H z st ∧ StOk W st ∧ Tabs Ps H ∧ ∀ H', Ext H H' → Q .non H'
abbrev s_wrong_part : Stmt := top 14
theorem sc_wrong_part : FnScope ["web", "tops", "looks"] ["web"] (defScope s_wrong_part) := ⟨rfl, rfl, rfl, by decide +kernel, rfl, by decide +kernel, by decide +kernel⟩
def spWrongPart (Ps : List Addr) : Sp := fun vs H Q _ => ∃ (v : V) (W : Web), vs = [v] ∧ WebAt H v W ∧ W.Ok ∧ Tabs Ps H ∧ ∀ H', Ext H H' → Q .non H'
abbrev s_check_web : Stmt := top 15
theorem sc_check_web : FnScope ["web", "part"] ["web"] (defScope s_check_web) := ⟨rfl, rfl, rfl, by decide +kernel, rfl, by decide +kernel, by decide +kernel⟩
def spCheckWeb (Ps : List Addr) : Sp := fun vs H Q _ => ∃ (v : V) (W : Web), vs = [v] ∧ WebAt H v W ∧ W.Ok ∧ Tabs Ps H ∧ ∀ H', Ext H H' → Q .non H'
abbrev s_check_folk : Stmt := top 16
theorem sc_check_folk : FnScope ["web", "folk", "tops", "_"] ["web", "folk"] (defScope s_check_folk) := ⟨rfl, rfl, rfl, by decide +kernel, rfl, by decide +kernel, by decide +kernel⟩
def spCheckFolk : Sp := fun vs H Q _ => ∃ (v : V) (W : Web) (f : Int), vs = [v, .int f] ∧ WebAt H v W ∧ (0 ≤ f ∧ f < W.tops.length) ∧ Q .non H
section
variable {P : Program} {w : World} {K : PySem.W.Frag} {mg : Str → Option Value} {base : Heap} {Ps : List Addr}
theorem ok_wrong_part {f : Addr} {fd : FuncData} (F : Fun K "wrong_part" "wrong_part" s_wrong_part f fd) (B : Blt mg)
    (c_are_tops : Cal P w K mg base CX0 3 "are_tops" ["value"] (spAreTops Ps)) (c_are_looks : Cal P w K mg base CX0 4 "are_looks" ["value", "many"] (spAreLooks Ps)) : FnOk P w K mg base CX0 5 f fd ["web"] (spWrongPart Ps) := by
  refine F.ok sc_wrong_part (fun vs H Q E h => ?_) (fun cdv A outer s0 H vs Q E hr h => ?_)
  · obtain ⟨v, W, rfl, _⟩ := h
    rfl
  · obtain ⟨v, W, rfl, hW, ok, hTb, k⟩ := h
    obtain ⟨a, t, l, rfl, ha, ⟨b, rfl, hb⟩, hl⟩ := id hW
    refine ⟨_, (pss_cons (ps_if (PW.pt (pw_or (pt_not (pt_val (pe_callB call_isi (by rfl) B.isi boot_isinstance (pa_cons (pv 0) (pa_cons (pe_bltn (v := .ty "tuple") (by rfl) B.tuple boot_tyTuple rfl) pa_nil))))) (pw_or1 (pt_cmpR op_ne (pe_callB call_lenT (by rfl) B.len PySem.boot_len (pa_cons (pv 0) pa_nil)) pe_int (nomark _)))))
        (pss_one (ps_ret pe_str)) pss_nil)
      (pss_cons (ps_asg (pv 0) (pg_tupT (n := 2) rfl (pgs_cons (pg_name (i := 1) sc_wrong_part.nd rfl (by first | exact Or.inl rfl | exact Or.inr rfl)) (pgs_cons (pg_name (i := 2) sc_wrong_part.nd rfl (by first | exact Or.inl rfl | exact Or.inr rfl)) pgs_nil))))
      (pss_cons (ps_if (pt_not (pt_val (pe_c0 c_are_tops (hr.mono (by decide)) (by rfl) (pa_cons (pv 1) pa_nil))))
        (pss_one (ps_ret pe_str)) pss_nil)
      (pss_cons (ps_if (pt_not (pt_val (pe_c0 c_are_looks (hr.mono (by decide)) (by rfl) (pa_cons (pv 2) (pa_cons (pe_callB call_lenT (by rfl) B.len PySem.boot_len (pa_cons (pv 1) pa_nil)) pa_nil)))))
        (pss_one (ps_ret pe_str)) pss_nil)
      (pss_one (ps_ret pe_non)))))), ?_⟩
    refine ⟨_, rfl, _, _, _, _, true, rfl, .ty "tuple", isi_tup ha, kit_ty (by decide +kernel), _, rfl, iteF ?_⟩
    refine ⟨_, rfl, _, _, rfl, .inr ha, rfl, _, rfl, iteF ?_⟩
    refine ⟨_, rfl, a, _, rfl, ha, rfl, _, _, rfl, _, _, rfl, rfl, ?_⟩
    refine ⟨_, rfl, _, W.tops, rfl, ⟨b, rfl, hb⟩, ⟨ok.some_, ok.few⟩, ok.tops, hTb, fun H1 e1 => ⟨_, rfl, iteF ?_⟩⟩
    refine ⟨_, rfl, _, rfl, _, _, rfl, .inr (e1.tup hb), _, W, ?_, hl.ext e1, ok, hTb.ext e1, fun H2 e2 => ⟨_, rfl, iteF (k H2 (e1.trans e2))⟩⟩
    rw [iv_len]
    rfl
theorem ok_check_web {f : Addr} {fd : FuncData} (F : Fun K "check_web" "check_web" s_check_web f fd)
    (c_wrong_part : Cal P w K mg base CX0 5 "wrong_part" ["web"] (spWrongPart Ps)) : FnOk P w K mg base CX0 6 f fd ["web"] (spCheckWeb Ps) := by
  refine F.ok sc_check_web (fun vs H Q E h => ?_) (fun cdv A outer s0 H vs Q E hr h => ?_)
  · obtain ⟨v, W, rfl, _⟩ := h
    rfl
  · obtain ⟨v, W, rfl, hW, ok, hTb, k⟩ := h
    refine ⟨_, (pss_cons (ps_set (i := 1) sc_check_web.nd rfl (by first | exact Or.inl rfl | exact Or.inr rfl) (pe_c0 c_wrong_part (hr.mono (by decide)) (by rfl) (pa_cons (pv 0) pa_nil)))
      (pss_one (ps_if (pt_cmpR op_notN (pv 1) pe_non (nomark _))
        (pss_one ps_never) pss_nil))), ?_⟩
    exact ⟨_, rfl, _, W, rfl, hW, ok, hTb, fun H' e => ⟨_, rfl, rfl, _, rfl, iteF (k H' e)⟩⟩
theorem ok_check_folk {f : Addr} {fd : FuncData} (F : Fun K "check_folk" "check_folk" s_check_folk f fd) (B : Blt mg)
    (c_is_whole : Cal P w K mg base CX0 1 "is_whole" ["value", "least", "most"] spIsWhole) : FnOk P w K mg base CX0 2 f fd ["web", "folk"] spCheckFolk := by
  refine F.ok sc_check_folk (fun vs H Q E h => ?_) (fun cdv A outer s0 H vs Q E hr h => ?_)
  · obtain ⟨v, W, n, rfl, _⟩ := h
    rfl
  · obtain ⟨v, W, n, rfl, hW, hn, k⟩ := h
    obtain ⟨a, t, l, rfl, ha, ⟨b, rfl, hb⟩, hl⟩ := id hW
    refine ⟨_, (pss_cons (ps_asg (pv 0) (pg_tupT (n := 2) rfl (pgs_cons (pg_name (i := 2) sc_check_folk.nd rfl (by first | exact Or.inl rfl | exact Or.inr rfl)) (pgs_cons (pg_name (i := 3) sc_check_folk.nd rfl (by first | exact Or.inl rfl | exact Or.inr rfl)) pgs_nil))))
      (pss_one (ps_if (pt_not (pt_val (pe_c0 c_is_whole (hr.mono (by decide)) (by rfl) (pa_cons (pv 1) (pa_cons pe_int (pa_cons (pe_op op_sub (pe_callB call_lenT (by rfl) B.len PySem.boot_len (pa_cons (pv 2) pa_nil)) pe_int) pa_nil))))))
        (pss_one ps_never) pss_nil))), ?_⟩
    refine ⟨_, rfl, a, _, rfl, ha, rfl, _, _, rfl, _, _, rfl, rfl, ?_⟩
    refine ⟨_, rfl, _, rfl, _, _, rfl, .inr hb, _, _, rfl, rfl, n, 0, _, rfl, _, rfl, ?_⟩
    rw [whole_in hn.1 (by rw [iv_len]; omega)]
    exact iteF k
end
end Lk

/-! ## Own0 -/
set_option Elab.async false
set_option linter.all false
set_option maxRecDepth 100000
set_option maxHeartbeats 2000000
/-! raise X(), X an own error class without an __init__ of its own. -/
namespace Lk
open PySem PySem.Spec PyProof.Rows L2
variable [Own]
/-- what the written part says of an own error class x, at C -/
structure Own0 (K : PySem.W.Frag) (mg : Str → Option Value) (x : Str) (C : Addr) : Prop where
  gC : mg x = some (.ref C)
  ex : PySem.W.excIn K C [.type "ValueError", .type "Exception", .type "BaseException", .type "object"] "ValueError.__new__" = true
  kC : PySem.W.keepIn K (.ref C) = true
  exC : PySem.W.subIn K (.ref C) (.type "BaseException") = some true
  tyC : PySem.W.typeIn K (.ref C) = some (.type "type")
section
variable {X : Cx} {C : Addr} {x : Str} {p pos pos2 : Pos}
theorem pmk0 (T : Own0 X.K X.mg x C) (hg : Gl X x) (hdb : (x == ("__debug__" : Str)) = false := by decide) : PMk X (.Call (.Name x p) [] [] pos) (fun _ H Q => Q (.ref C) none H) := by
  intro pins s σ H Q I h
  refine wpAny_Call_Name_kw (ld_glob I hg T.gC ?_ hdb)
  refine PySem.W.callWith_K0 I.kIn T.kC ?_
  show wpAny _ _ (call (.ref C) []) _ _ _
  obtain ⟨bm, N, nm, qn, bs, hdct, sn, sub, ab, col, dd, k0, k1, k2, k3, k5, mN, hC, hN, hni, T2⟩ := exc_obj I.kIn T.ex
  refine wpAny_call_exc_subT PySem.F.excBase_ValueError T2 hC hN hni (fun h' e hm => ?_) (Nat.zero_le _)
  exact mk_of I hm (raises_own T.exC T.tyC) h (I.hok.gone hm.new)
def tRaise0 (C : Addr) (W : WX) : TS := fun _ σ H => W (.ref C) none σ H
theorem ps_raise0 {W : WX} (hc : X.calm = true) (T : Own0 X.K X.mg x C) (tk : Takes X W) (hg : Gl X x) (hdb : (x == ("__debug__" : Str)) = false := by decide) :
    PS X (.Raise (some (.Call (.Name x p) [] [] pos)) none pos2) (tRaise0 C W) := ps_raise hc tk (pmk0 T hg hdb)
end
end Lk

/-! ## Kmin -/
set_option Elab.async false
set_option linter.all false
set_option maxRecDepth 100000
set_option maxHeartbeats 2000000
/-! min(rows, key=len, default=d), rows a list of tuples of ints. -/
namespace Lk
open PySem PySem.Spec PyProof.Rows L2 Gx
variable [Own]
def tMinLen (ta td : TE) : TE := fun σ H Q => ta σ H fun x H1 => td σ H1 fun d H2 => ∃ (a : Addr) (xs : List V) (rows : List (List Int)), [x] = [.ref a] ∧ H2 a = some (.lst xs) ∧ Paired (TI H2) xs rows ∧ (rows = [] → Q d H2) ∧
  ∀ (y : V) (row : List Int), TI H2 y row → row ∈ rows → (∀ r ∈ rows, row.length ≤ r.length) → Q y H2
section
variable {X : Cx} {p p2 pk pd pos : Pos} {e d : Expr} {ta td : TE}
theorem pe_minLen (hc : X.calm = true) (hg : Gl X "min") (hm : X.mg "min" = none) (hg2 : Gl X "len") (hm2 : X.mg "len" = none) (ha : PE X e ta) (hd : PE X d td) (hall : (backToKw pos (keywordEach [⟨some "key", .Name "len" p2, pk⟩, ⟨some "default", d, pd⟩] X.env)).all (·.1.isSome) = true := by rfl)
    (hnone : (backToKw pos (keywordEach [⟨some "key", .Name "len" p2, pk⟩, ⟨some "default", d, pd⟩] X.env)).any (·.1.isNone) = false := by rfl)
    (he : backTo pos (starEach [e] X.env) = (false, eval e X.env) :: backTo pos (starEach [] X.env) := by rfl) (hpl : (backTo pos (starEach [e] X.env)).any (·.1) = false := by rfl)
    (hks : (backToKw pos (keywordEach [⟨some "key", .Name "len" p2, pk⟩, ⟨some "default", d, pd⟩] X.env)).filterMap (·.1) = [Str.ofString "key", Str.ofString "default"] := by rfl)
    (hs1 : starEach [e] X.env = (false, eval e X.env) :: starEach [] X.env := by rfl) :
    PE X (.Call (.Name "min" p) [e] [⟨some "key", .Name "len" p2, pk⟩, ⟨some "default", d, pd⟩] pos) (tMinLen ta td) := by
  refine ⟨fun pins s σ H Q I h => ?_⟩
  refine wpAny_Call_Name_kw (ld_blt I hg hm boot_min ?_ (by decide) (by decide))
  refine PyProof.Rows.callWith_kw (thn ((pa_cons ha pa_nil hs1).run pos pins s σ H (fun vs H1 => td σ H1 fun d H2 => ∃ (a : Addr) (xs : List V) (rows : List (List Int)), vs = [.ref a] ∧ H2 a = some (.lst xs) ∧ Paired (TI H2) xs rows ∧ (rows = [] → Q d H2) ∧
    ∀ (y : V) (row : List Int), TI H2 y row → row ∈ rows → (∀ r ∈ rows, row.length ≤ r.length) → Q y H2) I h) fun us s1 ⟨vs, H1, I1, r1, q1⟩ => ?_) he hpl hall hnone
  rw [hks]
  refine kwAll_cons (ld_blt I1 hg2 hm2 boot_len ?_ (by decide) (by decide))
  refine kwAll_cons (thn (hd.run pins s1 σ H1 _ I1 q1) fun ud s2 ⟨dv, H2, I2, rd, q2⟩ => ?_)
  refine kwAll_nil ?_
  obtain ⟨a, xs, rows, rfl, ha2, hp, q0, qn⟩ := q2
  obtain ⟨ux, rfl, rx⟩ := vals1 r1
  cases rx
  show wpAny (model X.prog X.w) X.A (call (.builtin "min") [.ref a] [(Str.ofString "key", .builtin "len"), (Str.ofString "default", ud)]) _ _ s2
  obtain ⟨its, rv, hl, hz⟩ := I2.list (SqL.of ha2)
  have lx : xs.length = rows.length := paired_len hp
  have li : xs.length = its.length := rv.length
  have item : ∀ (i : Nat) (v : Value), its[i]? = some v → ∃ (t : Addr) (row : List Int), v = .ref t ∧ xs[i]? = some (.ref t) ∧ rows[i]? = some row ∧ H2 t = some (.tup (iv row)) := fun i v hv => by
    have hi := (List.getElem?_eq_some_iff.mp hv).1
    have hx : xs[i]? = some xs[i] := List.getElem?_eq_getElem (by omega)
    obtain ⟨u, hu, ru⟩ := rv.get hx
    rw [hv] at hu
    cases hu
    obtain ⟨row, hr, t, et, ht⟩ := paired_get' hp hx
    rw [et] at ru hx
    exact ⟨t, row, ru, hx, hr, ht⟩
  let num : Nat → Int := fun i => ((rows.getD i []).length : Int)
  let J : Shared → Prop := fun s' => (∀ b o, s2.heap.get? b = some o → s'.heap.get? b = some o) ∧ s'.gens = s2.gens ∧ s'.drawn = s2.drawn ∧ s'.os = s2.os
  have fin : ∀ s', J s' → Inv X pins σ H2 s' := fun s' ⟨j1, j2, j3, j4⟩ => by
    have := I2.kept (t' := s'.toks) j1
    obtain ⟨h', g', d', o', t'⟩ := s'
    cases j2; cases j3; cases j4
    exact this
  refine PySem.call_min_walkKBD (iter_anyList hl.isList fun s₃ e st hfp hne => ?_)
  subst e
  refine ⟨_, _, _, _, _, _, _, J, fun i k _ => ∃ t, k = Value.int (num i) t, fun i j => decide (num i < num j), rfl, (Walks.list (A := X.A.in1) (I2.ok.hd hc) _ a hne its.toArray).toS, st, hfp, ⟨?_, ?_, ?_, ?_⟩, ?_, ?_, ?_⟩
  · intro s s' ⟨j1, j2, j3, j4⟩ m
    refine ⟨fun b o e => m.heap b o (fun hb => ?_) (j1 b o e), (show s'.gens = s.gens from m.gens).trans j2, m.drawn.trans j3, m.os.trans j4⟩
    have hlt := Heap.lt_size e
    rcases List.mem_cons.mp hb with z | z
    · rw [z, Heap.size_push] at hlt
      exact absurd hlt (Nat.not_lt.mpr (Nat.le_succ _))
    · rw [List.mem_singleton.mp z] at hlt
      exact absurd hlt (Nat.lt_irrefl _)
  · intro i k s s' v _
    exact v
  · intro i v s o Q' E' hi hv j st ho q
    have hv' : its[i]? = some v := by simpa using hv
    obtain ⟨t, row, rfl, hx, hr, ht⟩ := item i v hv'
    have I3 := fin s j
    obtain ⟨its3, r3, pl, hz3⟩ := I3.tuple (SqT.of ht)
    have l3 : row.length = its3.length := by rw [← iv_len row]; exact r3.length
    have hn := line63
    have hz4 : its3.length ≤ sizeLine := by rw [← r3.length]; exact hz3
    refine len_tuple pl (by simp only [List.size_toArray]; omega) (q _ _ ⟨j.1, j.2.1, j.2.2.1, j.2.2.2⟩ st ho ⟨s.toks + 1, ?_⟩ fun j k v => v)
    show Value.int ((its3.toArray.size : Nat) : Int) _ = Value.int ((rows.getD i []).length : Int) _
    rw [List.getD_eq_getElem?_getD, hr, List.size_toArray, ← l3]
    all_goals rfl
  · intro i j ki kj s Q' E' jj ⟨t, e1⟩ ⟨u, e2⟩ q
    subst e1 e2
    exact P.lt_int q
  · exact ⟨fun b o e => Heap.get?_push_of_some _ e, rfl, rfl, rfl⟩
  · intro hn s' j
    have : rows = [] := List.length_eq_zero_iff.mp (by rw [← lx, li]; simpa using hn)
    exact ⟨dv, H2, fin s' j, rd, q0 this⟩
  · intro hn v s' hv j
    have hv' : its[argBest (fun i j => decide (num i < num j)) (its.toArray.size - 1)]? = some v := by simpa using hv
    obtain ⟨t, row, rfl, hx, hr, ht⟩ := item _ v hv'
    obtain ⟨b1, b2⟩ := argBest_lt num (its.toArray.size - 1)
    refine ⟨.ref t, H2, fin s' j, rfl, qn _ row ⟨t, rfl, ht⟩ (List.mem_of_getElem? hr) fun r hr2 => ?_⟩
    obtain ⟨k, hk, ek⟩ := List.mem_iff_getElem.mp hr2
    have h3 := b2 k (by rw [List.size_toArray, ← li, lx]; omega)
    have f1 : num (argBest (fun i j => decide (num i < num j)) (its.toArray.size - 1)) = row.length := by
      show ((rows.getD _ []).length : Int) = _
      rw [List.getD_eq_getElem?_getD, hr] <;> rfl
    have f2 : num k = r.length := by
      show ((rows.getD k []).length : Int) = _
      rw [List.getD_eq_getElem?_getD, List.getElem?_eq_getElem hk, ek] <;> rfl
    rw [f1, f2] at h3
    omega
end
end Lk

/-! ## D53 -/
set_option Elab.async false
set_option linter.all false
set_option maxRecDepth 100000
set_option maxHeartbeats 4000000
namespace Lk
open PySem PySem.Spec PyProof.Rows L2 Gx
open GxR (TabG Tabbed TabB)
variable [Own]
abbrev s_check_ring : Stmt := top 27
theorem sc_check_ring : FnScope ["web", "ring"] ["web", "ring"] (defScope s_check_ring) := ⟨rfl, rfl, rfl, by decide +kernel, rfl, by decide +kernel, by decide +kernel⟩
abbrev s_shows_shortest : Stmt := top 28
theorem sc_shows_shortest : FnScope ["web", "found", "value", "ring"] ["web", "found", "value"] (defScope s_shows_shortest) := ⟨rfl, rfl, rfl, by decide +kernel, rfl, by decide +kernel, by decide +kernel⟩
abbrev s_rings : Stmt := top 29
theorem sc_rings : FnScope ["web"] ["web"] (defScope s_rings) := ⟨rfl, rfl, rfl, by decide +kernel, rfl, by decide +kernel, by decide +kernel⟩
abbrev s_is_even : Stmt := top 30
theorem sc_is_even : FnScope ["web", "ring"] ["web", "ring"] (defScope s_is_even) := ⟨rfl, rfl, rfl, by decide +kernel, rfl, by decide +kernel, by decide +kernel⟩
abbrev s_even_ring : Stmt := top 31
theorem sc_even_ring : FnScope ["web"] ["web"] (defScope s_even_ring) := ⟨rfl, rfl, rfl, by decide +kernel, rfl, by decide +kernel, by decide +kernel⟩
abbrev s_odd_ring : Stmt := top 32
theorem sc_odd_ring : FnScope ["web"] ["web"] (defScope s_odd_ring) := ⟨rfl, rfl, rfl, by decide +kernel, rfl, by decide +kernel, by decide +kernel⟩
abbrev s_shows_even_ring : Stmt := top 33
theorem sc_shows_even_ring : FnScope ["web", "value"] ["web", "value"] (defScope s_shows_even_ring) := ⟨rfl, rfl, rfl, by decide +kernel, rfl, by decide +kernel, by decide +kernel⟩
abbrev s_shows_odd_ring : Stmt := top 34
theorem sc_shows_odd_ring : FnScope ["web", "value"] ["web", "value"] (defScope s_shows_odd_ring) := ⟨rfl, rfl, rfl, by decide +kernel, rfl, by decide +kernel, by decide +kernel⟩
abbrev s_looked_at : Stmt := top 18
theorem sc_looked_at : FnScope ["web", "folk", "one", "_"] ["web", "folk"] (defScope s_looked_at) := ⟨rfl, rfl, rfl, by decide +kernel, rfl, by decide +kernel, by decide +kernel⟩
/-- a shortest one of these -/
def shortest (rows : List (List Int)) (ring : List Int) : Bool := decide (ring ∈ rows ∧ ∀ r ∈ rows, ring.length ≤ r.length)
def spCheckRing (Ps : List Addr) (C : Addr) : Sp := fun vs H Q E => ∃ (v x : V) (W : Web), vs = [v, x] ∧ WebAt H v W ∧ W.Few ∧ Tabs Ps H ∧ ((∃ ring, TI H x ring ∧ ring.length ≤ 100 ∧ (ring ∈ ringsOf W → ∀ H', Ext H H' → Q .non H') ∧ (ring ∉ ringsOf W → ∀ H', Ext H H' → E (.ref C) none H')) ∨ (NoRing H x ∧ ∀ H', Ext H H' → E (.ref C) none H'))
def spIsEven (Ps : List Addr) (C : Addr) : Sp := fun vs H Q E => ∃ (v x : V) (W : Web), vs = [v, x] ∧ WebAt H v W ∧ W.Ok ∧ Tabs Ps H ∧ ((∃ ring, TI H x ring ∧ ring.length ≤ 100 ∧ (ring ∈ ringsOf W → ∀ H', Ext H H' → Q (.bl (evenP W.looks ring)) H') ∧ (ring ∉ ringsOf W → ∀ H', Ext H H' → E (.ref C) none H')) ∨ (NoRing H x ∧ ∀ H', Ext H H' → E (.ref C) none H'))
def spShortest (Ps : List Addr) : Sp := fun vs H Q _ => ∃ (v f x : V) (W : Web) (rows : List (List Int)), vs = [v, f, x] ∧ WebAt H v W ∧ W.Few ∧ Tabs Ps H ∧ LT2 H f rows ∧ (∀ r ∈ rows, r ∈ ringsOf W) ∧ rows.length ≤ 9000000 ∧
  ((∃ ring, TI H x ring ∧ ring.length ≤ 100 ∧ ∀ H', Ext H H' → Q (.bl (shortest rows ring)) H') ∨ (NoRing H x ∧ ∀ H', Ext H H' → Q (.bl (decide (x = .non) && rows.isEmpty)) H'))
def spRings (Ps : List Addr) : Sp := fun vs H Q _ => ∃ (v : V) (W : Web), vs = [v] ∧ WebAt H v W ∧ W.Ok ∧ Tabs Ps H ∧ ∀ H' q, Ext H H' → H q = none → TT2 H' (.ref q) (ringsOf W) → Q (.ref q) H'
def spKindRing (Ps : List Addr) (b : Bool) : Sp := fun vs H Q _ => ∃ (v : V) (W : Web), vs = [v] ∧ WebAt H v W ∧ W.Ok ∧ Tabs Ps H ∧ ∀ H' y, Ext H H' → ((kindOf W b = [] ∧ y = .non) ∨ ∃ ring, TI H' y ring ∧ shortest (kindOf W b) ring = true) → Q y H'
def spShows (Ps : List Addr) (b : Bool) : Sp := fun vs H Q _ => ∃ (v x : V) (W : Web), vs = [v, x] ∧ WebAt H v W ∧ W.Ok ∧ Tabs Ps H ∧
  ((∃ ring, TI H x ring ∧ ring.length ≤ 100 ∧ ∀ H', Ext H H' → Q (.bl (shortest (kindOf W b) ring)) H') ∨ (NoRing H x ∧ ∀ H', Ext H H' → Q (.bl (decide (x = .non) && (kindOf W b).isEmpty)) H'))
def spLookedAt (Ps : List Addr) : Sp := fun vs H Q _ => ∃ (v : V) (W : Web) (f : Int), vs = [v, .int f] ∧ WebAt H v W ∧ W.Ok ∧ (0 ≤ f ∧ f < W.tops.length) ∧ Tabs Ps H ∧ ∀ H' q, Ext H H' → H' q = some (.tup (iv ((looksOf W f).map (·.1)))) → Q (.ref q) H'
theorem kind_sub {W : Web} {b : Bool} {r : List Int} (h : r ∈ kindOf W b) : r ∈ ringsOf W := (List.mem_filter.mp h).1
theorem kind_len {W : Web} (fw : W.Few) (b : Bool) : (kindOf W b).length ≤ 8108730 := Nat.le_trans (List.length_filter_le _ _) (rings_len fw)
section
variable {P : Program} {w : World} {K : PySem.W.Frag} {mg : Str → Option Value} {base : Heap} {Ps : List Addr} {C : Addr}
theorem ok_check_ring {f : Addr} {fd : FuncData} (F : Fun K "check_ring" "check_ring" s_check_ring f fd) (T : Own0 K mg "BadRing" C)
    (c_is_ring : Cal P w K mg base CX0 3 "is_ring" ["web", "value"] (spIsRing Ps)) : FnOk P w K mg base (L2.CX P w) 4 f fd ["web", "ring"] (spCheckRing Ps C) := by
  refine F.okX sc_check_ring (fun vs H Q E h => ?_) (fun cdv A outer s0 H vs Q E hr h => ?_)
  · obtain ⟨v, x, W, rfl, _⟩ := h
    rfl
  · obtain ⟨v, x, W, rfl, hW, fw, hTb, h⟩ := h
    refine ⟨_, (pss_one (ps_if (pt_not (pt_val (pe_c0 c_is_ring (hr.mono (by decide)) (by rfl) (pa_cons (pv 0) (pa_cons (pv 1) pa_nil)))))
        (pss_one (ps_raise0 rfl T (takes_of rfl rfl rfl rfl) rfl)) pss_nil)), ?_⟩
    rcases h with ⟨ring, hx, hl, k1, k2⟩ | ⟨hx, k2⟩
    · refine ⟨_, rfl, _, rfl, _, _, W, rfl, hW, fw, hTb, .inl ⟨ring, hx, hl, fun H' e => ⟨_, rfl, ?_⟩⟩⟩
      by_cases hm : ring ∈ ringsOf W
      · rw [decide_eq_true hm]
        exact iteF (k1 hm H' e)
      · rw [decide_eq_false hm]
        exact iteT (k2 hm H' e)
    · exact ⟨_, rfl, _, rfl, _, _, W, rfl, hW, fw, hTb, .inr ⟨hx, fun H' e => ⟨_, rfl, iteT (k2 H' e)⟩⟩⟩
theorem ok_rings {f : Addr} {fd : FuncData} (F : Fun K "rings" "rings" s_rings f fd)
    (c_check_web : Cal P w K mg base CX0 6 "check_web" ["web"] (spCheckWeb Ps)) (c_all_rings : Cal P w K mg base CX0 2 "all_rings" ["web"] spAllRings) : FnOk P w K mg base CX0 7 f fd ["web"] (spRings Ps) := by
  refine F.ok sc_rings (fun vs H Q E h => ?_) (fun cdv A outer s0 H vs Q E hr h => ?_)
  · obtain ⟨v, W, rfl, _⟩ := h
    rfl
  · obtain ⟨v, W, rfl, hW, ok, hTb, k⟩ := h
    refine ⟨_, (pss_cons (ps_expr (pe_c0 c_check_web (hr.mono (by decide)) (by rfl) (pa_cons (pv 0) pa_nil)))
      (pss_one (ps_ret (pe_c0 c_all_rings (hr.mono (by decide)) (by rfl) (pa_cons (pv 0) pa_nil))))), ?_⟩
    exact ⟨_, rfl, _, W, rfl, hW, ok, hTb, fun H1 e1 => ⟨_, rfl, _, W, rfl, hW.ext e1, ok.fewL, fun H2 q e2 h0 hq => k H2 q (e1.trans e2) (e1.free h0) hq⟩⟩
theorem ok_is_even {f : Addr} {fd : FuncData} (F : Fun K "is_even" "is_even" s_is_even f fd)
    (c_check_web : Cal P w K mg base CX0 6 "check_web" ["web"] (spCheckWeb Ps)) (c_check_ring : Cal P w K mg base (L2.CX P w) 4 "check_ring" ["web", "ring"] (spCheckRing Ps C)) (c_has_even_spites : Cal P w K mg base CX0 1 "has_even_spites" ["web", "ring"] spHasEven) : FnOk P w K mg base (L2.CX P w) 7 f fd ["web", "ring"] (spIsEven Ps C) := by
  refine F.okX sc_is_even (fun vs H Q E h => ?_) (fun cdv A outer s0 H vs Q E hr h => ?_)
  · obtain ⟨v, x, W, rfl, _⟩ := h
    rfl
  · obtain ⟨v, x, W, rfl, hW, ok, hTb, h⟩ := h
    refine ⟨_, (pss_cons (ps_expr (pe_c0 c_check_web (hr.mono (by decide)) (by rfl) (pa_cons (pv 0) pa_nil)))
      (pss_cons (ps_expr (pe_cal c_check_ring (hr.mono (by decide)) (by rfl) (E := E) (passes_call (takes_of rfl rfl rfl rfl) fun _ _ _ _ h => h) (pa_cons (pv 0) (pa_cons (pv 1) pa_nil))))
      (pss_one (ps_ret (pe_c0 c_has_even_spites (hr.mono (by decide)) (by rfl) (pa_cons (pv 0) (pa_cons (pv 1) pa_nil))))))), ?_⟩
    refine ⟨_, rfl, _, W, rfl, hW, ok, hTb, fun H1 e1 => ?_⟩
    rcases h with ⟨ring, hx, hl, k1, k2⟩ | ⟨hx, k2⟩
    · refine ⟨_, rfl, _, rfl, _, _, W, rfl, hW.ext e1, ok.fewL, hTb.ext e1, .inl ⟨ring, hx.ext e1, hl, fun hm H2 e2 => ?_, fun hm H2 e2 => k2 hm H2 (e1.trans e2)⟩⟩
      have e3 := e1.trans e2
      exact ⟨_, rfl, _, rfl, _, _, W, ring, rfl, hW.ext e3, hx.ext e3, hl, (ring_ok hm).1.num, fun H4 e4 => k1 hm H4 (e3.trans e4)⟩
    · exact ⟨_, rfl, _, rfl, _, _, W, rfl, hW.ext e1, ok.fewL, hTb.ext e1, .inr ⟨hx.ext e1, fun H2 e2 => k2 H2 (e1.trans e2)⟩⟩
theorem ok_even_ring {f : Addr} {fd : FuncData} (F : Fun K "even_ring" "even_ring" s_even_ring f fd) (B : Blt mg) (bmin : mg "min" = none)
    (c_check_web : Cal P w K mg base CX0 6 "check_web" ["web"] (spCheckWeb Ps)) (c_even_rings : Cal P w K mg base CX0 3 "even_rings" ["web"] (spKind true)) : FnOk P w K mg base CX0 7 f fd ["web"] (spKindRing Ps true) := by
  refine F.ok sc_even_ring (fun vs H Q E h => ?_) (fun cdv A outer s0 H vs Q E hr h => ?_)
  · obtain ⟨v, W, rfl, _⟩ := h
    rfl
  · obtain ⟨v, W, rfl, hW, ok, hTb, k⟩ := h
    refine ⟨_, (pss_cons (ps_expr (pe_c0 c_check_web (hr.mono (by decide)) (by rfl) (pa_cons (pv 0) pa_nil)))
      (pss_one (ps_ret (pe_minLen rfl (by rfl) bmin (by rfl) B.len (pe_c0 c_even_rings (hr.mono (by decide)) (by rfl) (pa_cons (pv 0) pa_nil)) pe_non)))), ?_⟩
    refine ⟨_, rfl, _, W, rfl, hW, ok, hTb, fun H1 e1 => ?_⟩
    refine ⟨_, rfl, _, W, rfl, hW.ext e1, ok.fewL, fun H2 p us e2 _ hp hus => ⟨p, us, _, rfl, hp, hus, fun e0 => k H2 .non (e1.trans e2) (.inl ⟨e0, rfl⟩), fun y row hy hr1 hr2 => k H2 y (e1.trans e2) (.inr ⟨row, hy, decide_eq_true ⟨hr1, hr2⟩⟩)⟩⟩
theorem ok_odd_ring {f : Addr} {fd : FuncData} (F : Fun K "odd_ring" "odd_ring" s_odd_ring f fd) (B : Blt mg) (bmin : mg "min" = none)
    (c_check_web : Cal P w K mg base CX0 6 "check_web" ["web"] (spCheckWeb Ps)) (c_odd_rings : Cal P w K mg base CX0 3 "odd_rings" ["web"] (spKind false)) : FnOk P w K mg base CX0 7 f fd ["web"] (spKindRing Ps false) := by
  refine F.ok sc_odd_ring (fun vs H Q E h => ?_) (fun cdv A outer s0 H vs Q E hr h => ?_)
  · obtain ⟨v, W, rfl, _⟩ := h
    rfl
  · obtain ⟨v, W, rfl, hW, ok, hTb, k⟩ := h
    refine ⟨_, (pss_cons (ps_expr (pe_c0 c_check_web (hr.mono (by decide)) (by rfl) (pa_cons (pv 0) pa_nil)))
      (pss_one (ps_ret (pe_minLen rfl (by rfl) bmin (by rfl) B.len (pe_c0 c_odd_rings (hr.mono (by decide)) (by rfl) (pa_cons (pv 0) pa_nil)) pe_non)))), ?_⟩
    refine ⟨_, rfl, _, W, rfl, hW, ok, hTb, fun H1 e1 => ?_⟩
    refine ⟨_, rfl, _, W, rfl, hW.ext e1, ok.fewL, fun H2 p us e2 _ hp hus => ⟨p, us, _, rfl, hp, hus, fun e0 => k H2 .non (e1.trans e2) (.inl ⟨e0, rfl⟩), fun y row hy hr1 hr2 => k H2 y (e1.trans e2) (.inr ⟨row, hy, decide_eq_true ⟨hr1, hr2⟩⟩)⟩⟩
theorem ok_shows_even_ring {f : Addr} {fd : FuncData} (F : Fun K "shows_even_ring" "shows_even_ring" s_shows_even_ring f fd)
    (c_check_web : Cal P w K mg base CX0 6 "check_web" ["web"] (spCheckWeb Ps)) (c_even_rings : Cal P w K mg base CX0 3 "even_rings" ["web"] (spKind true)) (c_shows_shortest : Cal P w K mg base CX0 4 "shows_shortest" ["web", "found", "value"] (spShortest Ps)) : FnOk P w K mg base CX0 7 f fd ["web", "value"] (spShows Ps true) := by
  refine F.ok sc_shows_even_ring (fun vs H Q E h => ?_) (fun cdv A outer s0 H vs Q E hr h => ?_)
  · obtain ⟨v, x, W, rfl, _⟩ := h
    rfl
  · obtain ⟨v, x, W, rfl, hW, ok, hTb, h⟩ := h
    refine ⟨_, (pss_cons (ps_expr (pe_c0 c_check_web (hr.mono (by decide)) (by rfl) (pa_cons (pv 0) pa_nil)))
      (pss_one (ps_ret (pe_c0 c_shows_shortest (hr.mono (by decide)) (by rfl) (pa_cons (pv 0) (pa_cons (pe_c0 c_even_rings (hr.mono (by decide)) (by rfl) (pa_cons (pv 0) pa_nil)) (pa_cons (pv 1) pa_nil))))))), ?_⟩
    refine ⟨_, rfl, _, W, rfl, hW, ok, hTb, fun H1 e1 => ?_⟩
    refine ⟨_, rfl, _, rfl, _, W, rfl, hW.ext e1, ok.fewL, fun H2 p us e2 _ hp hus => ?_⟩
    have e3 := e1.trans e2
    refine ⟨_, rfl, _, _, _, W, _, rfl, hW.ext e3, ok.fewL, hTb.ext e3, ⟨p, us, rfl, hp, hus⟩, fun r hr => kind_sub hr, Nat.le_trans (kind_len ok.fewL _) (by decide), ?_⟩
    rcases h with ⟨ring, hx, hl, k⟩ | ⟨hx, k⟩
    · exact .inl ⟨ring, hx.ext e3, hl, fun H4 e4 => k H4 (e3.trans e4)⟩
    · exact .inr ⟨hx.ext e3, fun H4 e4 => k H4 (e3.trans e4)⟩
theorem ok_shows_odd_ring {f : Addr} {fd : FuncData} (F : Fun K "shows_odd_ring" "shows_odd_ring" s_shows_odd_ring f fd)
    (c_check_web : Cal P w K mg base CX0 6 "check_web" ["web"] (spCheckWeb Ps)) (c_odd_rings : Cal P w K mg base CX0 3 "odd_rings" ["web"] (spKind false)) (c_shows_shortest : Cal P w K mg base CX0 4 "shows_shortest" ["web", "found", "value"] (spShortest Ps)) : FnOk P w K mg base CX0 7 f fd ["web", "value"] (spShows Ps false) := by
  refine F.ok sc_shows_odd_ring (fun vs H Q E h => ?_) (fun cdv A outer s0 H vs Q E hr h => ?_)
  · obtain ⟨v, x, W, rfl, _⟩ := h
    rfl
  · obtain ⟨v, x, W, rfl, hW, ok, hTb, h⟩ := h
    refine ⟨_, (pss_cons (ps_expr (pe_c0 c_check_web (hr.mono (by decide)) (by rfl) (pa_cons (pv 0) pa_nil)))
      (pss_one (ps_ret (pe_c0 c_shows_shortest (hr.mono (by decide)) (by rfl) (pa_cons (pv 0) (pa_cons (pe_c0 c_odd_rings (hr.mono (by decide)) (by rfl) (pa_cons (pv 0) pa_nil)) (pa_cons (pv 1) pa_nil))))))), ?_⟩
    refine ⟨_, rfl, _, W, rfl, hW, ok, hTb, fun H1 e1 => ?_⟩
    refine ⟨_, rfl, _, rfl, _, W, rfl, hW.ext e1, ok.fewL, fun H2 p us e2 _ hp hus => ?_⟩
    have e3 := e1.trans e2
    refine ⟨_, rfl, _, _, _, W, _, rfl, hW.ext e3, ok.fewL, hTb.ext e3, ⟨p, us, rfl, hp, hus⟩, fun r hr => kind_sub hr, Nat.le_trans (kind_len ok.fewL _) (by decide), ?_⟩
    rcases h with ⟨ring, hx, hl, k⟩ | ⟨hx, k⟩
    · exact .inl ⟨ring, hx.ext e3, hl, fun H4 e4 => k H4 (e3.trans e4)⟩
    · exact .inr ⟨hx.ext e3, fun H4 e4 => k H4 (e3.trans e4)⟩
theorem ok_shows_shortest {f : Addr} {fd : FuncData} (F : Fun K "shows_shortest" "shows_shortest" s_shows_shortest f fd) (B : Blt mg) (bmin : mg "min" = none)
    (c_is_ring : Cal P w K mg base CX0 3 "is_ring" ["web", "value"] (spIsRing Ps)) : FnOk P w K mg base CX0 4 f fd ["web", "found", "value"] (spShortest Ps) := by
  refine F.ok sc_shows_shortest (fun vs H Q E h => ?_) (fun cdv A outer s0 H vs Q E hr h => ?_)
  · obtain ⟨v, f, x, W, rows, rfl, _⟩ := h
    rfl
  · obtain ⟨v, f, x, W, rows, rfl, hW, fw, hTb, ⟨p, us, rfl, hp, hus⟩, hsub, hlen, h⟩ := h
    refine ⟨_, (pss_cons (ps_if (pt_not (pt_truth (pv 1) (fun _ => rfl)))
        (pss_one (ps_ret (pe_cmpR op_isN (pv 2) pe_non (nomark _)))) pss_nil)
      (pss_one (ps_ret (pe_and (pe_c0 c_is_ring (hr.mono (by decide)) (by rfl) (pa_cons (pv 0) (pa_cons (pv 2) pa_nil))) (pe_and (pe_cmpR (op_inTI (un1 hr)) (pv 2) (pv 1) (by with_unfolding_all rfl)) (pe_one (pe_cmpR op_eq (pe_callB call_lenT (by rfl) B.len PySem.boot_len (pa_cons (pv 2) pa_nil)) (pe_callB (cr_min rfl) (by rfl) bmin boot_min (pa_cons (pe_lc (own := [("ring", 3)]) rfl sc_shows_shortest.nd (pi_list (pv 1)) (blkOk_by (N := ["web", "found", "value", "ring"]) (sc := defScope s_shows_shortest) (by decide +kernel)) (fun _ _ _ _ _ => (pg_name (i := 3) sc_shows_shortest.nd rfl (by first | exact Or.inl rfl | exact Or.inr rfl))) (fun _ _ _ _ _ => pts_nil) (fun _ _ _ _ _ => (pe_callB call_lenT (by rfl) B.len PySem.boot_len (pa_cons (pv 3) pa_nil)))) pa_nil)) (nomark _)))))))), ?_⟩
    have lu := paired_len hus
    refine ⟨_, rfl, _, tru_list hp, ?_⟩
    cases us with
    | nil =>
      have hr0 : rows = [] := List.length_eq_zero_iff.mp lu.symm
      subst hr0
      refine iteT ?_
      rcases h with ⟨ring, ⟨z, rfl, hz⟩, hl, k⟩ | ⟨hx, k⟩
      · refine ⟨_, rfl, rfl, ?_⟩
        have := k H (Ext.refl _)
        unfold shortest at this
        rw [decide_eq_false (by simp)] at this
        exact this
      · refine ⟨_, rfl, rfl, ?_⟩
        have := k H (Ext.refl _)
        simpa using this
    | cons u us' =>
      have hr0 : rows ≠ [] := fun z => by rw [z] at lu; cases lu
      refine iteF ?_
      rcases h with ⟨ring, hx, hl, k⟩ | ⟨hx, k⟩
      · refine ⟨_, rfl, _, rfl, _, _, W, rfl, hW, fw, hTb, .inl ⟨ring, hx, hl, fun H1 e1 => ⟨_, rfl, ?_⟩⟩⟩
        by_cases hm : ring ∈ ringsOf W
        · rw [decide_eq_true hm]
          refine iteT ?_
          refine ⟨_, rfl, _, rfl, ring, rows, hx.ext e1, ⟨p, _, rfl, e1.lst hp, pTI.ext e1 hus⟩, _, rfl, ?_⟩
          by_cases hm2 : ring ∈ rows
          · rw [decide_eq_true hm2]
            refine iteT ?_
            obtain ⟨z, rfl, hz⟩ := hx.ext e1
            refine ⟨_, rfl, z, _, rfl, .inr hz, ?_⟩
            refine ⟨_, rfl, p, rfl, ⟨_, SqL.of (e1.lst hp)⟩, fun D hD => ?_⟩
            refine lc_fmL (R := TI) (S := VI) stTI stVI (fun q => some (q.length : Int)) hD (e1.lst hp) (pTI.ext e1 hus) (by rw [lu]; exact Nat.le_trans hlen (by decide)) (fun x q H3 Ky Kn e3 hmem hx k1 k2 => ?_) fun H3 acc e3 hacc hp1 => ?_
            · obtain ⟨z, rfl, hz⟩ := hx
              refine ⟨rfl, yes ⟨_, rfl, z, _, rfl, .inr hz, k1 _ _ _ rfl (Ext.refl _) ?_⟩⟩
              show V.int ((iv q).length : Nat) = _
              rw [iv_len]
            · have ea := pVI hp1
              subst ea
              rw [List.filterMap_eq_map'] at hacc
              refine ⟨D, _, rfl, SqL.of hacc, by rw [List.length_map]; exact List.length_pos_iff.mpr hr0, fun m hm3 hle => ⟨rfl, ?_⟩⟩
              have := k H3 (e1.trans e3)
              have es : decide (V.int ((iv ring).length : Nat) = V.int m) = shortest rows ring := by
                rw [dec_int, iv_len]
                unfold shortest
                obtain ⟨r0, hr1, er⟩ := List.mem_map.mp hm3
                rw [Bool.eq_iff_iff, beq_iff_eq, decide_eq_true_iff]
                constructor
                · intro e
                  refine ⟨hm2, fun r hr3 => ?_⟩
                  have := hle (r.length : Int) (List.mem_map.mpr ⟨r, hr3, rfl⟩)
                  omega
                · rintro ⟨_, h4⟩
                  have h5 := h4 r0 hr1
                  have h6 := hle (ring.length : Int) (List.mem_map.mpr ⟨ring, hm2, rfl⟩)
                  omega
              rw [es]
              exact this
          · rw [decide_eq_false hm2]
            refine iteF ?_
            have := k H1 e1
            unfold shortest at this
            rw [decide_eq_false (fun q => hm2 q.1)] at this
            exact this
        · rw [decide_eq_false hm]
          refine iteF ?_
          have := k H1 e1
          unfold shortest at this
          rw [decide_eq_false (fun q => hm (hsub _ q.1))] at this
          exact this
      · refine ⟨_, rfl, _, rfl, _, _, W, rfl, hW, fw, hTb, .inr ⟨hx, fun H1 e1 => ⟨_, rfl, iteF ?_⟩⟩⟩
        have := k H1 e1
        cases rows with
        | nil => exact absurd rfl hr0
        | cons a b => simpa using this
theorem ok_looked_at {f : Addr} {fd : FuncData} (F : Fun K "looked_at" "looked_at" s_looked_at f fd) (B : Blt mg)
    (c_check_web : Cal P w K mg base CX0 6 "check_web" ["web"] (spCheckWeb Ps)) (c_check_folk : Cal P w K mg base CX0 2 "check_folk" ["web", "folk"] spCheckFolk) (c_looks_of : Cal P w K mg base CX0 1 "looks_of" ["web", "folk"] spLooksOf) : FnOk P w K mg base CX0 7 f fd ["web", "folk"] (spLookedAt Ps) := by
  refine F.ok sc_looked_at (fun vs H Q E h => ?_) (fun cdv A outer s0 H vs Q E hr h => ?_)
  · obtain ⟨v, W, n, rfl, _⟩ := h
    rfl
  · obtain ⟨v, W, n, rfl, hW, ok, hn, hTb, k⟩ := h
    refine ⟨_, (pss_cons (ps_expr (pe_c0 c_check_web (hr.mono (by decide)) (by rfl) (pa_cons (pv 0) pa_nil)))
      (pss_cons (ps_expr (pe_c0 c_check_folk (hr.mono (by decide)) (by rfl) (pa_cons (pv 0) (pa_cons (pv 1) pa_nil))))
      (pss_one (ps_ret (pe_tupleL (by rfl) B.tuple (pe_lc (own := [("one", 2), ("_", 3)]) rfl sc_looked_at.nd (pi_list (pe_c0 c_looks_of (hr.mono (by decide)) (by rfl) (pa_cons (pv 0) (pa_cons (pv 1) pa_nil)))) (blkOk_by (N := ["web", "folk", "one", "_"]) (sc := defScope s_looked_at) (by decide +kernel)) (fun _ _ _ _ _ => (pg_tupT (n := 2) rfl (pgs_cons (pg_name (i := 2) sc_looked_at.nd rfl (by first | exact Or.inl rfl | exact Or.inr rfl)) (pgs_cons (pg_name (i := 3) sc_looked_at.nd rfl (by first | exact Or.inl rfl | exact Or.inr rfl)) pgs_nil)))) (fun _ _ _ _ _ => pts_nil) (fun _ _ _ _ _ => (pv 2)))))))), ?_⟩
    refine ⟨_, rfl, _, W, rfl, hW, ok, hTb, fun H1 e1 => ?_⟩
    refine ⟨_, rfl, _, rfl, _, W, n, rfl, hW.ext e1, hn, ?_⟩
    refine ⟨_, rfl, _, rfl, _, W, n, rfl, hW.ext e1, ok.most, fun H2 p us e2 _ hp hus => ?_⟩
    have ll : us.length ≤ 14 := by
      rw [paired_len hus, List.length_map]
      unfold looksOf
      rw [List.length_map]
      exact Nat.le_trans (List.length_filter_le _ _) ok.most
    refine ⟨p, rfl, ⟨_, SqL.of hp⟩, fun D hD => ?_⟩
    refine lc_fmL (R := TI) (S := VI) stTI stVI (fun q => some (q.getD 0 0)) hD hp hus (Nat.le_of_lt (small1000 (by omega))) (fun x q H3 Ky Kn e3 hmem hx k1 k2 => ?_) fun H3 acc e3 hacc hp1 => ?_
    · obtain ⟨q2, _, rfl⟩ := List.mem_map.mp hmem
      obtain ⟨z, rfl, hz⟩ := hx
      exact ⟨z, _, rfl, hz, rfl, _, _, rfl, _, _, rfl, rfl, rfl, yes ⟨_, rfl, k1 _ _ _ rfl (Ext.refl _) rfl⟩⟩
    · have ea := pVI hp1
      subst ea
      refine ⟨D, _, rfl, hacc, fun q hq => ?_⟩
      have X2 := Ext.new hq (.tup (iv (((looksOf W n).map row2).filterMap fun q => some (q.getD 0 0))))
      refine k _ q ((e1.trans (e2.trans e3)).trans X2) ?_
      rw [upd_same, List.filterMap_eq_map', List.map_map]
      rfl
end
end Lk

/-! ## MinT -/
set_option Elab.async false
set_option linter.all false
set_option maxRecDepth 100000
set_option maxHeartbeats 2000000
/-! min(t) of a tuple of ints. -/
namespace Lk
open PySem PySem.Spec PyProof.Rows L2 Gx
variable [Own]
def rMinTI : List V → Hp → VK → Prop := fun vs H Q => ∃ (x : V) (ns : List Int), vs = [x] ∧ TI H x ns ∧ ns ≠ [] ∧ ∀ m, m ∈ ns → (∀ y ∈ ns, m ≤ y) → Q (.int m) H
theorem cr_minTI {X : Cx} (hc : X.calm = true) : CallR X (.builtin "min") rMinTI := by
  intro pins s σ H vs us Q I r h
  obtain ⟨x, ns, rfl, ⟨a, rfl, ha⟩, hne, q⟩ := h
  rw [Vals.ref1 r]
  obtain ⟨its, rv, hl, hz⟩ := I.tuple (SqT.of ha)
  have hlt : a < s.heap.objs.size := by
    obtain ⟨_, e, _⟩ := hl
    exact Heap.lt_size e
  have hlen : ns.length = its.length := by rw [← iv_len ns]; exact rv.length
  have hpos : 0 < ns.length := List.length_pos_iff.mpr hne
  have hval : ∀ (i : Nat) (v : Value), its.toArray[i]? = some v → ∃ t, v = Value.int (ns.getD i 0) t := fun i v hv => by
    have hv' : its[i]? = some v := by simpa using hv
    have hi := (List.getElem?_eq_some_iff.mp hv').1
    have hx : ns[i]? = some ns[i] := List.getElem?_eq_getElem (by omega)
    obtain ⟨u, hu, t, ru⟩ := rv.get (iv_at hx)
    rw [hv'] at hu
    cases hu
    exact ⟨t, by rw [ru, List.getD_eq_getElem?_getD, hx] <;> rfl⟩
  refine call_min_walk (wpAny_pyIter_tuple hl ?_)
  refine ⟨_, _, _, _, _, _, _, rfl, Walks.tuple (A := X.A.in1) (I.ok.hd hc) s.heap.objs.size a (Nat.ne_of_lt hlt) its.toArray, ⟨⟨_, Heap.get?_push_size _ rfl, rfl, rfl⟩, ?_⟩, fun b hb => ?_, by rw [List.size_toArray]; omega, CmpOf.ints_lt (fun i => ns.getD i 0) hval, fun v h' tk hP hk => ?_⟩
  · obtain ⟨o, e, r⟩ := hl
    exact ⟨o, Heap.get?_push_of_some _ e, r⟩
  · show b < (s.heap.push _).objs.size
    rw [Heap.size_push]
    rcases List.mem_cons.mp hb with e | hb
    · rw [e]
      exact Nat.lt_succ_self _
    · rw [List.mem_singleton.mp hb]
      exact Nat.lt_succ_of_lt hlt
  · obtain ⟨t, rfl⟩ := hval _ v hP
    obtain ⟨b1, b2⟩ := argBest_lt (fun i => ns.getD i 0) (its.toArray.size - 1)
    have hb : argBest (fun i j => decide (ns.getD i 0 < ns.getD j 0)) (its.toArray.size - 1) < ns.length := by
      rw [List.size_toArray] at b1 ⊢
      omega
    refine ⟨.int _, H, I.kept (t' := tk) fun b u e => hk b u (fun hmem => ?_) (Heap.get?_push_of_some _ e), ⟨t, rfl⟩, q _ ?_ fun j hj => ?_⟩
    · have e1 : b = s.heap.objs.size := List.mem_singleton.mp hmem
      have e2 := Heap.lt_size e
      rw [e1] at e2
      exact absurd e2 (Nat.lt_irrefl _)
    · rw [List.getD_eq_getElem?_getD, List.getElem?_eq_getElem hb]
      exact List.getElem_mem hb
    · obtain ⟨i, hi, e⟩ := List.mem_iff_getElem.mp hj
      have e2 : ns.getD i 0 = j := by rw [List.getD_eq_getElem?_getD, List.getElem?_eq_getElem hi, ← e] <;> rfl
      rw [← e2]
      refine b2 i ?_
      rw [List.size_toArray]
      omega
end Lk

/-! ## D22 -/
set_option Elab.async false
set_option linter.all false
set_option maxRecDepth 100000
set_option maxHeartbeats 2000000
namespace Lk
open PySem PySem.Spec PyProof.Rows L2 Gx
open GxR (TabG Tabbed TabB)
variable [Own]
abbrev s__law_seen : Stmt := top 41
theorem sc__law_seen : FnScope ["web", "folk", "one", "other", "sign"] ["web", "folk"] (defScope s__law_seen) := ⟨rfl, rfl, rfl, by decide +kernel, rfl, by decide +kernel, by decide +kernel⟩
abbrev spLawSeen : Sp := spLooksOf
section
variable {P : Program} {w : World} {K : PySem.W.Frag} {mg : Str → Option Value} {base : Heap} {Ps : List Addr}
theorem ok_law_seen {f : Addr} {fd : FuncData} (F : Fun K "_law_seen" "_law_seen" s__law_seen f fd) : FnOk P w K mg base CX0 1 f fd ["web", "folk"] spLawSeen := by
  refine F.ok sc__law_seen (fun vs H Q E h => ?_) (fun cdv A outer s H vs Q E hr h => ?_)
  · obtain ⟨v, W, n, rfl, _⟩ := h
    rfl
  · obtain ⟨v, W, n, rfl, ⟨a, t, l, rfl, ha, ht, ⟨b, ls, rfl, hb, hls⟩⟩, h14, k⟩ := h
    refine ⟨_, (pss_one (ps_ret (pe_lc (own := [("one", 2), ("other", 3), ("sign", 4)]) rfl sc__law_seen.nd (pi_tup (pe_ix ix_tT (pv 0) pe_int (fun _ _ => rfl))) (blkOk_by (N := ["web", "folk", "one", "other", "sign"]) (sc := defScope s__law_seen) (by decide +kernel)) (fun _ _ _ _ _ => (pg_tupT (n := 3) rfl (pgs_cons (pg_name (i := 2) sc__law_seen.nd rfl (by first | exact Or.inl rfl | exact Or.inr rfl)) (pgs_cons (pg_name (i := 3) sc__law_seen.nd rfl (by first | exact Or.inl rfl | exact Or.inr rfl)) (pgs_cons (pg_name (i := 4) sc__law_seen.nd rfl (by first | exact Or.inl rfl | exact Or.inr rfl)) pgs_nil))))) (fun _ _ _ _ _ => (pts_one (pt_cmpR op_eq (pv 3) (pv 1) (nomark _)))) (fun _ _ _ _ _ => (pe_tup (pa_cons (pv 2) (pa_cons (pv 4) pa_nil))))))), ?_⟩
    refine ⟨_, rfl, a, _, _, _, rfl, rfl, ha, rfl, b, rfl, ⟨_, SqT.of hb⟩, fun D hD => ?_⟩
    have llen : ls.length = W.looks.length := by rw [paired_len hls, List.length_map]
    refine lc_tup (xs := ls) (fun i H' => ∃ acc, H' D = some (.lst acc) ∧ Ext H H' ∧ acc.length ≤ i ∧ Paired (TI H') acc ((((W.looks.take i).filter fun l => l.2.1 == n).map fun l => (l.1, l.2.2)).map row2)) ⟨[], upd_same, Ext.new hD _, Nat.le_refl _, .nil⟩ (fun i H' _ ⟨_, _, e, _⟩ => SqT.of (e.tup hb)) (fun i x H' hi ⟨acc, hacc, e, hl, hp⟩ => ?_) fun H' ⟨acc, hacc, e, hl, hp⟩ => ?_
    · obtain ⟨row, hrow, hx⟩ := paired_get' (pTI.ext e hls) hi
      obtain ⟨lk, hlk, rfl⟩ : ∃ lk, W.looks[i]? = some lk ∧ row = row3 lk := by
        rw [List.getElem?_map] at hrow
        cases q : W.looks[i]? with
        | none => rw [q] at hrow; cases hrow
        | some lk => rw [q] at hrow; exact ⟨lk, rfl, (Option.some.inj hrow).symm⟩
      obtain ⟨p, rfl, hp1⟩ := hx
      have hi14 : i < 14 := by
        have := (List.getElem?_eq_some_iff.mp hlk).1
        omega
      refine ⟨p, _, rfl, hp1, rfl, _, _, rfl, _, _, rfl, _, _, rfl, rfl, rfl, ?_⟩
      refine ⟨_, rfl, _, rfl, rfl, _, rfl, ?_⟩
      rw [take_snoc hlk, List.filter_append]
      by_cases hf : lk.2.1 = n
      · have e1 : decide (V.int lk.2.1 = V.int n) = true := decide_eq_true (by rw [hf])
        have e2 : (lk.2.1 == n) = true := by rw [hf]; exact beq_self_eq_true n
        rw [e1]
        refine iteT ⟨_, rfl, _, rfl, (by show 2 ≤ sizeLine; decide), fun q hq => ?_⟩
        have dq : D ≠ q := ne_of_none hacc hq
        refine ⟨acc, by rw [upd_ne dq]; exact hacc, small1000 (by omega), acc ++ [.ref q], upd_same, (e.trans (Ext.new hq _)).put hD _, by rw [List.length_append]; simp; omega, ?_⟩
        have F1 : [lk].filter (fun l => l.2.1 == n) = [lk] := by rw [List.filter_cons, if_pos e2]; rfl
        rw [F1, List.map_append, List.map_append]
        refine paired_snoc ⟨q, rfl, by rw [upd_ne dq.symm]; exact upd_same⟩ ?_
        refine paired_mono (fun x r h => ?_) hp
        obtain ⟨z, rfl, hz⟩ := h
        exact ⟨z, rfl, by rw [upd_ne (ne_of hacc hz (by intro q; cases q)).symm, upd_ne (ne_of_none hz hq)]; exact hz⟩
      · have e1 : decide (V.int lk.2.1 = V.int n) = false := decide_eq_false (fun z => hf (by cases z; rfl))
        have e2 : (lk.2.1 == n) = false := by simpa using hf
        rw [e1]
        have F1 : [lk].filter (fun l => l.2.1 == n) = [] := by rw [List.filter_cons, e2]; rfl
        rw [F1, List.append_nil]
        exact iteF ⟨acc, hacc, e, by omega, hp⟩
    · rw [llen, List.take_length] at hp
      exact k H' D acc e hD hacc hp
end
end Lk

/-! ## D54 -/
set_option Elab.async false
set_option linter.all false
set_option maxRecDepth 100000
set_option maxHeartbeats 4000000
namespace Lk
open PySem PySem.Spec PyProof.Rows L2 Gx
variable [Own]
abbrev s__law_rings : Stmt := top 38
theorem sc__law_rings : FnScope ["web", "at", "found", "last", "longer", "row", "lookers"] ["web"] (defScope s__law_rings) := ⟨rfl, rfl, rfl, by decide +kernel, rfl, by decide +kernel, by decide +kernel⟩
abbrev s__law_sign : Stmt := top 40
theorem sc__law_sign : FnScope ["web", "ring", "found", "at"] ["web", "ring"] (defScope s__law_sign) := ⟨rfl, rfl, rfl, by decide +kernel, rfl, by decide +kernel, by decide +kernel⟩
def spLawRings : Sp := fun vs H Q _ => ∃ (v : V) (W : Web), vs = [v] ∧ WebAt H v W ∧ W.Few ∧ ∀ H' q us, Ext H H' → H q = none → H' q = some (.lst us) → Paired (TI H') us (ringsOf W) → Q (.ref q) H'
def spLawSign : Sp := fun vs H Q _ => ∃ (v r : V) (W : Web) (ring : List Int), vs = [v, r] ∧ WebAt H v W ∧ TI H r ring ∧ (∀ n ∈ ring, 0 ≤ n ∧ n < W.looks.length) ∧ (∀ n ∈ ring, lks W.looks n = 1 ∨ lks W.looks n = -1) ∧ Q (.int (prodS W.looks ring)) H
theorem getLastD_map {f : Int → Int} {p : List Int} (h : p ≠ []) : (p.map f).getLastD 0 = f (p.getLastD 0) := by
  have h1 := getLastD_get (p := p.map f) (fun q => h (List.map_eq_nil_iff.mp q))
  have h2 := getLastD_get h
  rw [List.length_map, List.getElem?_map, h2] at h1
  exact (Option.some.inj h1).symm
section
variable {P : Program} {w : World} {K : PySem.W.Frag} {mg : Str → Option Value} {base : Heap} {Ps : List Addr}
theorem ok_law_sign {f : Addr} {fd : FuncData} (F : Fun K "_law_sign" "_law_sign" s__law_sign f fd) : FnOk P w K mg base CX0 1 f fd ["web", "ring"] spLawSign := by
  refine F.ok sc__law_sign (fun vs H Q E h => ?_) (fun cdv A outer s H vs Q E hr h => ?_)
  · obtain ⟨v, r, W, ring, rfl, _⟩ := h
    rfl
  · obtain ⟨v, r, W, ring, rfl, ⟨a, t, l, rfl, ha, ht, ⟨b, ls, rfl, hb, hls⟩⟩, ⟨c, rfl, hc⟩, hin, hsg, k⟩ := h
    refine ⟨_, (pss_cons (ps_set (i := 2) sc__law_sign.nd rfl (by first | exact Or.inl rfl | exact Or.inr rfl) pe_int)
      (pss_cons (ps_for PassesOwn.never rfl (pi_tup (pv 1)) (pg_name (i := 3) sc__law_sign.nd rfl (by first | exact Or.inl rfl | exact Or.inr rfl))
        (pss_one (ps_set (i := 2) sc__law_sign.nd rfl (by first | exact Or.inl rfl | exact Or.inr rfl) (pe_op op_mul (pv 2) (pe_ix ix_tT (pe_ix ix_tT (pe_ix ix_tT (pv 0) pe_int (fun _ _ => rfl)) (pv 3) (fun _ _ => rfl)) pe_int (fun _ _ => rfl))))))
      (pss_one (ps_ret (pv 2))))), ?_⟩
    refine ⟨_, rfl, c, rfl, ⟨_, SqT.of hc⟩, for_tup (K := K) (a := c) (xs := iv ring) (fun i σ H' => ∃ o : Option V, H' = H ∧ σ = [some (.ref a), some (.ref c), some (.int ((ring.take i).foldl (fun a n => a * lks W.looks n) 1)), o]) ⟨none, rfl, rfl⟩ (fun i σ H' _ ⟨_, e, _⟩ => by rw [e]; exact SqT.of hc) ?_ ?_⟩
    · rintro i x σ H' hi ⟨o, rfl, rfl⟩
      obtain ⟨n, hn, rfl⟩ := iv_get hi
      obtain ⟨q2, e2, h2⟩ := lookAt hls (hin n (List.mem_of_getElem? hn))
      refine ⟨_, rfl, _, rfl, a, _, _, _, rfl, rfl, ha, at_of (j := 1) rfl rfl, _, rfl, b, _, _, _, rfl, rfl, hb, e2, q2, _, _, _, rfl, rfl, h2, at_of (j := 2) rfl rfl, _, _, rfl, rfl, ?_⟩
      have hs1 : lks W.looks n = 1 ∨ lks W.looks n = -1 := hsg n (List.mem_of_getElem? hn)
      have hs2 : (lookN W.looks n).2.2 = lks W.looks n := rfl
      refine ⟨.inr ⟨by rw [hs2]; omega, by rw [hs2]; omega⟩, some (.int n), rfl, ?_⟩
      rw [foldl_take hn]
      rfl
    · rintro σ H' ⟨o, rfl, rfl⟩
      rw [iv_len, List.take_length]
      exact ⟨_, rfl, k⟩
theorem ok_law_rings {f : Addr} {fd : FuncData} (F : Fun K "_law_rings" "_law_rings" s__law_rings f fd) (B : Blt mg) (bmin : mg "min" = none) : FnOk P w K mg base CX0 1 f fd ["web"] spLawRings := by
  refine F.ok sc__law_rings (fun vs H Q E h => ?_) (fun cdv A outer s H vs Q E hr h => ?_)
  · obtain ⟨v, W, rfl, _⟩ := h
    rfl
  · obtain ⟨v, W, rfl, ⟨a, t, l, rfl, ha, ht, ⟨b, ls, rfl, hb, hls⟩⟩, fw, k⟩ := h
    refine ⟨_, (pss_cons (ps_par (i := 2) (j := 3) rfl sc__law_rings.nd rfl rfl (by decide) rfl rfl (pa_cons (pe_lst pa_nil) (pa_cons (pe_lc (own := [("at", 1)]) rfl sc__law_rings.nd (pi_range1 (by rfl) B.range (pa_cons (pe_callB call_lenT (by rfl) B.len PySem.boot_len (pa_cons (pe_ix ix_tT (pv 0) pe_int (fun _ _ => rfl)) pa_nil)) pa_nil)) (blkOk_by (N := ["web", "at", "found", "last", "longer", "row", "lookers"]) (sc := defScope s__law_rings) (by decide +kernel)) (fun _ _ _ _ _ => (pg_name (i := 1) sc__law_rings.nd rfl (by first | exact Or.inl rfl | exact Or.inr rfl))) (fun _ _ _ _ _ => pts_nil) (fun _ _ _ _ _ => (pe_tup (pa_cons (pv 1) pa_nil)))) pa_nil)) (by rfl))
      (pss_cons (ps_while PassesOwn.never (pt_cmpR (op_neLT2 hr.units) (pv 3) (pe_lst pa_nil) (nomark _))
        (pss_cons (ps_set (i := 4) sc__law_rings.nd rfl (by first | exact Or.inl rfl | exact Or.inr rfl) (pe_lst pa_nil))
        (pss_cons (ps_for PassesOwn.never rfl (pi_list (pv 3)) (pg_name (i := 5) sc__law_rings.nd rfl (by first | exact Or.inl rfl | exact Or.inr rfl))
          (pss_cons (ps_setLc (i := 6) (own := [("at", 1)]) rfl sc__law_rings.nd rfl rfl (sw_true rfl rfl rfl (by decide +kernel)) (pi_tup (pv 5)) (blkOk_by (N := ["web", "at", "found", "last", "longer", "row", "lookers"]) (sc := defScope s__law_rings) (by decide +kernel)) (fun _ _ _ _ _ => (pg_name (i := 1) sc__law_rings.nd rfl (by first | exact Or.inl rfl | exact Or.inr rfl))) (fun _ _ _ _ _ => pts_nil) (fun _ _ _ _ _ => (pe_ix ix_tT (pe_ix ix_tT (pe_ix ix_tT (pv 0) pe_int (fun _ _ => rfl)) (pv 1) (fun _ _ => rfl)) pe_int (fun _ _ => rfl))))
          (pss_one (ps_if (pt_cmpR op_eq (pe_ix ix_lT (pv 6) (pe_un un_neg pe_int) (fun _ _ => rfl)) (pe_ix ix_tT (pe_ix ix_tT (pe_ix ix_tT (pv 0) pe_int (fun _ _ => rfl)) (pe_ix ix_tT (pv 5) pe_int (fun _ _ => rfl)) (fun _ _ => rfl)) pe_int (fun _ _ => rfl)) (nomark _))
            (pss_one (ps_if (pt_cmpR op_eq (pe_ix ix_tT (pv 5) pe_int (fun _ _ => rfl)) (pe_callB (cr_minTI rfl) (by rfl) bmin boot_min (pa_cons (pv 5) pa_nil)) (nomark _))
              (pss_one (ps_expr (pe_bmL PySem.F.plainAttrs_list PySem.F.slot_list_append PySem.F.type_list_append mt_append (pv 2) (pa_cons (pv 5) pa_nil)))) pss_nil)) (pss_one (ps_for PassesOwn.never rfl (pi_range1 (by rfl) B.range (pa_cons (pe_callB call_lenT (by rfl) B.len PySem.boot_len (pa_cons (pe_ix ix_tT (pv 0) pe_int (fun _ _ => rfl)) pa_nil)) pa_nil)) (pg_name (i := 1) sc__law_rings.nd rfl (by first | exact Or.inl rfl | exact Or.inr rfl))
              (pss_one (ps_if (PW.pt (pw_and (pt_cmpR op_eq (pe_ix ix_tT (pe_ix ix_tT (pe_ix ix_tT (pv 0) pe_int (fun _ _ => rfl)) (pv 1) (fun _ _ => rfl)) pe_int (fun _ _ => rfl)) (pe_ix ix_lT (pv 6) (pe_un un_neg pe_int) (fun _ _ => rfl)) (nomark _)) (pw_and (pt_cmpR op_notIn_seq (pe_ix ix_tT (pe_ix ix_tT (pe_ix ix_tT (pv 0) pe_int (fun _ _ => rfl)) (pv 1) (fun _ _ => rfl)) pe_int (fun _ _ => rfl)) (pv 6) (by with_unfolding_all rfl)) (pw_and1 (pt_cmpR op_gt (pv 1) (pe_ix ix_tT (pv 5) pe_int (fun _ _ => rfl)) (nomark _))))))
                (pss_one (ps_expr (pe_bmL PySem.F.plainAttrs_list PySem.F.slot_list_append PySem.F.type_list_append mt_append (pv 4) (pa_cons (pe_op op_catTT (pv 5) (pe_tup (pa_cons (pv 1) pa_nil))) pa_nil)))) pss_nil))))))))
        (pss_one (ps_set (i := 3) sc__law_rings.nd rfl (by first | exact Or.inl rfl | exact Or.inr rfl) (pv 4))))))
      (pss_one (ps_ret (pe_callB (cr_sortTI hr.units) (by rfl) B.sorted boot_sorted (pa_cons (pv 2) pa_nil)))))), ?_⟩
    have l14 := fw.most
    have llen : ls.length = W.looks.length := by rw [paired_len hls, List.length_map]
    have hz0 : sizeLine = 16777216 := rfl
    refine ⟨(by show 0 ≤ sizeLine; decide), fun fa hfa0 => ?_⟩
    have E1 : Ext H (upd H fa (.lst [])) := Ext.new hfa0 _
    refine ⟨_, rfl, a, _, _, _, rfl, rfl, E1.tup ha, at_of (j := 1) rfl rfl, b, _, rfl, .inr (E1.tup hb), _, rfl, by omega, by omega, fun D hD => ?_⟩
    have e0 : ((ls.length : Int)).toNat = ls.length := by omega
    rw [e0]
    refine lc_fmR (lo := 0) (n := ls.length) (S := TI) stTI (fun n => some [n]) hD (Nat.le_of_lt (small1000 (by omega))) (fun n H' Ky Kn e h1 h2 k1 k2 => ?_) fun H' acc e hacc hp => ?_
    · refine ⟨rfl, yes ⟨_, rfl, (by show 1 ≤ sizeLine; decide), fun u hu => k1 _ _ _ rfl (Ext.new hu _) ⟨u, rfl, upd_same⟩⟩⟩
    have e00 : ((nums 0 (0 + (ls.length : Int))).filterMap fun n => some [n]) = level W.looks 0 := by
      rw [List.filterMap_eq_map', llen, Int.zero_add] <;> rfl
    rw [e00] at hp
    have hDfa : fa ≠ D := fun z => by rw [← z, upd_same] at hD; cases hD
    have hD0 : H D = none := E1.free hD
    refine ⟨_, _, rfl, ?_⟩
    refine ⟨fun m σ H2 => ∃ (i : Nat) (la : Addr) (fv lv : List V) (o1 o4 o5 o6 : Option V), m + i = 7 ∧ σ = [some (.ref a), o1, some (.ref fa), some (.ref la), o4, o5, o6] ∧ Ext H H2 ∧ H2 fa = some (.lst fv) ∧ Paired (TI H2) fv (foundN W.looks i) ∧ H2 la = some (.lst lv) ∧ Paired (TI H2) lv (level W.looks i) ∧ fa ≠ la ∧ H la = none,
      ⟨7, 0, D, [], acc, _, none, none, none, rfl, rfl, E1.trans e, e.lst upd_same, .nil, hacc, hp, hDfa, hD0⟩, ?_⟩
    rintro m σ H2 ⟨i, la, fv, lv, o1, o4, o5, o6, hm, rfl, e2, hfa, hfp, hla, hlp, nfl, hla0⟩
    have ll := paired_len hlp
    have lf := paired_len hfp
    refine ⟨_, rfl, (by show 0 ≤ sizeLine; decide), fun p hp0 => ?_⟩
    have X1 := Ext.new hp0 (HO.lst [])
    refine ⟨level W.looks i, [], ⟨la, lv, rfl, X1.lst hla, pTI.ext X1 hlp⟩, ⟨p, [], rfl, upd_same, .nil⟩, _, rfl, ?_⟩
    generalize hY : upd H2 p (HO.lst []) = Y at X1
    have hfaY := X1.lst hfa
    have hfpY := pTI.ext X1 hfp
    have hlaY := X1.lst hla
    have hlpY := pTI.ext X1 hlp
    have eY := e2.trans X1
    by_cases hl0 : level W.looks i = []
    · rw [decide_eq_true hl0]
      refine iteF ?_
      have hall := found_all hl0 (by omega)
      rw [hall] at hfpY
      exact ⟨_, rfl, fa, fv, _, rfl, hfaY, hfpY, fun r hr => (raw_ok hr).1.ne, fun p ys hp0 hys => k _ p ys (eY.trans (Ext.new hp0 _)) (eY.free hp0) upd_same (pTI.ext (Ext.new hp0 _) hys)⟩
    · rw [decide_eq_false hl0]
      refine iteT ?_
      have hi : i < 6 := Nat.lt_of_not_le fun q => hl0 (level_none (m := 6) fw.six q)
      have small := level_small l14 fw.six i
      have small2 := level_small l14 fw.six (i + 1)
      have fsmall2 := found_small l14 fw.six (i + 1)
      refine ⟨fun σ' H' => ∃ m', m' < m ∧ ∃ (i : Nat) (la : Addr) (fv lv : List V) (o1 o4 o5 o6 : Option V), m' + i = 7 ∧ σ' = [some (.ref a), o1, some (.ref fa), some (.ref la), o4, o5, o6] ∧ Ext H H' ∧ H' fa = some (.lst fv) ∧ Paired (TI H') fv (foundN W.looks i) ∧ H' la = some (.lst lv) ∧ Paired (TI H') lv (level W.looks i) ∧ fa ≠ la ∧ H la = none, fun _ _ h => h, ?_⟩
      refine ⟨(by show 0 ≤ sizeLine; decide), fun ga hga => ?_⟩
      have X2 := Ext.new hga (HO.lst [])
      have nfg : fa ≠ ga := ne_of_none hfaY hga
      have nlg : la ≠ ga := ne_of_none hlaY hga
      have hga0 : H ga = none := eY.free hga
      generalize hZ : upd Y ga (HO.lst []) = Z at X2
      have hgaZ : Z ga = some (.lst []) := by rw [← hZ]; exact upd_same
      have hlaZ := X2.lst hlaY
      refine ⟨_, rfl, la, rfl, ⟨_, SqL.of hlaZ⟩, for_list (K := K) (a := la) (xs := lv) (fun j σ H' => ∃ (fv gv : List V) (o1 o5 o6 : Option V), σ = [some (.ref a), o1, some (.ref fa), some (.ref la), some (.ref ga), o5, o6] ∧ Ext H H' ∧ H' fa = some (.lst fv) ∧ Paired (TI H') fv (foundN W.looks i ++ ((level W.looks i).take j).filter (closesP W.looks)) ∧ H' ga = some (.lst gv) ∧ Paired (TI H') gv (((level W.looks i).take j).flatMap (longer W.looks)) ∧ H' la = some (.lst lv) ∧ Paired (TI H') lv (level W.looks i))
        ⟨fv, [], _, _, _, rfl, eY.trans X2, X2.lst hfaY, by simpa using pTI.ext X2 hfpY, hgaZ, .nil, hlaZ, pTI.ext X2 hlpY⟩ (fun j σ H' _ ⟨_, _, _, _, _, _, _, _, _, _, _, h, _⟩ => SqL.of h) ?_ ?_⟩
      · rintro j x σ H' hj ⟨fv, gv, o1, o5, o6, rfl, e3, hfa, hfp, hga, hgp, hla, hlp⟩
        obtain ⟨row, hrow, z, rfl, hz⟩ := paired_get' hlp hj
        obtain ⟨pok, pl⟩ := level_ok i (List.mem_of_getElem? hrow)
        have hjl : j < (level W.looks i).length := (List.getElem?_eq_some_iff.mp hrow).1
        have hh := pok.num _ (headD_mem pok.ne)
        have lfv : fv.length ≤ 8108730 := by
          rw [paired_len hfp, List.length_append]
          have s1 : (foundN W.looks (i + 1)).length = (foundN W.looks i).length + ((level W.looks i).filter (closesP W.looks)).length := by
            show (foundN W.looks i ++ _).length = _
            rw [List.length_append]
          have s2 := (((List.take_sublist j (level W.looks i)).filter (closesP W.looks))).length_le
          omega
        refine ⟨_, rfl, z, rfl, ⟨_, SqT.of hz⟩, fun D hD => ?_⟩
        have nfD : fa ≠ D := ne_of_none hfa hD
        have ngD : ga ≠ D := ne_of_none hga hD
        refine lc_fmT (R := VI) (S := VI) stVI stVI (xs := iv row) (bs := row) (fun m => some (lkr W.looks m)) hD hz (iv_pVI row) (by rw [iv_len]; exact Nat.le_of_lt (small1000 (by omega))) (fun x m H4 Ky Kn e hm hx k1 k2 => ?_) fun H4 acc e4 hacc hp4 => ?_
        · obtain ⟨q2, g2, h2⟩ := lookAt (pTI.ext e3 hls) (pok.num m hm)
          have e5 := e3.trans e
          rw [show x = V.int m from hx]
          refine ⟨rfl, yes ?_⟩
          exact ⟨_, rfl, a, _, _, _, rfl, rfl, e5.tup ha, at_of (j := 1) rfl rfl, _, rfl, b, _, _, _, rfl, rfl, e5.tup hb, g2, q2, _, _, _, rfl, rfl, e.tup h2, at_of (j := 1) rfl rfl, k1 _ _ _ rfl (Ext.refl _) rfl⟩
        have ea := pVI hp4
        subst ea
        rw [List.filterMap_eq_map'] at hacc
        have e5 := e3.trans e4
        have hz4 := e4.tup hz
        have hfa4 := e4.lst hfa
        have hga4 := e4.lst hga
        have hla4 := e4.lst hla
        have hfp4 := pTI.ext e4 hfp
        have hgp4 := pTI.ext e4 hgp
        have hlp4 := pTI.ext e4 hlp
        have hls4 := pTI.ext e5 hls
        have ha4 := e5.tup ha
        have hb4 := e5.tup hb
        have lne : row.map (lkr W.looks) ≠ [] := fun q => pok.ne (List.map_eq_nil_iff.mp q)
        obtain ⟨q1, g1, h1⟩ := lookAt hls4 (pok.num _ (headD_mem pok.ne))
        have atl : atI (iv (row.map (lkr W.looks))) (-1) = some (.int (lkr W.looks (row.getLastD 0))) := by
          rw [at_last lne, getLastD_map pok.ne]
        refine ⟨_, rfl, _, rfl, D, _, _, _, rfl, rfl, hacc, atl, ?_⟩
        refine ⟨_, rfl, a, _, _, _, rfl, rfl, ha4, at_of (j := 1) rfl rfl, _, rfl, z, _, _, _, rfl, rfl, hz4, at_head pok.ne, b, _, _, _, rfl, rfl, hb4, g1, q1, _, _, _, rfl, rfl, h1, at_of (j := 0) rfl rfl, rfl, _, rfl, ?_⟩
        rw [dec_int]
        show if closesP W.looks row = true then _ else _
        have eT : (level W.looks i).take (j + 1) = (level W.looks i).take j ++ [row] := take_snoc hrow
        cases hc : closesP W.looks row with
        | true =>
          refine iteT ?_
          refine ⟨_, rfl, z, _, _, _, rfl, rfl, hz4, at_head pok.ne, _, rfl, _, row, rfl, ⟨z, rfl, hz4⟩, pok.ne, fun m2 hm2 hle => ⟨rfl, _, rfl, ?_⟩⟩
          have em : row.headD 0 = m2 := by
            have h1 := pok.least m2 hm2
            have h2 := hle _ (headD_mem pok.ne)
            omega
          rw [dec_int, em, beq_self_eq_true]
          refine iteT ?_
          refine ⟨_, rfl, ⟨fa, _, rfl, hfa4⟩, _, rfl, fa, fv, _, rfl, rfl, hfa4, by omega, ?_⟩
          refine ⟨fv ++ [.ref z], gv, _, _, _, rfl, e5.put hfa0 _, upd_same, ?_, ?_, ?_, ?_, ?_⟩
          · rw [eT, List.filter_append, ← List.append_assoc]
            refine paired_app (paired_mono (fun v r h => stTI.put hfa4 h) hfp4) ?_
            rw [List.filter_cons, if_pos hc]
            exact .cons (stTI.put hfa4 ⟨z, rfl, hz4⟩) .nil
          · rw [upd_ne nfg.symm]
            exact hga4
          · rw [eT, List.flatMap_append, List.flatMap_singleton]
            have : longer W.looks row = [] := by
              unfold longer
              rw [if_pos hc]
            rw [this, List.append_nil]
            exact paired_mono (fun v r h => stTI.put hfa4 h) hgp4
          · rw [upd_ne nfl.symm]
            exact hla4
          · exact paired_mono (fun v r h => stTI.put hfa4 h) hlp4
        | false =>
          refine iteF ?_
          refine ⟨_, rfl, a, _, _, _, rfl, rfl, ha4, at_of (j := 1) rfl rfl, b, _, rfl, .inr hb4, _, rfl, by omega, by omega, ?_⟩
          rw [e0]
          have eL : (((nums 0 ls.length).filter fun n => goesOnP W.looks row n && decide (row.headD 0 < n)).map fun n => row ++ [n]) = longer W.looks row := by
            unfold longer
            rw [if_neg (by rw [hc]; decide), nums_over _ rfl (by omega), llen]
          refine for_range (lo := 0) (n := ls.length) (fun q σ H' => ∃ (gv : List V) (o1 : Option V), σ = [some (.ref a), o1, some (.ref fa), some (.ref la), some (.ref ga), some (.ref z), some (.ref D)] ∧ Ext H H' ∧ H' fa = some (.lst fv) ∧ Paired (TI H') fv (foundN W.looks i ++ ((level W.looks i).take j).filter (closesP W.looks)) ∧ H' ga = some (.lst gv) ∧ Paired (TI H') gv (((level W.looks i).take j).flatMap (longer W.looks) ++ (((nums 0 ls.length).take q).filter fun n => goesOnP W.looks row n && decide (row.headD 0 < n)).map fun n => row ++ [n]) ∧ H' la = some (.lst lv) ∧ Paired (TI H') lv (level W.looks i) ∧ H' D = some (.lst (iv (row.map (lkr W.looks)))) ∧ H' z = some (.tup (iv row)))
            ⟨gv, _, rfl, e5, hfa4, hfp4, hga4, by simpa using hgp4, hla4, hlp4, hacc, hz4⟩ ?_ ?_
          · rintro q σ H5 hq ⟨gv, o1, rfl, e6, hfa5, hfp5, hga5, hgp5, hla5, hlp5, hD5, hz5⟩
            have eq0 : (0 : Int) + (q : Int) = (q : Int) := Int.zero_add _
            rw [eq0]
            have hn : (0 : Int) ≤ (q : Int) ∧ (q : Int) < W.looks.length := by omega
            obtain ⟨q3, g3, h3⟩ := lookAt (pTI.ext e6 hls) hn
            have ha5 := e6.tup ha
            have hb5 := e6.tup hb
            have en : (nums 0 ls.length)[q]? = some (q : Int) := by
              have := nums_get (a := 0) (b := (ls.length : Int)) (i := q) (by omega)
              rw [this, Int.zero_add]
            have tq : (nums 0 ls.length).take (q + 1) = (nums 0 ls.length).take q ++ [(q : Int)] := take_snoc en
            have no : (goesOnP W.looks row (q : Int) && decide (row.headD 0 < (q : Int))) = false → ∃ (gv' : List V) (o1' : Option V), ([some (.ref a), some (.int (q : Int)), some (.ref fa), some (.ref la), some (.ref ga), some (.ref z), some (.ref D)] : L2.St) = [some (.ref a), o1', some (.ref fa), some (.ref la), some (.ref ga), some (.ref z), some (.ref D)] ∧ Ext H H5 ∧ H5 fa = some (.lst fv) ∧ Paired (TI H5) fv (foundN W.looks i ++ ((level W.looks i).take j).filter (closesP W.looks)) ∧ H5 ga = some (.lst gv') ∧ Paired (TI H5) gv' (((level W.looks i).take j).flatMap (longer W.looks) ++ (((nums 0 ls.length).take (q + 1)).filter fun n => goesOnP W.looks row n && decide (row.headD 0 < n)).map fun n => row ++ [n]) ∧ H5 la = some (.lst lv) ∧ Paired (TI H5) lv (level W.looks i) ∧ H5 D = some (.lst (iv (row.map (lkr W.looks)))) ∧ H5 z = some (.tup (iv row)) := fun hno => by
              refine ⟨gv, _, rfl, e6, hfa5, hfp5, hga5, ?_, hla5, hlp5, hD5, hz5⟩
              rw [tq, List.filter_append, List.filter_cons, hno]
              simpa using hgp5
            refine ⟨_, rfl, a, _, _, _, rfl, rfl, ha5, at_of (j := 1) rfl rfl, _, rfl, b, _, _, _, rfl, rfl, hb5, g3, q3, _, _, _, rfl, rfl, h3, at_of (j := 0) rfl rfl, _, rfl, _, rfl, D, _, _, _, rfl, rfl, hD5, atl, rfl, _, rfl, ?_⟩
            rw [dec_int]
            show if (lkd W.looks (q : Int) == lkr W.looks (row.getLastD 0)) = true then _ else _
            cases hc1 : (lkd W.looks (q : Int) == lkr W.looks (row.getLastD 0)) with
            | false =>
              refine iteF (iteF (no ?_))
              unfold goesOnP
              rw [hc1] <;> rfl
            | true =>
              refine iteT ?_
              refine ⟨_, rfl, a, _, _, _, rfl, rfl, ha5, at_of (j := 1) rfl rfl, _, rfl, b, _, _, _, rfl, rfl, hb5, g3, q3, _, _, _, rfl, rfl, h3, at_of (j := 1) rfl rfl, _, rfl, D, _, rfl, .inl (SqL.of hD5), rfl, flat_iv _, _, rfl, ?_⟩
              have ein : (!inV (V.int (lookN W.looks (q : Int)).2.1) (iv (row.map (lkr W.looks)))) = !(row.map (lkr W.looks)).contains (lkr W.looks (q : Int)) := by
                rw [inV_iv]
                rfl
              show if (!inV (V.int (lookN W.looks (q : Int)).2.1) (iv (row.map (lkr W.looks)))) = true then _ else _
              rw [ein]
              cases hc2 : (!(row.map (lkr W.looks)).contains (lkr W.looks (q : Int))) with
              | false =>
                refine iteF (iteF (no ?_))
                unfold goesOnP
                rw [hc1, hc2] <;> rfl
              | true =>
                refine iteT ?_
                refine ⟨_, rfl, _, rfl, z, _, _, _, rfl, rfl, hz5, at_head pok.ne, _, _, rfl, rfl, _, rfl, ?_⟩
                cases hc3 : decide (row.headD 0 < (q : Int)) with
                | false =>
                  refine iteF (no ?_)
                  rw [hc3, Bool.and_false]
                | true =>
                  refine iteT ?_
                  have lg : gv.length ≤ 7529536 := by
                    rw [paired_len hgp5, List.length_append, List.length_map]
                    have s2 := (((List.take_sublist q (nums 0 ls.length)).filter fun n => goesOnP W.looks row n && decide (row.headD 0 < n))).length_le
                    have s3 : ((level W.looks i).take (j + 1)).flatMap (longer W.looks) = ((level W.looks i).take j).flatMap (longer W.looks) ++ longer W.looks row := flatMap_take hrow
                    have s4 := flatMap_take_le (longer W.looks) (level W.looks i) (j + 1)
                    rw [s3, List.length_append] at s4
                    have s5 : (longer W.looks row).length = ((nums 0 ls.length).filter fun n => goesOnP W.looks row n && decide (row.headD 0 < n)).length := by
                      rw [← eL, List.length_map]
                    have s6 : ((level W.looks i).flatMap (longer W.looks)).length = (level W.looks (i + 1)).length := rfl
                    omega
                  refine ⟨_, rfl, ⟨ga, _, rfl, hga5⟩, _, rfl, _, rfl, (by show 1 ≤ sizeLine; decide), fun u hu => ?_⟩
                  refine cat_one hz5 hu (by omega) fun H9 y e9 hy => ?_
                  have hga9 := e9.lst hga5
                  refine ⟨ga, gv, _, rfl, rfl, hga9, by omega, gv ++ [y], _, rfl, (e6.trans e9).put hga0 _, ?_, ?_, upd_same, ?_, ?_, ?_, ?_, ?_⟩
                  · rw [upd_ne nfg]
                    exact e9.lst hfa5
                  · exact paired_mono (fun v r h => stTI.put hga9 h) (pTI.ext e9 hfp5)
                  · rw [tq, List.filter_append, List.filter_cons, List.map_append, ← List.append_assoc]
                    have hyes : (goesOnP W.looks row (q : Int) && decide (row.headD 0 < (q : Int))) = true := by
                      unfold goesOnP
                      rw [hc1, hc2, hc3] <;> rfl
                    rw [if_pos hyes]
                    exact paired_app (paired_mono (fun v r h => stTI.put hga9 h) (pTI.ext e9 hgp5)) (.cons (stTI.put hga9 hy) .nil)
                  · rw [upd_ne nlg]
                    exact e9.lst hla5
                  · exact paired_mono (fun v r h => stTI.put hga9 h) (pTI.ext e9 hlp5)
                  · rw [upd_ne ngD.symm]
                    exact e9.lst hD5
                  · rw [upd_ne (ne_of hga9 (e9.tup hz5) (by intro q; cases q)).symm]
                    exact e9.tup hz5
          · rintro σ H5 ⟨gv, o1, rfl, e6, hfa5, hfp5, hga5, hgp5, hla5, hlp5, hD5, hz5⟩
            refine ⟨fv, gv, _, _, _, rfl, e6, hfa5, ?_, hga5, ?_, hla5, hlp5⟩
            · rw [eT, List.filter_append, List.filter_cons, hc]
              simpa using hfp5
            · rw [eT, List.flatMap_append, List.flatMap_singleton, ← eL]
              have : (nums 0 ls.length).take ls.length = nums 0 ls.length := List.take_of_length_le (by rw [nums_len]; omega)
              rw [this] at hgp5
              exact hgp5
      · rintro σ H' ⟨fv, gv, o1, o5, o6, rfl, e3, hfa, hfp, hga, hgp, hla, hlp⟩
        have ej : (level W.looks i).take lv.length = level W.looks i := List.take_of_length_le (by rw [ll]; exact Nat.le_refl _)
        rw [ej] at hfp hgp
        exact ⟨_, rfl, m - 1, by omega, i + 1, ga, fv, gv, _, _, _, _, by omega, rfl, e3, hfa, hfp, hga, hgp, nfg, hga0⟩
end
end Lk

/-! ## D23 -/
set_option Elab.async false
set_option linter.all false
set_option maxRecDepth 100000
set_option maxHeartbeats 2000000
namespace Lk
open PySem PySem.Spec PyProof.Rows L2 Gx
open GxR (TabG Tabbed TabB)
variable [Own]
def spLawPick (K : PySem.W.Frag) : Sp := fun vs H Q _ => ∃ (r sc a : Addr) (ns : List Int) (xs : List V), vs = [.ref r, .ref a] ∧ Rw K H r sc ns ∧ H a = some (.lst xs) ∧ a ≠ r ∧ (0 < xs.length ∧ xs.length < 1000000) ∧
  ∀ H' v (j : Nat), ExtB r H H' → Rw K H' r sc ns → (∀ a, a ≠ r → H' a = H a) → xs[j]? = some v → Q v H'
section
variable {P : Program} {w : World} {K : PySem.W.Frag} {mg : Str → Option Value} {base : Heap} {Ps : List Addr}
end
end Lk

/-! ## D21 -/
set_option Elab.async false
set_option linter.all false
set_option maxRecDepth 100000
set_option maxHeartbeats 2000000
namespace Lk
open PySem PySem.Spec PyProof.Rows L2 Gx
open GxR (TabG Tabbed TabB)
variable [Own]
def spLawMoods : Sp := fun vs H Q _ => ∃ (a : Addr) (k : Bool) (tops : List Int), vs = [.ref a] ∧ SqB k H a (iv tops) ∧ tops.length ≤ 6 ∧ (∀ t ∈ tops, 0 ≤ t ∧ t ≤ 3) ∧ ∀ H' p, Ext H H' → H p = none → LT2 H' (.ref p) (rowsOf tops) → Q (.ref p) H'
section
variable {P : Program} {w : World} {K : PySem.W.Frag} {mg : Str → Option Value} {base : Heap} {Ps : List Addr}
end
end Lk

/-! ## D08 -/
set_option Elab.async false
set_option linter.all false
set_option maxRecDepth 100000
set_option maxHeartbeats 2000000
namespace Lk
open PySem PySem.Spec PyProof.Rows L2 Gx
open GxR (TabG Tabbed TabB)
variable [Own]
/-- the places ahead of which a neighbour stands, n of them in all -/
def placesOf (n s z : Nat) : List Nat := (List.range n).filter fun p => decide (p / s % z < z - 1)
def goesAlong (tb : List Int) (s z : Nat) (sg : Int) : Bool := (placesOf tb.length s z).all fun p => decide (0 ≤ (tb.getD (p + s) 0 - tb.getD p 0) * sg)
def spGoesAlong (Ps : List Addr) : Sp := fun vs H Q _ => ∃ (v : V) (tb : List Int) (s z : Nat) (sg : Int), vs = [v, .int s, .int z, .int sg] ∧ TI H v tb ∧ (0 < s ∧ s < 1000000) ∧ (0 < z ∧ z < 1000000) ∧ (sg = 1 ∨ sg = -1) ∧ tb.length ≤ 1000000 ∧ (∀ p ∈ placesOf tb.length s z, p + s < tb.length) ∧ Tabs Ps H ∧ ∀ H', Ext H H' → Q (.bl (goesAlong tb s z sg)) H'
section
variable {P : Program} {w : World} {K : PySem.W.Frag} {mg : Str → Option Value} {base : Heap} {Ps : List Addr}
theorem getD_get {l : List Int} {i : Nat} (h : i < l.length) : l[i]? = some (l.getD i 0) := by rw [List.getD_eq_getElem?_getD, List.getElem?_eq_getElem h]; rfl
theorem filter_take {α : Type} {f : α → Bool} {l : List α} {i : Nat} {x : α} (h : l[i]? = some x) : (l.take (i + 1)).filter f = (l.take i).filter f ++ (if f x = true then [x] else []) := by
  rw [List.take_add_one, h, List.filter_append]
  show _ ++ List.filter f [x] = _
  rw [List.filter_cons]
  by_cases hf : f x = true <;> simp [hf]
end
end Lk

/-! ## D09 -/
set_option Elab.async false
set_option linter.all false
set_option maxRecDepth 100000
set_option maxHeartbeats 2000000
namespace Lk
open PySem PySem.Spec PyProof.Rows L2 Gx
open GxR (TabG Tabbed TabB)
variable [Own]
/-- the looks from the last: s, how far apart neighbours lie -/
def goLoop (W : Web) (tb : List Int) : List (Int × Int) → Nat → Bool
  | [], _ => true
  | l :: r, s => goesAlong tb s (topAt W l.1 + 1).toNat l.2 && goLoop W tb r (s * (topAt W l.1 + 1).toNat)
def isTable (W : Web) (f : Int) (tb : List Int) : Bool := decide ((tb.length : Int) = manyRows W f) && tb.all (fun m => isWhole m 0 (topAt W f)) && goLoop W tb (looksOf W f).reverse 1
def spIsTable (Ps : List Addr) : Sp := fun vs H Q _ => ∃ (v t : V) (W : Web) (f : Int) (tb : List Int), vs = [v, .int f, t] ∧ WebAt H v W ∧ W.Ok ∧ (0 ≤ f ∧ f < W.tops.length) ∧ TI H t tb ∧ tb.length ≤ 1000000 ∧ Tabs Ps H ∧ ∀ H', Ext H H' → Q (.bl (isTable W f tb)) H'
/-- the product of the sizes of looks -/
def prodOf (W : Web) (ls : List (Int × Int)) : Nat := ls.foldl (fun m l => m * (topAt W l.1 + 1).toNat) 1
theorem prod_mul (W : Web) : ∀ (ls : List (Int × Int)) (a : Nat), ls.foldl (fun m l => m * (topAt W l.1 + 1).toNat) a = a * prodOf W ls
  | [], a => by simp [prodOf]
  | l :: ls, a => by
    unfold prodOf
    rw [List.foldl_cons, List.foldl_cons, prod_mul W ls, prod_mul W ls (1 * _), Nat.one_mul, Nat.mul_assoc]
theorem prod_cons (W : Web) (l : Int × Int) (ls : List (Int × Int)) : prodOf W (l :: ls) = (topAt W l.1 + 1).toNat * prodOf W ls := by
  show List.foldl _ _ _ = _
  rw [List.foldl_cons, Nat.one_mul, prod_mul]
theorem prod_snoc (W : Web) (l : Int × Int) (ls : List (Int × Int)) : prodOf W (ls ++ [l]) = prodOf W ls * (topAt W l.1 + 1).toNat := by
  unfold prodOf
  rw [List.foldl_append]
  rfl
theorem prod_rev (W : Web) : ∀ ls : List (Int × Int), prodOf W ls.reverse = prodOf W ls
  | [] => rfl
  | l :: ls => by rw [List.reverse_cons, prod_snoc, prod_rev W ls, prod_cons, Nat.mul_comm]
theorem many_prod {W : Web} (ok : W.Ok) : ∀ (ls : List (Int × Int)) (a : Nat), (∀ l ∈ ls, 0 ≤ l.1 ∧ l.1 < W.tops.length) → ls.foldl (manyStep W) (a : Int) = ((a * prodOf W ls : Nat) : Int)
  | [], a, _ => by simp [prodOf]
  | l :: ls, a, h => by
    have hh := h l (List.mem_cons_self ..)
    have ht := topAt_ok ok hh.1 hh.2
    rw [List.foldl_cons]
    have e : manyStep W (a : Int) l = ((a * (topAt W l.1 + 1).toNat : Nat) : Int) := by
      unfold manyStep
      rw [Int.natCast_mul]
      congr 1
      omega
    rw [e, many_prod ok ls _ (fun x hx => h x (List.mem_cons_of_mem _ hx)), prod_cons, Nat.mul_assoc]
theorem many_eq {W : Web} (ok : W.Ok) (f : Int) : manyRows W f = ((prodOf W (looksOf W f) : Nat) : Int) := by
  have := many_prod ok (looksOf W f) 1 fun l hl => (looksOf_ok ok l hl).1
  rw [Nat.one_mul] at this
  exact this
theorem prod_pos {W : Web} (ok : W.Ok) : ∀ ls : List (Int × Int), (∀ l ∈ ls, 0 ≤ l.1 ∧ l.1 < W.tops.length) → 0 < prodOf W ls
  | [], _ => by simp [prodOf]
  | l :: ls, h => by
    have hh := h l (List.mem_cons_self ..)
    have ht := topAt_ok ok hh.1 hh.2
    rw [prod_cons]
    exact Nat.mul_pos (by omega) (prod_pos ok ls fun x hx => h x (List.mem_cons_of_mem _ hx))
/-- where a neighbour stands: within the table -/
theorem places_in {n s z r : Nat} (hs : 0 < s) (hz : 0 < z) (hn : n = s * z * r) : ∀ p ∈ placesOf n s z, p + s < n := by
  intro p hp
  unfold placesOf at hp
  obtain ⟨h1, h2⟩ := List.mem_filter.mp hp
  have h1 := List.mem_range.mp h1
  have h2 : p / s % z < z - 1 := of_decide_eq_true h2
  -- p = s * (z * b + d) + c
  have e1 : p = s * (p / s) + p % s := (Nat.div_add_mod p s).symm
  have e2 : p / s = z * (p / s / z) + p / s % z := (Nat.div_add_mod _ z).symm
  have c1 : p % s < s := Nat.mod_lt _ hs
  have b1 : p / s / z < r := by
    rw [Nat.div_div_eq_div_mul]
    exact Nat.div_lt_of_lt_mul (by rw [← hn]; exact h1)
  generalize p / s / z = b at e2 b1
  generalize p / s % z = d at e2 h2
  generalize p % s = c at e1 c1
  rw [e2] at e1
  rw [hn, e1]
  have h3 : z * b + d + 1 < z * (b + 1) := by rw [Nat.mul_add, Nat.mul_one]; omega
  have h4 : z * (b + 1) ≤ z * r := Nat.mul_le_mul_left _ b1
  have h5 : s * (z * b + d + 1 + 1) ≤ s * (z * r) := Nat.mul_le_mul_left _ (by omega)
  rw [← Nat.mul_assoc s z r] at h5
  rw [Nat.mul_add, Nat.mul_add, Nat.mul_one] at h5
  omega
section
variable {P : Program} {w : World} {K : PySem.W.Frag} {mg : Str → Option Value} {base : Heap} {Ps : List Addr}
theorem rev_paired {α β : Type} {R : α → β → Prop} : ∀ {l : List α} {m : List β}, Paired R l m → Paired R l.reverse m.reverse
  | _, _, .nil => .nil
  | _, _, .cons r t => by rw [List.reverse_cons, List.reverse_cons]; exact paired_snoc r (rev_paired t)
theorem goLoop_false {W : Web} {tb : List Int} : ∀ {ls : List (Int × Int)} {i : Nat} {l : Int × Int} {s : Nat}, ls[i]? = some l → goesAlong tb (s * prodOf W (ls.take i)) (topAt W l.1 + 1).toNat l.2 = false → goLoop W tb ls s = false
  | [], _, _, _, h, _ => by simp at h
  | k :: ls, 0, l, s, h, hg => by
    obtain rfl : k = l := by simpa using h
    unfold goLoop
    have : s * prodOf W (List.take 0 (k :: ls)) = s := by simp [prodOf]
    rw [this] at hg
    rw [hg, Bool.false_and]
  | k :: ls, i + 1, l, s, h, hg => by
    unfold goLoop
    rw [goLoop_false (ls := ls) (i := i) (l := l) (by simpa using h), Bool.and_false]
    rw [List.take_succ_cons, prod_cons, ← Nat.mul_assoc] at hg
    exact hg
theorem goLoop_true {W : Web} {tb : List Int} : ∀ {ls : List (Int × Int)} {s : Nat}, (∀ i l, ls[i]? = some l → goesAlong tb (s * prodOf W (ls.take i)) (topAt W l.1 + 1).toNat l.2 = true) → goLoop W tb ls s = true
  | [], _, _ => rfl
  | k :: ls, s, h => by
    unfold goLoop
    have h0 := h 0 k rfl
    have : s * prodOf W (List.take 0 (k :: ls)) = s := by simp [prodOf]
    rw [this] at h0
    rw [h0, Bool.true_and]
    refine goLoop_true fun i l hl => ?_
    have h1 := h (i + 1) l (by simpa using hl)
    rw [List.take_succ_cons, prod_cons, ← Nat.mul_assoc] at h1
    exact h1
end
end Lk

/-! ## RwB -/
set_option Elab.async false
set_option linter.all false
set_option maxRecDepth 100000
set_option maxHeartbeats 2000000
/-! Heaps that have grown beside the row of draws. -/
namespace Lk
open PySem PySem.Spec PyProof.Rows L2 Gx
variable [Own]
theorem ExtB.put {r : Addr} {H0 H : Hp} {p : Addr} (e : ExtB r H0 H) (h : H0 p = none) (o : HO) : ExtB r H0 (L2.upd H p o) := ⟨fun a u n q t => by rw [upd_ne (ne_of_none q h)]; exact e.keep a u n q t, fun P ⟨ps, q, t⟩ => by
  obtain ⟨qs, q', t'⟩ := e.tab P ⟨ps, q, t⟩
  exact ⟨qs, by rw [upd_ne (ne_of_none q h)]; exact q', t'⟩, fun a u q => by
  obtain ⟨o', h'⟩ := e.tb a u q
  exact ⟨o', by rw [upd_ne (ne_of_none q h)]; exact h'⟩, fun P ps o q => by rw [upd_ne (ne_of_none q h)]; exact e.own P ps o q⟩
section
variable {K : PySem.W.Frag} {r sc : Addr} {ns : List Int} {H H' : Hp}
theorem Rw.tup (h : Rw K H r sc ns) (e : ExtB r H H') {a : Addr} {xs : List V} (q : H a = some (.tup xs)) : H' a = some (.tup xs) := by
  obtain ⟨_, h⟩ := h.lst
  exact e.tup h q
theorem Rw.TI (h : Rw K H r sc ns) (e : ExtB r H H') {v : V} {ns : List Int} (q : TI H v ns) : TI H' v ns := by
  obtain ⟨_, h⟩ := h.lst
  exact q.extB e h
theorem Rw.pTI (h : Rw K H r sc ns) (e : ExtB r H H') {vs : List V} {rows : List (List Int)} (q : Paired (Lk.TI H) vs rows) : Paired (Lk.TI H') vs rows := by
  obtain ⟨_, h⟩ := h.lst
  exact pTI.extB e h q
theorem Rw.web (h : Rw K H r sc ns) (e : ExtB r H H') {v : V} {W : Web} (q : WebAt H v W) : WebAt H' v W := by
  obtain ⟨_, h⟩ := h.lst
  exact q.extB e h
theorem Rw.ne_none (h : Rw K H r sc ns) {D : Addr} (q : H D = none) : D ≠ r := by
  obtain ⟨_, h⟩ := h.lst
  exact (ne_of_none h q).symm
theorem Rw.new (h : Rw K H r sc ns) {D : Addr} (q : H D = none) (o : HO) : Rw K (upd H D o) r sc ns := h.ext (Ext.new q o)
theorem Rw.put {H0 : Hp} (h : Rw K H r sc ns) (h0 : Rw K H0 r sc ns) {D : Addr} (q : H0 D = none) (o : HO) : Rw K (upd H D o) r sc ns := by
  obtain ⟨d, h⟩ := h
  obtain ⟨d0, h0⟩ := h0
  exact ⟨d, by rw [upd_ne (ne_of_none h0.row q)]; exact h.row, h.scr.put h0.scr q o, h.len, h.ok⟩
/-- a list that the draws leave -/
theorem same_at {D : Addr} (same : ∀ a, a ≠ r → H' a = H a) (n : D ≠ r) {o : Option HO} (h : H D = o) : H' D = o := by rw [same D n]; exact h
end
end Lk

/-! ## D10 -/
set_option Elab.async false
set_option linter.all false
set_option maxRecDepth 100000
set_option maxHeartbeats 2000000
namespace Lk
open PySem PySem.Spec PyProof.Rows L2 Gx
open GxR (TabG Tabbed TabB)
variable [Own]
/-- the state told in a state -/
def stateTold (W : Web) (ru : List (List Int)) (st : List Int) : List Int := (List.range st.length).map fun f : Nat => moodTold W ru st (f : Int)
def spStateTold : Sp := fun vs H Q _ => ∃ (v r z : V) (W : Web) (ru : List (List Int)) (st : List Int), vs = [v, r, z] ∧ WebAt H v W ∧ W.Ok ∧ TT2 H r ru ∧ RuOk W ru ∧ TI H z st ∧ StOk W st ∧ ∀ H' u, Ext H H' → H u = none → H' u = some (.tup (iv (stateTold W ru st))) → Q (.ref u) H'
section
variable {P : Program} {w : World} {K : PySem.W.Frag} {mg : Str → Option Value} {base : Heap} {Ps : List Addr}
/-- all settled states -/
def settledStates (W : Web) (ru : List (List Int)) : List (List Int) := (rowsOf W.tops).filter fun st => decide (stateTold W ru st = st)
theorem rows_mem {tops : List Int} {st : List Int} : st ∈ rowsOf tops → st.length = tops.length ∧ ∀ i, i < tops.length → 0 ≤ st.getD i 0 ∧ st.getD i 0 ≤ tops.getD i 0 := by
  have key : ∀ (ts : List Int) (rows : List (List Int)) (pre : List Int), (∀ r ∈ rows, r.length = pre.length ∧ ∀ i, i < pre.length → 0 ≤ r.getD i 0 ∧ r.getD i 0 ≤ pre.getD i 0) → ∀ r ∈ ts.foldl rowsStep rows, r.length = (pre ++ ts).length ∧ ∀ i, i < (pre ++ ts).length → 0 ≤ r.getD i 0 ∧ r.getD i 0 ≤ (pre ++ ts).getD i 0 := by
    intro ts
    induction ts with
    | nil => intro rows pre h r hr; rw [List.append_nil]; exact h r hr
    | cons t ts ih =>
      intro rows pre h r hr
      rw [List.foldl_cons] at hr
      have := ih (rowsStep rows t) (pre ++ [t]) (fun q hq => ?_) r hr
      · rw [List.append_assoc] at this
        exact this
      · unfold rowsStep at hq
        obtain ⟨z, hz, hq⟩ := List.mem_flatMap.mp hq
        obtain ⟨m, hm, rfl⟩ := List.mem_map.mp hq
        obtain ⟨h1, h2⟩ := h z hz
        unfold moods at hm
        obtain ⟨j, hj, rfl⟩ := List.mem_map.mp hm
        have hj := List.mem_range.mp hj
        refine ⟨by rw [List.length_append, List.length_append, h1]; rfl, fun i hi => ?_⟩
        rw [List.length_append] at hi
        by_cases hip : i < pre.length
        · have e1 : (z ++ [(j : Int)]).getD i 0 = z.getD i 0 := by rw [List.getD_eq_getElem?_getD, List.getD_eq_getElem?_getD, List.getElem?_append_left (by omega)]
          have e2 : (pre ++ [t]).getD i 0 = pre.getD i 0 := by rw [List.getD_eq_getElem?_getD, List.getD_eq_getElem?_getD, List.getElem?_append_left hip]
          rw [e1, e2]
          exact h2 i hip
        · have ei : i = pre.length := by simp at hi; omega
          have e1 : (z ++ [(j : Int)]).getD i 0 = (j : Int) := by rw [List.getD_eq_getElem?_getD, List.getElem?_append_right (by omega), h1, ei, Nat.sub_self]; rfl
          have e2 : (pre ++ [t]).getD i 0 = t := by rw [List.getD_eq_getElem?_getD, List.getElem?_append_right (by omega), ei, Nat.sub_self]; rfl
          rw [e1, e2]
          omega
  intro h
  have := key tops [[]] [] (fun r hr => by rw [List.mem_singleton.mp hr]; exact ⟨rfl, fun i hi => absurd hi (Nat.not_lt_zero _)⟩) st h
  exact this
theorem rows_st {W : Web} {st : List Int} (h : st ∈ rowsOf W.tops) : StOk W st := by
  obtain ⟨h1, h2⟩ := rows_mem h
  exact ⟨h1, fun i h0 hi => h2 i.toNat (by omega)⟩
def spSettledStates : Sp := fun vs H Q _ => ∃ (v r : V) (W : Web) (ru : List (List Int)), vs = [v, r] ∧ WebAt H v W ∧ W.Ok ∧ TT2 H r ru ∧ RuOk W ru ∧ ∀ H' u, Ext H H' → TT2 H' (.ref u) (settledStates W ru) → Q (.ref u) H'
end
end Lk

/-! ## D26 -/
set_option Elab.async false
set_option linter.all false
set_option maxRecDepth 100000
set_option maxHeartbeats 2000000
namespace Lk
open PySem PySem.Spec PyProof.Rows L2 Gx
open GxR (TabG Tabbed TabB)
variable [Own]
/-- the law's rows, signs -/
def rowsAt (W : Web) (f : Int) : List (List Int) := rowsOf ((looksOf W f).map fun l => topAt W l.1)
def signsAt (W : Web) (f : Int) : List Int := (looksOf W f).map fun l => l.2
/-- marks at which a table rises: a row and a mood -/
abbrev Mark := List Int × Int
def maxOf (l : List Int) : Int := l.foldl (fun a b => if a < b then b else a) 0
def tableOf (signs : List Int) (rows : List (List Int)) (mks : List Mark) : List Int := rows.map fun one => maxOf ((mks.filter fun mk => lawGoes signs mk.1 one).map (·.2))
/-- a mark as a value -/
def MkAt (H : Hp) (v : V) (mk : Mark) : Prop := ∃ t z, v = .ref t ∧ H t = some (.tup [z, .int mk.2]) ∧ TI H z mk.1
def spLawTable (K : PySem.W.Frag) : Sp := fun vs H Q _ => ∃ (r sc : Addr) (ns : List Int) (v : V) (W : Web) (f : Int), vs = [.ref r, v, .int f] ∧ Rw K H r sc ns ∧ WebAt H v W ∧ W.Ok ∧ (0 ≤ f ∧ f < W.tops.length) ∧
  ∀ H' u mks, ExtB r H H' → Rw K H' r sc ns → H u = none → (∀ mk ∈ mks, mk.1 ∈ rowsAt W f ∧ 0 ≤ mk.2 ∧ mk.2 ≤ topAt W f) → H' u = some (.tup (iv (tableOf (signsAt W f) (rowsAt W f) mks))) → Q (.ref u) H'
theorem foldmax : ∀ (l : List Int) (a : Int), (l.foldl (fun a b => if a < b then b else a) a) ∈ a :: l ∧ ∀ y ∈ a :: l, y ≤ l.foldl (fun a b => if a < b then b else a) a
  | [], a => ⟨List.mem_cons_self .., fun y hy => by
    rcases List.mem_cons.mp hy with h | h
    · rw [h]; exact Int.le_refl _
    · cases h⟩
  | b :: l, a => by
    obtain ⟨h1, h2⟩ := foldmax l (if a < b then b else a)
    rw [List.foldl_cons]
    refine ⟨?_, fun y hy => ?_⟩
    · rcases List.mem_cons.mp h1 with h | h
      · rw [h]
        split <;> simp
      · exact List.mem_cons_of_mem _ (List.mem_cons_of_mem _ h)
    · have h3 := h2 _ (List.mem_cons_self ..)
      rcases List.mem_cons.mp hy with h | hy
      · rw [h]
        refine Int.le_trans ?_ h3
        split <;> omega
      · rcases List.mem_cons.mp hy with h | hy
        · rw [h]
          refine Int.le_trans ?_ h3
          split <;> omega
        · exact h2 y (List.mem_cons_of_mem _ hy)
theorem maxOf_eq {l : List Int} {m : Int} (h1 : m ∈ (0 : Int) :: l) (h2 : ∀ y ∈ (0 : Int) :: l, y ≤ m) : m = maxOf l := by
  obtain ⟨g1, g2⟩ := foldmax l 0
  exact Int.le_antisymm (g2 m h1) (h2 _ g1)
theorem looks_len {W : Web} (ok : W.Ok) (f : Int) : (looksOf W f).length ≤ 4 := by
  have h := ok.four f
  rw [List.filter_map, List.length_map] at h
  unfold looksOf
  rw [List.length_map]
  exact h
theorem row2_at {H : Hp} {vs : List V} {ls : List (Int × Int)} {i : Nat} {x : V} (p : Paired (TI H) vs (ls.map row2)) (h : vs[i]? = some x) : ∃ l q, ls[i]? = some l ∧ x = .ref q ∧ H q = some (.tup [.int l.1, .int l.2]) := by
  obtain ⟨row, hrow, q, e, hq⟩ := paired_get' p h
  rw [List.getElem?_map] at hrow
  cases e2 : ls[i]? with
  | none => rw [e2] at hrow; cases hrow
  | some l =>
    rw [e2] at hrow
    obtain rfl := Option.some.inj hrow
    exact ⟨l, q, rfl, e, hq⟩
theorem rows_pos {tops : List Int} (h : ∀ t ∈ tops, 0 ≤ t) : ∀ rows : List (List Int), 0 < rows.length → 0 < (tops.foldl rowsStep rows).length := by
  induction tops with
  | nil => intro rows q; exact q
  | cons t ts ih =>
    intro rows q
    rw [List.foldl_cons]
    refine ih (fun t ht => h t (List.mem_cons_of_mem _ ht)) _ ?_
    rw [rowsStep_len]
    have := h t (List.mem_cons_self ..)
    exact Nat.mul_pos q (by omega)
theorem topsAt_ok {W : Web} (ok : W.Ok) (f : Int) : ∀ t ∈ (looksOf W f).map (fun l => topAt W l.1), 1 ≤ t ∧ t ≤ 3 := by
  intro t ht
  obtain ⟨l, hl, rfl⟩ := List.mem_map.mp ht
  have := (looksOf_ok ok l hl).1
  exact topAt_ok ok this.1 this.2
theorem rowsAt_len {W : Web} (ok : W.Ok) (f : Int) : 0 < (rowsAt W f).length ∧ (rowsAt W f).length ≤ 256 := by
  have ht := topsAt_ok ok f
  refine ⟨rows_pos (fun t h => by have := ht t h; omega) _ (by decide), ?_⟩
  have h1 := rows_len4 (fun t h => (ht t h).2) [[]]
  have h2 : 4 ^ ((looksOf W f).map fun l => topAt W l.1).length ≤ 4 ^ 4 := Nat.pow_le_pow_right (by decide) (by rw [List.length_map]; exact looks_len ok f)
  simp only [List.length_singleton, Nat.one_mul] at h1
  exact Nat.le_trans h1 h2
theorem rowsAt_row {W : Web} {f : Int} {r : List Int} (h : r ∈ rowsAt W f) : r.length = (looksOf W f).length := by
  have h1 := rows_row (tops := (looksOf W f).map fun l => topAt W l.1) (rows := [[]]) (n := 0) (fun r hr => by rw [List.mem_singleton.mp hr]; rfl) r (show r ∈ List.foldl rowsStep [[]] ((looksOf W f).map fun l => topAt W l.1) from h)
  rw [h1, List.length_map, Nat.zero_add]
theorem rowsAt_bd {W : Web} (ok : W.Ok) {f : Int} {r : List Int} (h : r ∈ rowsAt W f) : ∀ x ∈ r, 0 ≤ x ∧ x ≤ 3 := by
  intro x hx
  obtain ⟨h1, h2⟩ := rows_mem (tops := (looksOf W f).map fun l => topAt W l.1) h
  obtain ⟨i, hi, rfl⟩ := List.getElem_of_mem hx
  have h3 := h2 i (by omega)
  have e1 : r.getD i 0 = r[i] := by rw [List.getD_eq_getElem?_getD, List.getElem?_eq_getElem hi]; rfl
  have e2 : ((looksOf W f).map fun l => topAt W l.1).getD i 0 = ((looksOf W f).map fun l => topAt W l.1)[i]'(by omega) := by rw [List.getD_eq_getElem?_getD, List.getElem?_eq_getElem (by omega)]; rfl
  have h4 := topsAt_ok ok f _ (List.getElem_mem (l := (looksOf W f).map fun l => topAt W l.1) (n := i) (by omega))
  omega
theorem MkAt.extB {r : Addr} {H H' : Hp} {rs : List V} (e : ExtB r H H') (hr : H r = some (.lst rs)) {v : V} {mk : Mark} (h : MkAt H v mk) : MkAt H' v mk := by
  obtain ⟨t, z, q, h1, h2⟩ := h
  exact ⟨t, z, q, e.tup hr h1, h2.extB e hr⟩
theorem MkAt.ext {H H' : Hp} (e : Ext H H') {v : V} {mk : Mark} (h : MkAt H v mk) : MkAt H' v mk := by
  obtain ⟨t, z, q, h1, h2⟩ := h
  exact ⟨t, z, q, e.tup h1, h2.ext e⟩
theorem MkAt.put {H : Hp} {D : Addr} {acc : List V} {o : HO} (hD : H D = some (.lst acc)) {v : V} {mk : Mark} (h : MkAt H v mk) : MkAt (upd H D o) v mk := by
  obtain ⟨t, z, q, h1, a, q2, h2⟩ := h
  exact ⟨t, z, q, by rw [upd_ne (ne_of hD h1 (by intro q; cases q)).symm]; exact h1, a, q2, by rw [upd_ne (ne_of hD h2 (by intro q; cases q)).symm]; exact h2⟩
theorem signs_ok {W : Web} (ok : W.Ok) {f : Int} : ∀ s ∈ signsAt W f, s = 1 ∨ s = -1 := by
  intro s hs
  obtain ⟨l, hl, rfl⟩ := List.mem_map.mp hs
  exact (looksOf_ok ok l hl).2
section
variable {P : Program} {w : World} {K : PySem.W.Frag} {mg : Str → Option Value} {base : Heap} {Ps : List Addr}
end
end Lk

/-! ## D12 -/
set_option Elab.async false
set_option linter.all false
set_option maxRecDepth 100000
set_option maxHeartbeats 2000000
namespace Lk
open PySem PySem.Spec PyProof.Rows L2 Gx
open GxR (TabG Tabbed TabB)
variable [Own]
/-- the first of the folk whose thing is no table of theirs -/
def firstBad (W : Web) (ru : List (List Int)) : Option Nat := (List.range W.tops.length).find? fun f : Nat => !isTable W (f : Int) (ru.getD f [])
/-- what may be rules: as many tuples of ints as there are folk -/
structure Ru0 (W : Web) (ru : List (List Int)) : Prop where
  len : ru.length = W.tops.length
  few : ∀ t ∈ ru, t.length ≤ 1000000
/-- refused, or passed -/
def spCheckRules (Ps : List Addr) (C : Addr) : Sp := fun vs H Q E => ∃ (v r : V) (W : Web) (ru : List (List Int)), vs = [v, r] ∧ WebAt H v W ∧ W.Ok ∧ TT2 H r ru ∧ Ru0 W ru ∧ Tabs Ps H ∧
  (firstBad W ru = none → ∀ H', Ext H H' → Q .non H') ∧ (∀ f, firstBad W ru = some f → ∀ H' d, Ext H H' → H d = none → H' d = some (.xd [("folk", .int (f : Nat))]) → E (.ref C) (some d) H')
theorem firstBad_none {W : Web} {ru : List (List Int)} (h : firstBad W ru = none) : ∀ f : Int, 0 ≤ f → f < W.tops.length → isTable W f (ru.getD f.toNat []) = true := by
  intro f h0 h1
  have := List.find?_eq_none.mp h f.toNat (List.mem_range.mpr (by omega))
  have e : ((f.toNat : Nat) : Int) = f := by omega
  rw [e] at this
  simpa using this
theorem rules_ok {W : Web} {ru : List (List Int)} (r0 : Ru0 W ru) (h : firstBad W ru = none) : RuOk W ru := by
  refine ⟨r0.len, fun f h0 h1 => ?_⟩
  have := firstBad_none h f h0 h1
  unfold isTable at this
  rw [Bool.and_eq_true, Bool.and_eq_true] at this
  exact of_decide_eq_true this.1.1
def spCheckStanding (Ps : List Addr) : Sp := fun vs H Q _ => ∃ (v r z : V) (W : Web) (ru : List (List Int)) (st : List Int), vs = [v, r, z] ∧ WebAt H v W ∧ W.Ok ∧ TT2 H r ru ∧ Ru0 W ru ∧ firstBad W ru = none ∧ TI H z st ∧ StOk W st ∧ Tabs Ps H ∧ ∀ H', Ext H H' → Q .non H'
def spTold (Ps : List Addr) : Sp := fun vs H Q _ => ∃ (v r z : V) (W : Web) (ru : List (List Int)) (st : List Int) (f : Int), vs = [v, r, z, .int f] ∧ WebAt H v W ∧ W.Ok ∧ TT2 H r ru ∧ Ru0 W ru ∧ firstBad W ru = none ∧ TI H z st ∧ StOk W st ∧ (0 ≤ f ∧ f < W.tops.length) ∧ Tabs Ps H ∧ ∀ H', Ext H H' → Q (.int (moodTold W ru st f)) H'
def spIsSettled (Ps : List Addr) : Sp := fun vs H Q _ => ∃ (v r z : V) (W : Web) (ru : List (List Int)) (st : List Int), vs = [v, r, z] ∧ WebAt H v W ∧ W.Ok ∧ TT2 H r ru ∧ Ru0 W ru ∧ firstBad W ru = none ∧ TI H z st ∧ StOk W st ∧ Tabs Ps H ∧ ∀ H', Ext H H' → Q (.bl (decide (stateTold W ru st = st))) H'
def spSettled (Ps : List Addr) (C : Addr) : Sp := fun vs H Q E => ∃ (v r : V) (W : Web) (ru : List (List Int)), vs = [v, r] ∧ WebAt H v W ∧ W.Ok ∧ TT2 H r ru ∧ Ru0 W ru ∧ Tabs Ps H ∧
  (firstBad W ru = none → ∀ H' u, Ext H H' → TT2 H' (.ref u) (settledStates W ru) → Q (.ref u) H') ∧ (∀ f, firstBad W ru = some f → ∀ H' d, Ext H H' → H d = none → H' d = some (.xd [("folk", .int (f : Nat))]) → E (.ref C) (some d) H')
/-- the states at the ticks -/
def ticks (W : Web) (ru : List (List Int)) (st : List Int) : Nat → List Int
  | 0 => st
  | n + 1 => stateTold W ru (ticks W ru st n)
def spRun (Ps : List Addr) : Sp := fun vs H Q _ => ∃ (v r z : V) (W : Web) (ru : List (List Int)) (st : List Int) (n : Nat), vs = [v, r, z, .int n] ∧ n ≤ 200 ∧ WebAt H v W ∧ W.Ok ∧ TT2 H r ru ∧ Ru0 W ru ∧ firstBad W ru = none ∧ TI H z st ∧ StOk W st ∧ Tabs Ps H ∧ ∀ H' u, Ext H H' → TT2 H' (.ref u) ((List.range (n + 1)).map (ticks W ru st)) → Q (.ref u) H'
theorem told_len (W : Web) (ru : List (List Int)) (st : List Int) : (stateTold W ru st).length = st.length := by unfold stateTold; rw [List.length_map, List.length_range]
theorem told_at {W : Web} {ru : List (List Int)} {st : List Int} {f : Int} (h0 : 0 ≤ f) (h1 : f < st.length) : stAt (stateTold W ru st) f = moodTold W ru st f := by
  unfold stAt stateTold
  rw [List.getD_eq_getElem?_getD, List.getElem?_map, List.getElem?_range (by omega)]
  show moodTold W ru st ((f.toNat : Nat) : Int) = _
  rw [show ((f.toNat : Nat) : Int) = f by omega]
theorem table_bd {W : Web} {f : Int} {tb : List Int} (h : isTable W f tb = true) : ∀ m ∈ tb, 0 ≤ m ∧ m ≤ topAt W f := by
  intro m hm
  unfold isTable at h
  rw [Bool.and_eq_true, Bool.and_eq_true] at h
  have := List.all_eq_true.mp h.1.2 m hm
  unfold isWhole at this
  rw [Bool.and_eq_true] at this
  exact ⟨of_decide_eq_true this.1, of_decide_eq_true this.2⟩
theorem told_ok {W : Web} (ok : W.Ok) {ru : List (List Int)} (r0 : Ru0 W ru) (hb : firstBad W ru = none) {st : List Int} (so : StOk W st) : StOk W (stateTold W ru st) := by
  refine ⟨by rw [told_len, so.len], fun f h0 h1 => ?_⟩
  rw [told_at h0 (by rw [so.len]; exact h1)]
  have ht := firstBad_none hb f h0 h1
  refine table_bd ht _ ?_
  unfold moodTold
  have rok := rules_ok r0 hb
  have hp := place_bd ok so (looksOf W f) 1 0 (fun l hl => (looksOf_ok ok l hl).1) (by decide) (by decide)
  have hl := rok.rows f h0 h1
  have hlt : (placeOf W st f).toNat < (ru.getD f.toNat []).length := by
    have h2 : placeOf W st f < manyRows W f := hp.2
    have h3 : 0 ≤ placeOf W st f := hp.1
    omega
  rw [List.getD_eq_getElem?_getD (l := ru.getD f.toNat []), List.getElem?_eq_getElem hlt]
  exact List.getElem_mem hlt
theorem ticks_ok {W : Web} (ok : W.Ok) {ru : List (List Int)} (r0 : Ru0 W ru) (hb : firstBad W ru = none) {st : List Int} (so : StOk W st) : ∀ n, StOk W (ticks W ru st n)
  | 0 => so
  | n + 1 => told_ok ok r0 hb (ticks_ok ok r0 hb so n)
section
variable {P : Program} {w : World} {K : PySem.W.Frag} {mg : Str → Option Value} {base : Heap} {Ps : List Addr} {C : Addr}
end
end Lk

/-! ## M1 -/
set_option Elab.async false
set_option linter.all false
set_option maxRecDepth 100000
set_option maxHeartbeats 2000000
/-! Tables: neighbours and all pairs of rows. -/
namespace Lk
open PySem PySem.Spec PyProof.Rows L2 Gx
variable [Own]
/-- an axis: how many moods, the sign -/
abbrev Ax := Nat × Int
def pr : List Ax → Nat
  | [] => 1
  | a :: r => a.1 * pr r
def rws : List Ax → List (List Int)
  | [] => [[]]
  | a :: r => (List.range a.1).flatMap fun x : Nat => (rws r).map fun b => (x : Int) :: b
theorem rws_cons (a : Ax) (r : List Ax) : rws (a :: r) = (List.range a.1).flatMap fun x : Nat => (rws r).map fun b => (x : Int) :: b := rfl
def AxOk (as : List Ax) : Prop := ∀ a ∈ as, 0 < a.1 ∧ (a.2 = 1 ∨ a.2 = -1)
theorem pr_pos : ∀ {as : List Ax}, AxOk as → 0 < pr as
  | [], _ => Nat.one_pos
  | a :: r, h => Nat.mul_pos (h a (List.mem_cons_self ..)).1 (pr_pos fun x hx => h x (List.mem_cons_of_mem _ hx))
theorem rws_len : ∀ as : List Ax, (rws as).length = pr as
  | [] => rfl
  | a :: r => by
    rw [rws_cons, pr, List.length_flatMap]
    have : ((List.range a.1).map fun x => ((rws r).map fun b => ((x : Nat) : Int) :: b).length) = (List.range a.1).map fun _ => pr r := List.map_congr_left fun x _ => by rw [List.length_map, rws_len r]
    rw [this, List.map_const', List.length_range, List.sum_replicate_nat]
theorem flat_at {α : Type} (g : Nat → List α) (m : Nat) (hg : ∀ x, (g x).length = m) : ∀ (k n p : Nat), 0 < m → p < n * m → ((List.range' k n).flatMap g)[p]? = (g (k + p / m))[p % m]?
  | k, 0, p, _, h => by simp at h
  | k, n + 1, p, h0, h => by
    rw [List.range'_succ, List.flatMap_cons]
    by_cases hp : p < m
    · rw [List.getElem?_append_left (by rw [hg]; exact hp), Nat.div_eq_of_lt hp, Nat.mod_eq_of_lt hp, Nat.add_zero]
    · have hp : m ≤ p := by omega
      rw [List.getElem?_append_right (by rw [hg]; exact hp), hg, flat_at g m hg (k + 1) n (p - m) h0 (by rw [Nat.add_mul, Nat.one_mul] at h; omega)]
      rw [Nat.mod_eq_sub_mod hp, Nat.div_eq_sub_div h0 hp]
      congr 2
      omega
theorem rws_get {a : Ax} {r : List Ax} (hr : 0 < pr r) {p : Nat} (h : p < a.1 * pr r) : (rws (a :: r))[p]? = ((rws r)[p % pr r]?).map fun b => ((p / pr r : Nat) : Int) :: b := by
  rw [rws_cons, List.range_eq_range', flat_at _ (pr r) (fun x => by rw [List.length_map, rws_len]) 0 a.1 p hr h, List.getElem?_map, Nat.zero_add]
theorem rws_at {a : Ax} {r : List Ax} {x b : Nat} {row : List Int} (hx : x < a.1) (hb : (rws r)[b]? = some row) : (rws (a :: r))[x * pr r + b]? = some ((x : Int) :: row) := by
  have hb' : b < pr r := by rw [← rws_len]; exact (List.getElem?_eq_some_iff.mp hb).1
  have hr : 0 < pr r := by omega
  have hlt : x * pr r + b < a.1 * pr r := by
    have : (x + 1) * pr r ≤ a.1 * pr r := Nat.mul_le_mul_right _ hx
    rw [Nat.add_mul, Nat.one_mul] at this
    omega
  rw [rws_get hr hlt]
  have e1 : (x * pr r + b) % pr r = b := by rw [Nat.add_comm, Nat.add_mul_mod_self_right, Nat.mod_eq_of_lt hb']
  have e2 : (x * pr r + b) / pr r = x := by rw [Nat.add_comm, Nat.add_mul_div_right _ _ hr, Nat.div_eq_of_lt hb', Nat.zero_add]
  rw [e1, e2, hb]
  rfl
theorem rws_cut {a : Ax} {r : List Ax} {p : Nat} {row : List Int} (h : (rws (a :: r))[p]? = some row) : ∃ (x b : Nat) (row' : List Int), x < a.1 ∧ p = x * pr r + b ∧ row = (x : Int) :: row' ∧ (rws r)[b]? = some row' := by
  have hlt : p < a.1 * pr r := by
    have := (List.getElem?_eq_some_iff.mp h).1
    rw [rws_len] at this
    exact this
  have hr : 0 < pr r := by
    rcases Nat.eq_zero_or_pos (pr r) with z | z
    · rw [z, Nat.mul_zero] at hlt; omega
    · exact z
  rw [rws_get hr hlt] at h
  cases e : (rws r)[p % pr r]? with
  | none => rw [e] at h; cases h
  | some row' =>
    rw [e] at h
    refine ⟨p / pr r, p % pr r, row', Nat.div_lt_of_lt_mul (by rw [Nat.mul_comm]; exact hlt), ?_, (Option.some.inj h).symm, e⟩
    rw [Nat.mul_comm]
    exact (Nat.div_add_mod p (pr r)).symm
/-- a row stands at one place alone -/
theorem rws_inj : ∀ {as : List Ax} {p q : Nat} {row : List Int}, (rws as)[p]? = some row → (rws as)[q]? = some row → p = q
  | [], p, q, row, h1, h2 => by
    have h1 := (List.getElem?_eq_some_iff.mp h1).1
    have h2 := (List.getElem?_eq_some_iff.mp h2).1
    simp only [rws, List.length_singleton] at h1 h2
    omega
  | a :: r, p, q, row, h1, h2 => by
    obtain ⟨x, b, r1, _, rfl, rfl, g1⟩ := rws_cut h1
    obtain ⟨y, c, r2, _, rfl, e, g2⟩ := rws_cut h2
    injection e with e1 e2
    have e1 : x = y := by omega
    subst e1 e2
    rw [rws_inj g1 g2]
theorem goes_refl : ∀ (ss : List Int) (xs : List Int), lawGoes ss xs xs = true
  | [], _ => by simp [lawGoes]
  | s :: ss, [] => by simp [lawGoes]
  | s :: ss, x :: xs => by simp [lawGoes, goes_refl ss xs]
theorem goes_trans : ∀ (ss xs ys zs : List Int), (∀ s ∈ ss, s = 1 ∨ s = -1) → ys.length = ss.length → lawGoes ss xs ys = true → lawGoes ss ys zs = true → lawGoes ss xs zs = true
  | [], xs, ys, zs, _, _, _, _ => by simp [lawGoes]
  | s :: ss, [], ys, zs, _, _, _, _ => by simp [lawGoes]
  | s :: ss, x :: xs, [], zs, _, h, _, _ => by simp at h
  | s :: ss, x :: xs, y :: ys, [], _, _, _, _ => by simp [lawGoes]
  | s :: ss, x :: xs, y :: ys, z :: zs, hs, hl, h1, h2 => by
    simp only [lawGoes, Bool.and_eq_true, Bool.not_eq_true', decide_eq_false_iff_not] at h1 h2 ⊢
    refine ⟨?_, goes_trans ss xs ys zs (fun s h => hs s (List.mem_cons_of_mem _ h)) (by simpa using hl) h1.2 h2.2⟩
    have g1 := h1.1
    have g2 := h2.1
    rcases hs s (List.mem_cons_self ..) with e | e <;> (subst e; omega)
/-- monotone between neighbours; between all -/
def Nb : List Ax → (Nat → Int) → Prop
  | [], _ => True
  | a :: r, T => (∀ x b, x + 1 < a.1 → b < pr r → 0 ≤ (T ((x + 1) * pr r + b) - T (x * pr r + b)) * a.2) ∧ ∀ x, x < a.1 → Nb r fun b => T (x * pr r + b)
def Al (as : List Ax) (T : Nat → Int) : Prop := ∀ p q xp xq, (rws as)[p]? = some xp → (rws as)[q]? = some xq → lawGoes (as.map (·.2)) xp xq = true → T p ≤ T q
theorem al_nb : ∀ (as : List Ax), AxOk as → ∀ T : Nat → Int, Al as T ↔ Nb as T
  | [], _, T => by
    refine ⟨fun _ => trivial, fun _ p q xp xq h1 h2 _ => ?_⟩
    have h1 := (List.getElem?_eq_some_iff.mp h1).1
    have h2 := (List.getElem?_eq_some_iff.mp h2).1
    simp only [rws, List.length_singleton] at h1 h2
    rw [show p = q by omega]
    exact Int.le_refl _
  | a :: r, h, T => by
    have ha := h a (List.mem_cons_self ..)
    have hr : AxOk r := fun x hx => h x (List.mem_cons_of_mem _ hx)
    have hp := pr_pos hr
    refine ⟨fun A => ⟨fun x b hx hb => ?_, fun x hx => ?_⟩, fun ⟨N1, N2⟩ p q xp xq h1 h2 g => ?_⟩
    · have hb2 : b < (rws r).length := by rw [rws_len]; exact hb
      have e := List.getElem?_eq_getElem hb2
      have e1 := rws_at (a := a) (r := r) (x := x) (by omega) e
      have e2 := rws_at (a := a) (r := r) (x := x + 1) (by omega) e
      rcases ha.2 with s | s
      · have := A _ _ _ _ e1 e2 (by
          rw [List.map_cons, s]
          simp only [lawGoes, goes_refl, Bool.and_true, Bool.not_eq_true', decide_eq_false_iff_not]
          omega)
        rw [s]
        omega
      · have := A _ _ _ _ e2 e1 (by
          rw [List.map_cons, s]
          simp only [lawGoes, goes_refl, Bool.and_true, Bool.not_eq_true', decide_eq_false_iff_not]
          omega)
        rw [s]
        omega
    · refine (al_nb r hr _).mp fun p q xp xq h1 h2 g => ?_
      refine A _ _ _ _ (rws_at hx h1) (rws_at hx h2) ?_
      rw [List.map_cons]
      simp only [lawGoes, g, Bool.and_true, Bool.not_eq_true', decide_eq_false_iff_not, Int.sub_self, Int.mul_zero]
      omega
    · obtain ⟨x, b, r1, hx, rfl, rfl, g1⟩ := rws_cut h1
      obtain ⟨y, c, r2, hy, rfl, rfl, g2⟩ := rws_cut h2
      rw [List.map_cons] at g
      simp only [lawGoes, Bool.and_eq_true, Bool.not_eq_true', decide_eq_false_iff_not] at g
      have s1 : T (x * pr r + b) ≤ T (x * pr r + c) := (al_nb r hr _).mpr (N2 x hx) b c r1 r2 g1 g2 g.2
      have hc : c < pr r := by rw [← rws_len]; exact (List.getElem?_eq_some_iff.mp g2).1
      refine Int.le_trans s1 ?_
      rcases ha.2 with s | s
      · have hxy : x ≤ y := by
          have := g.1
          rw [s] at this
          omega
        have : ∀ d, x + d < a.1 → T (x * pr r + c) ≤ T ((x + d) * pr r + c) := by
          intro d
          induction d with
          | zero => intro _; exact Int.le_refl _
          | succ d ih =>
            intro hd
            have := N1 (x + d) c (by omega) hc
            rw [s] at this
            have := ih (by omega)
            rw [show x + (d + 1) = x + d + 1 by omega]
            omega
        have := this (y - x) (by omega)
        rw [show x + (y - x) = y by omega] at this
        exact this
      · have hxy : y ≤ x := by
          have := g.1
          rw [s] at this
          omega
        have : ∀ d, y + d < a.1 → T ((y + d) * pr r + c) ≤ T (y * pr r + c) := by
          intro d
          induction d with
          | zero => intro _; exact Int.le_refl _
          | succ d ih =>
            intro hd
            have := N1 (y + d) c (by omega) hc
            rw [s] at this
            have := ih (by omega)
            rw [show y + (d + 1) = y + d + 1 by omega]
            omega
        have := this (x - y) (by omega)
        rw [show y + (x - y) = x by omega] at this
        exact this
def Cn (T : Nat → Int) (n s z : Nat) (sg : Int) : Prop := ∀ p, p < n → p / s % z < z - 1 → 0 ≤ (T (p + s) - T p) * sg
def Ga (T : Nat → Int) (n : Nat) : List Ax → Prop
  | [] => True
  | a :: r => Cn T n (pr r) a.1 a.2 ∧ Ga T n r
theorem ga_nb : ∀ (as : List Ax), AxOk as → ∀ (T : Nat → Int) (k : Nat), Ga T (k * pr as) as ↔ ∀ x, x < k → Nb as fun b => T (x * pr as + b)
  | [], _, T, k => ⟨fun _ _ _ => trivial, fun _ => trivial⟩
  | a :: r, h, T, k => by
    have ha := h a (List.mem_cons_self ..)
    have hr : AxOk r := fun x hx => h x (List.mem_cons_of_mem _ hx)
    have hp := pr_pos hr
    have en : k * pr (a :: r) = k * a.1 * pr r := by rw [pr, Nat.mul_assoc]
    have ee : ∀ x y b : Nat, x * pr (a :: r) + (y * pr r + b) = (x * a.1 + y) * pr r + b := fun x y b => by
      rw [pr, Nat.add_mul, ← Nat.mul_assoc, Nat.add_assoc]
    rw [Ga, en, ga_nb r hr T (k * a.1)]
    constructor
    · rintro ⟨C, N⟩ x hx
      refine ⟨fun y b hy hb => ?_, fun y hy => ?_⟩
      · show 0 ≤ (T (x * pr (a :: r) + ((y + 1) * pr r + b)) - T (x * pr (a :: r) + (y * pr r + b))) * a.2
        rw [ee, ee]
        have hlt : x * a.1 + y < k * a.1 := by
          have : (x + 1) * a.1 ≤ k * a.1 := Nat.mul_le_mul_right _ hx
          rw [Nat.add_mul, Nat.one_mul] at this
          omega
        have d1 : ((x * a.1 + y) * pr r + b) / pr r = x * a.1 + y := by rw [Nat.add_comm, Nat.add_mul_div_right _ _ hp, Nat.div_eq_of_lt hb, Nat.zero_add]
        have d2 : (x * a.1 + y) % a.1 = y := by rw [Nat.add_comm, Nat.add_mul_mod_self_right, Nat.mod_eq_of_lt (by omega)]
        have := C ((x * a.1 + y) * pr r + b) (by
          have : (x * a.1 + y + 1) * pr r ≤ k * a.1 * pr r := Nat.mul_le_mul_right _ hlt
          rw [Nat.add_mul, Nat.one_mul] at this
          omega) (by rw [d1, d2]; omega)
        rw [show (x * a.1 + (y + 1)) * pr r + b = (x * a.1 + y) * pr r + b + pr r by rw [← Nat.add_assoc, Nat.add_mul (x * a.1 + y), Nat.one_mul]; omega]
        exact this
      · have := N (x * a.1 + y) (by
          have : (x + 1) * a.1 ≤ k * a.1 := Nat.mul_le_mul_right _ hx
          rw [Nat.add_mul, Nat.one_mul] at this
          omega)
        have e : (fun b => T (x * pr (a :: r) + (y * pr r + b))) = fun b => T ((x * a.1 + y) * pr r + b) := funext fun b => by rw [ee]
        show Nb r fun b => T (x * pr (a :: r) + (y * pr r + b))
        rw [e]
        exact this
    · intro N
      refine ⟨fun p hpn hd => ?_, fun x' hx' => ?_⟩
      · have e1 : p = p / pr r * pr r + p % pr r := by rw [Nat.mul_comm]; exact (Nat.div_add_mod p (pr r)).symm
        have e2 : p / pr r = p / pr r / a.1 * a.1 + p / pr r % a.1 := by rw [Nat.mul_comm]; exact (Nat.div_add_mod _ a.1).symm
        have c1 : p % pr r < pr r := Nat.mod_lt _ hp
        have c2 : p / pr r < k * a.1 := Nat.div_lt_of_lt_mul (by rw [Nat.mul_comm]; exact hpn)
        have c3 : p / pr r / a.1 < k := Nat.div_lt_of_lt_mul (by rw [Nat.mul_comm]; exact c2)
        obtain ⟨N1, _⟩ := N _ c3
        have := N1 (p / pr r % a.1) (p % pr r) (by omega) c1
        have this : 0 ≤ (T (p / pr r / a.1 * pr (a :: r) + ((p / pr r % a.1 + 1) * pr r + p % pr r)) - T (p / pr r / a.1 * pr (a :: r) + (p / pr r % a.1 * pr r + p % pr r))) * a.2 := this
        rw [ee, ee] at this
        rw [show p / pr r / a.1 * a.1 + (p / pr r % a.1 + 1) = p / pr r + 1 by omega, ← e2, ← e1] at this
        rw [show (p / pr r + 1) * pr r + p % pr r = p + pr r by rw [Nat.add_mul, Nat.one_mul]; omega] at this
        exact this
      · have e2 : x' = x' / a.1 * a.1 + x' % a.1 := by rw [Nat.mul_comm]; exact (Nat.div_add_mod _ a.1).symm
        have c3 : x' / a.1 < k := Nat.div_lt_of_lt_mul (by rw [Nat.mul_comm]; exact hx')
        obtain ⟨_, N2⟩ := N _ c3
        have := N2 (x' % a.1) (Nat.mod_lt _ ha.1)
        have this : Nb r fun b => T (x' / a.1 * pr (a :: r) + (x' % a.1 * pr r + b)) := this
        have e : (fun b => T (x' / a.1 * pr (a :: r) + (x' % a.1 * pr r + b))) = fun b => T (x' * pr r + b) := funext fun b => by rw [ee, ← e2]
        rw [e] at this
        exact this
theorem ga_al {as : List Ax} (h : AxOk as) (T : Nat → Int) : Ga T (pr as) as ↔ Al as T := by
  have := ga_nb as h T 1
  rw [Nat.one_mul] at this
  rw [this, al_nb as h T]
  constructor
  · intro N
    have := N 0 Nat.one_pos
    simpa using this
  · intro N x hx
    have : x = 0 := by omega
    subst this
    simpa using N
theorem goes_cn {tb : List Int} {s z : Nat} {sg : Int} : goesAlong tb s z sg = true ↔ Cn (fun p => tb.getD p 0) tb.length s z sg := by
  unfold goesAlong placesOf Cn
  rw [List.all_eq_true]
  constructor
  · intro h p hp hd
    exact of_decide_eq_true (h p (List.mem_filter.mpr ⟨List.mem_range.mpr hp, decide_eq_true hd⟩))
  · intro h p hp
    obtain ⟨h1, h2⟩ := List.mem_filter.mp hp
    exact decide_eq_true (h p (List.mem_range.mp h1) (of_decide_eq_true h2))
/-- the axes of looks -/
def axes (W : Web) (ls : List (Int × Int)) : List Ax := ls.map fun l => ((topAt W l.1 + 1).toNat, l.2)
theorem pr_prod (W : Web) : ∀ ls : List (Int × Int), pr (axes W ls) = prodOf W ls
  | [] => rfl
  | l :: ls => by
    rw [prod_cons, ← pr_prod W ls]
    rfl
theorem loop_ga {W : Web} {tb : List Int} : ∀ (rs done : List (Int × Int)), (goLoop W tb rs (prodOf W done) = true ∧ Ga (fun p => tb.getD p 0) tb.length (axes W done)) ↔ Ga (fun p => tb.getD p 0) tb.length (axes W (rs.reverse ++ done))
  | [], done => by simp [goLoop]
  | l :: rs, done => by
    rw [List.reverse_cons, List.append_assoc]
    show _ ↔ Ga _ _ (axes W (rs.reverse ++ (l :: done)))
    rw [← loop_ga rs (l :: done), prod_cons, goLoop, Bool.and_eq_true, goes_cn]
    show _ ↔ _ ∧ Ga _ _ (((topAt W l.1 + 1).toNat, l.2) :: axes W done)
    rw [Ga, pr_prod, Nat.mul_comm (topAt W l.1 + 1).toNat]
    constructor
    · rintro ⟨⟨h1, h2⟩, h3⟩
      exact ⟨h2, h1, h3⟩
    · rintro ⟨h2, h1, h3⟩
      exact ⟨⟨h1, h2⟩, h3⟩
theorem axes_ok {W : Web} (ok : W.Ok) (f : Int) : AxOk (axes W (looksOf W f)) := by
  intro a ha
  obtain ⟨l, hl, rfl⟩ := List.mem_map.mp ha
  have h := looksOf_ok ok l hl
  have := topAt_ok ok h.1.1 h.1.2
  exact ⟨by show 0 < (topAt W l.1 + 1).toNat; omega, h.2⟩
/-- what is a table -/
theorem isTable_iff {W : Web} (ok : W.Ok) {f : Int} {tb : List Int} : isTable W f tb = true ↔ tb.length = pr (axes W (looksOf W f)) ∧ (∀ m ∈ tb, 0 ≤ m ∧ m ≤ topAt W f) ∧ Al (axes W (looksOf W f)) fun p => tb.getD p 0 := by
  unfold isTable
  rw [Bool.and_eq_true, Bool.and_eq_true, many_eq ok, decide_eq_true_iff, List.all_eq_true, ← pr_prod]
  have hb : (∀ x ∈ tb, isWhole x 0 (topAt W f) = true) ↔ ∀ m ∈ tb, 0 ≤ m ∧ m ≤ topAt W f := by
    unfold isWhole
    simp only [Bool.and_eq_true, decide_eq_true_iff]
  rw [hb]
  have hl := loop_ga (W := W) (tb := tb) (looksOf W f).reverse []
  rw [List.reverse_reverse, List.append_nil] at hl
  have hl2 : goLoop W tb (looksOf W f).reverse 1 = true ↔ Ga (fun p => tb.getD p 0) tb.length (axes W (looksOf W f)) := by
    rw [← hl]
    exact ⟨fun h => ⟨h, trivial⟩, fun h => h.1⟩
  rw [hl2]
  constructor
  · rintro ⟨⟨h1, h2⟩, h3⟩
    have h1 : tb.length = pr (axes W (looksOf W f)) := by omega
    rw [h1, ga_al (axes_ok ok f)] at h3
    exact ⟨h1, h2, h3⟩
  · rintro ⟨h1, h2, h3⟩
    rw [h1, ga_al (axes_ok ok f)]
    exact ⟨⟨rfl, h2⟩, h3⟩
theorem step_rws (W : Web) : ∀ (ls : List (Int × Int)) (rows : List (List Int)), (ls.map fun l => topAt W l.1).foldl rowsStep rows = rows.flatMap fun q => (rws (axes W ls)).map fun b => q ++ b
  | [], rows => by simp [axes, rws]
  | l :: ls, rows => by
    rw [List.map_cons, List.foldl_cons, step_rws W ls]
    unfold rowsStep
    rw [List.flatMap_assoc]
    congr 1
    funext q
    show _ = List.map _ (rws (((topAt W l.1 + 1).toNat, l.2) :: axes W ls))
    rw [rws_cons]
    unfold moods
    rw [List.map_flatMap, List.flatMap_map, List.flatMap_map]
    congr 1
    funext x
    rw [List.map_map]
    congr 1
    funext b
    simp
theorem rowsAt_rws (W : Web) (f : Int) : rowsAt W f = rws (axes W (looksOf W f)) := by
  unfold rowsAt rowsOf
  rw [step_rws]
  simp
theorem place_step (W : Web) (st : List Int) : ∀ (ls : List (Int × Int)) (p : Int), (∀ l ∈ ls, 0 ≤ topAt W l.1) → ls.foldl (placeStep W st) p = p * (pr (axes W ls) : Nat) + ls.foldl (placeStep W st) 0
  | [], p, _ => by simp [axes, pr]
  | l :: ls, p, h => by
    have h1 := h l (List.mem_cons_self ..)
    have h2 : ∀ l ∈ ls, 0 ≤ topAt W l.1 := fun x hx => h x (List.mem_cons_of_mem _ hx)
    rw [List.foldl_cons, List.foldl_cons, place_step W st ls _ h2, place_step W st ls (placeStep W st 0 l) h2]
    show _ = p * ((((topAt W l.1 + 1).toNat * pr (axes W ls) : Nat)) : Int) + _
    rw [Int.natCast_mul, show (((topAt W l.1 + 1).toNat : Nat) : Int) = topAt W l.1 + 1 by omega]
    unfold placeStep
    rw [Int.zero_mul, Int.zero_add, Int.add_mul, Int.mul_assoc, Int.add_assoc]
/-- the place of a row -/
theorem place_row {W : Web} {st : List Int} : ∀ {ls : List (Int × Int)}, (∀ l ∈ ls, 0 ≤ stAt st l.1 ∧ stAt st l.1 ≤ topAt W l.1) → 0 ≤ ls.foldl (placeStep W st) 0 ∧ (rws (axes W ls))[(ls.foldl (placeStep W st) 0).toNat]? = some (ls.map fun l => stAt st l.1)
  | [], _ => ⟨Int.le_refl _, rfl⟩
  | l :: ls, h => by
    have h1 := h l (List.mem_cons_self ..)
    obtain ⟨i0, i1⟩ := place_row (W := W) (st := st) (ls := ls) fun x hx => h x (List.mem_cons_of_mem _ hx)
    have ht : ∀ l ∈ ls, 0 ≤ topAt W l.1 := fun x hx => by have := h x (List.mem_cons_of_mem _ hx); omega
    rw [List.foldl_cons, place_step W st ls _ ht]
    have e : placeStep W st 0 l = stAt st l.1 := by unfold placeStep; rw [Int.zero_mul, Int.zero_add]
    rw [e]
    have hm : 0 ≤ stAt st l.1 * ((pr (axes W ls) : Nat) : Int) := Int.mul_nonneg h1.1 (Int.natCast_nonneg _)
    refine ⟨by omega, ?_⟩
    have e2 : (stAt st l.1 * ((pr (axes W ls) : Nat) : Int) + ls.foldl (placeStep W st) 0).toNat = (stAt st l.1).toNat * pr (axes W ls) + (ls.foldl (placeStep W st) 0).toNat := by
      rw [Int.toNat_add hm i0, Int.toNat_mul h1.1 (Int.natCast_nonneg _), Int.toNat_natCast]
    rw [e2]
    show (rws (((topAt W l.1 + 1).toNat, l.2) :: axes W ls))[_]? = _
    rw [rws_at (a := ((topAt W l.1 + 1).toNat, l.2)) (x := (stAt st l.1).toNat) (by show _ < (topAt W l.1 + 1).toNat; omega) i1, List.map_cons]
    rw [show (((stAt st l.1).toNat : Nat) : Int) = stAt st l.1 by omega]
theorem max_sub {l m : List Int} (h : ∀ x ∈ l, x ∈ m) : maxOf l ≤ maxOf m := by
  obtain ⟨g1, g2⟩ := foldmax l 0
  obtain ⟨k1, k2⟩ := foldmax m 0
  refine k2 _ ?_
  rcases List.mem_cons.mp g1 with e | e
  · show maxOf l ∈ _
    unfold maxOf
    rw [e]
    exact List.mem_cons_self ..
  · exact List.mem_cons_of_mem _ (h _ e)
/-- a drawn table is one -/
theorem table_ok {W : Web} (ok : W.Ok) {f : Int} (hf : 0 ≤ f ∧ f < W.tops.length) {mks : List Mark} (hm : ∀ mk ∈ mks, mk.1 ∈ rowsAt W f ∧ 0 ≤ mk.2 ∧ mk.2 ≤ topAt W f) : isTable W f (tableOf (signsAt W f) (rowsAt W f) mks) = true := by
  have ht := topAt_ok ok hf.1 hf.2
  rw [isTable_iff ok]
  refine ⟨by unfold tableOf; rw [List.length_map, rowsAt_rws, rws_len], fun m h => ?_, fun p q xp xq h1 h2 g => ?_⟩
  · unfold tableOf at h
    obtain ⟨row, _, rfl⟩ := List.mem_map.mp h
    obtain ⟨g1, g2⟩ := foldmax ((mks.filter fun mk => lawGoes (signsAt W f) mk.1 row).map (·.2)) 0
    refine ⟨g2 0 (List.mem_cons_self ..), ?_⟩
    rcases List.mem_cons.mp g1 with e | e
    · show maxOf _ ≤ _
      unfold maxOf
      rw [e]
      omega
    · obtain ⟨mk, hmk, e⟩ := List.mem_map.mp e
      show maxOf _ ≤ _
      unfold maxOf
      rw [← e]
      exact (hm mk (List.mem_filter.mp hmk).1).2.2
  · rw [← rowsAt_rws] at h1 h2
    have at_ : ∀ {p : Nat} {xp : List Int}, (rowsAt W f)[p]? = some xp → (tableOf (signsAt W f) (rowsAt W f) mks).getD p 0 = maxOf ((mks.filter fun mk => lawGoes (signsAt W f) mk.1 xp).map (·.2)) := fun {p xp} h => by
      unfold tableOf
      rw [List.getD_eq_getElem?_getD, List.getElem?_map, h]
      rfl
    show (tableOf (signsAt W f) (rowsAt W f) mks).getD p 0 ≤ (tableOf (signsAt W f) (rowsAt W f) mks).getD q 0
    rw [at_ h1, at_ h2]
    refine max_sub fun x hx => ?_
    obtain ⟨mk, hmk, rfl⟩ := List.mem_map.mp hx
    obtain ⟨m1, m2⟩ := List.mem_filter.mp hmk
    refine List.mem_map.mpr ⟨mk, List.mem_filter.mpr ⟨m1, ?_⟩, rfl⟩
    have es : (axes W (looksOf W f)).map (·.2) = signsAt W f := by
      unfold axes signsAt
      rw [List.map_map]
      rfl
    rw [es] at g
    refine goes_trans _ _ xp _ (signs_ok ok) ?_ m2 g
    rw [rowsAt_row (List.mem_of_getElem? h1)]
    unfold signsAt
    rw [List.length_map]
end Lk

/-! ## D28 -/
set_option Elab.async false
set_option linter.all false
set_option maxRecDepth 100000
set_option maxHeartbeats 2000000
namespace Lk
open PySem PySem.Spec PyProof.Rows L2 Gx
open GxR (TabG Tabbed TabB)
variable [Own]
theorem units1 {k : Nat} {A : Around} (h : Room k A) : A.units + 65 < cLine := by
  have := h.un
  omega
abbrev spLawTold : Sp := spMoodTold
abbrev spLawBehind : Sp := spStateTold
def spLawSettled : Sp := fun vs H Q _ => ∃ (v r : V) (W : Web) (ru : List (List Int)), vs = [v, r] ∧ WebAt H v W ∧ W.Ok ∧ TT2 H r ru ∧ RuOk W ru ∧ ∀ H' u, Ext H H' → LT2 H' (.ref u) (settledStates W ru) → Q (.ref u) H'
section
variable {P : Program} {w : World} {K : PySem.W.Frag} {mg : Str → Option Value} {base : Heap} {Ps : List Addr}
end
end Lk

/-! ## D31 -/
set_option Elab.async false
set_option linter.all false
set_option maxRecDepth 100000
set_option maxHeartbeats 2000000
namespace Lk
open PySem PySem.Spec PyProof.Rows L2 Gx
open GxR (TabG Tabbed TabB)
variable [Own]
abbrev s__law_alike : Stmt := top 39
theorem sc__law_alike : FnScope ["found", "due", "k"] ["found", "due"] (defScope s__law_alike) := ⟨rfl, rfl, rfl, by decide +kernel, rfl, by decide +kernel, by decide +kernel⟩
/-- the same int, the same truth value -/
def spAlike0 : Sp := fun vs H Q _ => ((∃ i : Int, vs = [.int i, .int i]) ∨ ∃ b : Bool, vs = [.bl b, .bl b]) ∧ ∀ H', Ext H H' → Q (.bl true) H'
/-- two lists, two tuples, whose items are alike -/
def spAlikeS (sp : Sp) : Sp := fun vs H Q _ => ∃ (a b : Addr) (k : Bool) (xs ys : List V), vs = [.ref a, .ref b] ∧ SqB k H a xs ∧ SqB k H b ys ∧ ys.length = xs.length ∧ xs.length ≤ 10000000 ∧
  (∀ (H' : Hp) (i : Nat) (x y : V) (Q' : VK) (E' : XK), Ext H H' → xs[i]? = some x → ys[i]? = some y → (∀ H'', Ext H' H'' → Q' (.bl true) H'') → sp [x, y] H' Q' E') ∧ ∀ H', Ext H H' → Q (.bl true) H'
def rIxS : R2 := fun x y H Q => ∃ p k xs i v, x = .ref p ∧ y = .int i ∧ SqB k H p xs ∧ atI xs i = some v ∧ Q v H
theorem ix_sT {X : Cx} : IxR X rIxS := by
  intro value slice pins s σ H x y v u Q I rx ry h hs
  obtain ⟨p, k, xs, i, z, e1, e2, hq, he, q⟩ := h
  cases k with
  | true => exact ix_lT value slice pins s σ H x y v u Q I rx ry ⟨p, xs, i, z, e1, e2, hq, he, q⟩ hs
  | false => exact ix_tT value slice pins s σ H x y v u Q I rx ry ⟨p, xs, i, z, e1, e2, hq, he, q⟩ hs
theorem kit2 {K : PySem.W.Frag} {t a b : String} {r1 r2 : Bool} (h1 : kitB t a = some r1) (h2 : kitB t b = some r2) : W.kitAny K (.type t) [.type a, .type b] = some (r1 || r2) := by
  unfold W.kitAny
  rw [kit_ty h1]
  cases r1 with
  | true => rfl
  | false =>
    show W.kitAny K _ _ = _
    unfold W.kitAny
    rw [kit_ty h2]
    cases r2 <;> rfl
theorem isi_seq {K : PySem.W.Frag} {k : Bool} {H : Hp} {a : Addr} {xs : List V} (h : SqB k H a xs) : TyX K H (.ref a) (.type (if k = true then "list" else "tuple")) := by
  cases k with
  | true => exact .base (.lst h)
  | false => exact .base (.tup h)
section
variable {P : Program} {w : World} {K : PySem.W.Frag} {mg : Str → Option Value} {base : Heap} {Ps : List Addr}
theorem ok_alike0 {f : Addr} {fd : FuncData} (F : Fun K "_law_alike" "_law_alike" s__law_alike f fd) (B : Blt mg) : FnOk P w K mg base CX0 1 f fd ["found", "due"] spAlike0 := by
  refine F.ok sc__law_alike (fun vs H Q E h => ?_) (fun cdv A outer s0 H vs Q E hr h => ?_)
  · obtain ⟨⟨i, rfl⟩ | ⟨b, rfl⟩, _⟩ := h <;> rfl
  · obtain ⟨hv, k⟩ := h
    refine ⟨_, (pss_cons (ps_if (pt_val (pe_callB call_isiT (by rfl) B.isi boot_isinstance (pa_cons (pv 1) (pa_cons (pe_tup (pa_cons (pe_bltn (v := .ty "tuple") (by rfl) B.tuple boot_tyTuple rfl) (pa_cons (pe_bltn (v := .ty "list") (by rfl) B.list boot_tyList rfl) pa_nil))) pa_nil))))
        (pss_cons (ps_if (PW.pt (pw_or (pt_not (pt_val (pe_callB call_isiT (by rfl) B.isi boot_isinstance (pa_cons (pv 0) (pa_cons (pe_tup (pa_cons (pe_bltn (v := .ty "tuple") (by rfl) B.tuple boot_tyTuple rfl) (pa_cons (pe_bltn (v := .ty "list") (by rfl) B.list boot_tyList rfl) pa_nil))) pa_nil))))) (pw_or1 (pt_cmpR op_ne (pe_callB call_isi (by rfl) B.isi boot_isinstance (pa_cons (pv 0) (pa_cons (pe_bltn (v := .ty "list") (by rfl) B.list boot_tyList rfl) pa_nil))) (pe_callB call_isi (by rfl) B.isi boot_isinstance (pa_cons (pv 1) (pa_cons (pe_bltn (v := .ty "list") (by rfl) B.list boot_tyList rfl) pa_nil))) (nomark _)))))
          (pss_one (ps_ret pe_bl)) pss_nil)
        (pss_cons (ps_if (pt_cmpR op_ne (pe_callB call_lenT (by rfl) B.len PySem.boot_len (pa_cons (pv 0) pa_nil)) (pe_callB call_lenT (by rfl) B.len PySem.boot_len (pa_cons (pv 1) pa_nil)) (nomark _))
          (pss_one (ps_ret pe_bl)) pss_nil)
        (pss_one ps_never))) pss_nil)
      (pss_cons (ps_if (PW.pt (pw_or (pt_cmpR op_isN (pv 1) pe_non (nomark _)) (pw_or1 (pt_val (pe_callB call_isi (by rfl) B.isi boot_isinstance (pa_cons (pv 1) (pa_cons (pe_bltn (v := .ty "str") (by rfl) B.str boot_tyStr rfl) pa_nil)))))))
        (pss_one (ps_ret (pe_and (pe_cmpR op_eq (pv 0) (pv 1) (nomark _)) (pe_one (pe_cmpR op_eq (pe_callB call_isi (by rfl) B.isi boot_isinstance (pa_cons (pv 0) (pa_cons (pe_bltn (v := .ty "str") (by rfl) B.str boot_tyStr rfl) pa_nil))) (pe_callB call_isi (by rfl) B.isi boot_isinstance (pa_cons (pv 1) (pa_cons (pe_bltn (v := .ty "str") (by rfl) B.str boot_tyStr rfl) pa_nil))) (nomark _)))))) pss_nil)
      (pss_one (ps_ret (pe_and (pe_callB call_isi (by rfl) B.isi boot_isinstance (pa_cons (pv 0) (pa_cons (pe_bltn (v := .ty "int") (by rfl) B.int boot_tyInt rfl) pa_nil))) (pe_and (pe_cmpR op_eq (pe_callB call_isi (by rfl) B.isi boot_isinstance (pa_cons (pv 0) (pa_cons (pe_bltn (v := .ty "bool") (by rfl) B.bool boot_tyBool rfl) pa_nil))) (pe_callB call_isi (by rfl) B.isi boot_isinstance (pa_cons (pv 1) (pa_cons (pe_bltn (v := .ty "bool") (by rfl) B.bool boot_tyBool rfl) pa_nil))) (nomark _)) (pe_one (pe_cmpR op_eq (pv 0) (pv 1) (nomark _))))))))), ?_⟩
    obtain ⟨t, r1, x, hx, k1, k2, k3, k4, k5, ty, nn, sc⟩ : ∃ (t : String) (r1 : Bool) (x : V), vs = [x, x] ∧ kitB t "tuple" = some false ∧ kitB t "list" = some false ∧ kitB t "str" = some false ∧ kitB t "int" = some true ∧ kitB t "bool" = some r1 ∧ (∀ H', TyX K H' x (.type t)) ∧ x ≠ .non ∧ scal x x = true := by
      rcases hv with ⟨i, rfl⟩ | ⟨b, rfl⟩
      · exact ⟨"int", false, _, rfl, by decide +kernel, by decide +kernel, by decide +kernel, by decide +kernel, by decide +kernel, fun H' => .base (.int i), (by intro z; cases z), rfl⟩
      · exact ⟨"bool", true, _, rfl, by decide +kernel, by decide +kernel, by decide +kernel, by decide +kernel, by decide +kernel, fun H' => .base (.bl b), (by intro z; cases z), rfl⟩
    subst hx
    refine ⟨_, rfl, (by show 2 ≤ sizeLine; decide), fun p hp => ⟨_, p, _, _, _, _, rfl, upd_same, .cons (.ty _) (.cons (.ty _) .nil), ty _, kit2 k1 k2, _, rfl, iteF ?_⟩⟩
    have e := Ext.new hp (.tup [V.ty "tuple", V.ty "list"])
    refine ⟨_, rfl, rfl, _, rfl, ?_⟩
    rw [decide_eq_false nn]
    refine iteF ?_
    refine ⟨_, rfl, _, _, _, _, false, rfl, .ty "str", ty _, kit_ty k3, _, rfl, iteF ?_⟩
    refine ⟨_, rfl, _, _, _, _, true, rfl, .ty "int", ty _, kit_ty k4, _, rfl, iteT ?_⟩
    refine ⟨_, rfl, _, _, _, _, r1, rfl, .ty "bool", ty _, kit_ty k5, _, rfl, _, _, _, _, r1, rfl, .ty "bool", ty _, kit_ty k5, rfl, _, rfl, ?_⟩
    rw [decide_eq_true rfl]
    refine iteT ⟨_, rfl, _, rfl, sc, ?_⟩
    rw [decide_eq_true rfl]
    exact k _ e
theorem ok_alikeS {n : Nat} {sp : Sp} (len : ∀ vs H Q E, sp vs H Q E → vs.length = 2) {f : Addr} {fd : FuncData} (F : Fun K "_law_alike" "_law_alike" s__law_alike f fd) (B : Blt mg) (c__law_alike : Cal P w K mg base CX0 (n + 1) "_law_alike" ["found", "due"] sp) : FnOk P w K mg base CX0 (n + 2) f fd ["found", "due"] (spAlikeS sp) := by
  refine F.ok sc__law_alike (fun vs H Q E h => ?_) (fun cdv A outer s0 H vs Q E hr h => ?_)
  · obtain ⟨a, b, k, xs, ys, rfl, _⟩ := h
    rfl
  · obtain ⟨a, b, kk, xs, ys, rfl, ha, hb, ly, hl, ks, k⟩ := h
    refine ⟨_, (pss_cons (ps_if (pt_val (pe_callB call_isiT (by rfl) B.isi boot_isinstance (pa_cons (pv 1) (pa_cons (pe_tup (pa_cons (pe_bltn (v := .ty "tuple") (by rfl) B.tuple boot_tyTuple rfl) (pa_cons (pe_bltn (v := .ty "list") (by rfl) B.list boot_tyList rfl) pa_nil))) pa_nil))))
        (pss_cons (ps_if (PW.pt (pw_or (pt_not (pt_val (pe_callB call_isiT (by rfl) B.isi boot_isinstance (pa_cons (pv 0) (pa_cons (pe_tup (pa_cons (pe_bltn (v := .ty "tuple") (by rfl) B.tuple boot_tyTuple rfl) (pa_cons (pe_bltn (v := .ty "list") (by rfl) B.list boot_tyList rfl) pa_nil))) pa_nil))))) (pw_or1 (pt_cmpR op_ne (pe_callB call_isi (by rfl) B.isi boot_isinstance (pa_cons (pv 0) (pa_cons (pe_bltn (v := .ty "list") (by rfl) B.list boot_tyList rfl) pa_nil))) (pe_callB call_isi (by rfl) B.isi boot_isinstance (pa_cons (pv 1) (pa_cons (pe_bltn (v := .ty "list") (by rfl) B.list boot_tyList rfl) pa_nil))) (nomark _)))))
          (pss_one (ps_ret pe_bl)) pss_nil)
        (pss_cons (ps_if (pt_cmpR op_ne (pe_callB call_lenT (by rfl) B.len PySem.boot_len (pa_cons (pv 0) pa_nil)) (pe_callB call_lenT (by rfl) B.len PySem.boot_len (pa_cons (pv 1) pa_nil)) (nomark _))
          (pss_one (ps_ret pe_bl)) pss_nil)
        (pss_one (ps_ret (pe_cmpR (op_eqLn hr.units) (pe_lc (own := [("k", 2)]) rfl sc__law_alike.nd (pi_range1 (by rfl) B.range (pa_cons (pe_callB call_lenT (by rfl) B.len PySem.boot_len (pa_cons (pv 1) pa_nil)) pa_nil)) (blkOk_by (N := ["found", "due", "k"]) (sc := defScope s__law_alike) (by decide +kernel)) (fun _ _ _ _ _ => (pg_name (i := 2) sc__law_alike.nd rfl (by first | exact Or.inl rfl | exact Or.inr rfl))) (fun _ _ _ _ _ => (pts_one (pt_not (pt_val (pe_c0 c__law_alike hr (by rfl) (pa_cons (pe_ix ix_sT (pv 0) (pv 2) (fun _ _ => rfl)) (pa_cons (pe_ix ix_sT (pv 1) (pv 2) (fun _ _ => rfl)) pa_nil))))))) (fun _ _ _ _ _ => (pv 2))) (pe_lst pa_nil) (nomark _)))))) pss_nil)
      (pss_cons (ps_if (PW.pt (pw_or (pt_cmpR op_isN (pv 1) pe_non (nomark _)) (pw_or1 (pt_val (pe_callB call_isi (by rfl) B.isi boot_isinstance (pa_cons (pv 1) (pa_cons (pe_bltn (v := .ty "str") (by rfl) B.str boot_tyStr rfl) pa_nil)))))))
        (pss_one (ps_ret (pe_and (pe_cmpR op_eq (pv 0) (pv 1) (nomark _)) (pe_one (pe_cmpR op_eq (pe_callB call_isi (by rfl) B.isi boot_isinstance (pa_cons (pv 0) (pa_cons (pe_bltn (v := .ty "str") (by rfl) B.str boot_tyStr rfl) pa_nil))) (pe_callB call_isi (by rfl) B.isi boot_isinstance (pa_cons (pv 1) (pa_cons (pe_bltn (v := .ty "str") (by rfl) B.str boot_tyStr rfl) pa_nil))) (nomark _)))))) pss_nil)
      (pss_one (ps_ret (pe_and (pe_callB call_isi (by rfl) B.isi boot_isinstance (pa_cons (pv 0) (pa_cons (pe_bltn (v := .ty "int") (by rfl) B.int boot_tyInt rfl) pa_nil))) (pe_and (pe_cmpR op_eq (pe_callB call_isi (by rfl) B.isi boot_isinstance (pa_cons (pv 0) (pa_cons (pe_bltn (v := .ty "bool") (by rfl) B.bool boot_tyBool rfl) pa_nil))) (pe_callB call_isi (by rfl) B.isi boot_isinstance (pa_cons (pv 1) (pa_cons (pe_bltn (v := .ty "bool") (by rfl) B.bool boot_tyBool rfl) pa_nil))) (nomark _)) (pe_one (pe_cmpR op_eq (pv 0) (pv 1) (nomark _))))))))), ?_⟩
    have both : W.kitAny K (.type (if kk = true then "list" else "tuple")) [.type "tuple", .type "list"] = some true := by
      cases kk with
      | true => exact kit2 (r1 := false) (r2 := true) (by decide +kernel) (by decide +kernel)
      | false => exact kit2 (r1 := true) (r2 := false) (by decide +kernel) (by decide +kernel)
    have isl : W.kitOne K (.type (if kk = true then "list" else "tuple")) (.type "list") = some kk := by
      cases kk with
      | true => exact kit_ty (by decide +kernel)
      | false => exact kit_ty (by decide +kernel)
    refine ⟨_, rfl, (by show 2 ≤ sizeLine; decide), fun p hp => ?_⟩
    have e1 := Ext.new hp (.tup [V.ty "tuple", V.ty "list"])
    refine ⟨_, p, _, _, _, _, rfl, upd_same, .cons (.ty _) (.cons (.ty _) .nil), isi_seq (hb.ext e1), both, _, rfl, iteT ?_⟩
    refine ⟨_, rfl, (by show 2 ≤ sizeLine; decide), fun p2 hp2 => ?_⟩
    have e2 := e1.trans (Ext.new hp2 (.tup [V.ty "tuple", V.ty "list"]))
    refine ⟨_, p2, _, _, _, _, rfl, upd_same, .cons (.ty _) (.cons (.ty _) .nil), isi_seq (ha.ext e2), both, _, rfl, iteF ?_⟩
    refine ⟨_, rfl, _, _, _, _, _, rfl, .ty "list", isi_seq (ha.ext e2), isl, _, rfl, _, _, _, _, _, rfl, .ty "list", isi_seq (hb.ext e2), isl, rfl, _, rfl, ?_⟩
    have en : (!decide (V.bl kk = V.bl kk)) = false := by rw [decide_eq_true rfl]; rfl
    rw [en]
    refine iteF ?_
    have lenOf : ∀ {H' : Hp} {c : Addr} {zs : List V}, SqB kk H' c zs → H' c = some (.lst zs) ∨ H' c = some (.tup zs) := fun {H' c zs} h => by
      cases kk with
      | true => exact .inl h
      | false => exact .inr h
    refine ⟨_, rfl, a, xs, rfl, lenOf (ha.ext e2), _, rfl, b, ys, rfl, lenOf (hb.ext e2), rfl, _, rfl, ?_⟩
    have en2 : (!decide (V.int (xs.length : Nat) = V.int (ys.length : Nat))) = false := by rw [ly, decide_eq_true rfl]; rfl
    rw [en2]
    refine iteF ?_
    refine ⟨_, rfl, b, ys, rfl, lenOf (hb.ext e2), _, rfl, by omega, by omega, fun D hD => ?_⟩
    have en3 : ((ys.length : Nat) : Int).toNat = xs.length := by omega
    rw [en3]
    generalize hH2 : L2.upd (L2.upd H p _) p2 _ = H2 at e2 hD ⊢
    clear hH2
    refine lc_range (lo := 0) (n := xs.length) (fun i H' => H' D = some (.lst []) ∧ Ext H2 H') ⟨upd_same, Ext.new hD _⟩ (fun i H' hi ⟨h1, e⟩ => ?_) fun H' ⟨h1, e⟩ => ?_
    · have ei : (0 : Int) + (i : Int) = (i : Int) := Int.zero_add _
      rw [ei]
      have hx : xs[i]? = some xs[i] := List.getElem?_eq_getElem hi
      have hy : ys[i]? = some (ys[i]'(by omega)) := List.getElem?_eq_getElem (by omega)
      refine ⟨rfl, ?_⟩
      refine ⟨_, rfl, _, rfl, a, kk, xs, _, _, rfl, rfl, (ha.ext e2).ext e, at_of (j := i) rfl hx, _, rfl, _, rfl, b, kk, ys, _, _, rfl, rfl, (hb.ext e2).ext e, at_of (j := i) rfl hy, ?_⟩
      refine ks H' i _ _ _ _ (e2.trans e) hx hy fun H'' e'' => ⟨_, rfl, iteF ⟨e''.lst h1, e.trans e''⟩⟩
    · refine ⟨(by show 0 ≤ sizeLine; decide), fun u hu => ?_⟩
      refine ⟨D, u, 0, rfl, rfl, by rw [upd_ne (ne_of_none h1 hu)]; exact h1, upd_same, ?_⟩
      exact k _ ((e2.trans e).trans (Ext.new hu _))
end
end Lk

/-! ## Lam1 -/
set_option Elab.async false
set_option linter.all false
set_option maxRecDepth 100000
set_option maxHeartbeats 2000000
/-! A lambda with parameters, that captures names of the def where it is made, handed to another def and called there. -/
namespace Lk
open PySem PySem.Spec PyProof.Rows L2 LamX NdefX
variable [Own]
/-- the object at f is the lambda with the words F, the expression b -/
def LmO (f : Addr) (F : NF) (b : Expr) : HO := .ext fun h => ∃ pm ctv : Value, h.get? f = some (PySem.W.kla_obj "<lambda>" F.qual F.params b F.scope F.cl pm F.c ctv)
theorem lm_at {P : Program} {w : World} {H : Hp} {h : Heap} {f : Addr} {F : NF} {b : Expr} (hok : HOk P w H h) (e : H f = some (LmO f F b)) : ∃ pm ctv : Value, h.get? f = some (PySem.W.kla_obj "<lambda>" F.qual F.params b F.scope F.cl pm F.c ctv) := (hok f _ e).1
section
variable {X : Cx} {pins : List (Addr × Obj)} {σ : L2.St} {H : Hp} {s : Shared}
theorem lm_track {F : NF} {b : Expr} {pm ctv : Value} {t' : Nat} (I : Inv X pins σ H s) :
    Inv X pins σ (upd H s.heap.objs.size (LmO s.heap.objs.size F b)) { s with heap := s.heap.push (PySem.W.kla_obj "<lambda>" F.qual F.params b F.scope F.cl pm F.c ctv), toks := t' } := by
  have e : (s.heap.push (PySem.W.kla_obj "<lambda>" F.qual F.params b F.scope F.cl pm F.c ctv)).get? s.heap.objs.size = some (PySem.W.kla_obj "<lambda>" F.qual F.params b F.scope F.cl pm F.c ctv) := Heap.get?_push_size _ rfl
  exact I.laid (a := s.heap.objs.size) (fun a u z => Heap.get?_push_of_some _ z) (Nat.le_refl _) ⟨⟨pm, ctv, e⟩, ⟨_, e⟩, fun h1 h2 ⟨p, t, z⟩ st => ⟨p, t, st _ z⟩⟩
theorem lam_new {c P : Addr} {q : Str} {params : Arguments} {body : Expr} {scope : Scope} {pos : Pos} {E : Value → Shared → Prop} {Q : Value → Shared → Prop} (I : Inv X pins σ H s) (TB : LamX.TabB X.base X.mg c P) (hcode : X.env.code = .ref c) (hT : TabS H P q) (hq : X.env.qual ++ "<lambda>" = q)
    (hdef : defaultsOf params X.env = ([], [])) (hfree : ∀ y ∈ scope.names, y.2 = .free → ∃ c, X.env.cells.lookup y.1 = some c)
    (k : ∀ (f c' : Addr) (H2 : Hp) (s2 : Shared), Inv X pins σ H2 s2 → (∀ b o, b ≠ P → H b = some o → H2 b = some o) → TabS H2 P q → (∀ b, H2 b = none → H b = none) → H2 f = some (LmO f ⟨"<lambda>", q, params, [], scope, cloFrom X.env.cells scope.names [], c'⟩ body) → H2 c' = some (CodeO c' q) → Q (.ref f) s2) :
    wpAny (model X.prog X.w) X.A (eval (.Lambda params body scope pos) X.env) Q E s := by
  subst hq
  obtain ⟨tb, tP, tOk, tAll⟩ := hT
  refine PySem.W.kla_eval hdef ?_
  have old : s.heap.get? P = some { cls := .none, data := .fields tb } := I.hok P _ tP
  have blt : s.heap.BuiltinsAt X.mg P := TB.bm.keeps I.bk
  cases found : codeAmong pos tb.toList with
  | some cv =>
    obtain ⟨c0, rfl, c0O⟩ := tAll pos cv found
    refine PySem.W.kla_makeFunctionHit (mg := X.mg) (c := c) (P := P) (ps := tb) (closure_ok hfree) I.ok.glob (I.mod.glob.keeps I.bk) hcode (TB.code.keeps I.bk) old tOk found blt fun ctv hh tk grown hsz => ?_
    have J : Inv X pins σ H { s with heap := hh, toks := tk } := I.kept grown
    have nf : H hh.objs.size = none := J.hok.fresh (Nat.le_refl _)
    have ext : ∀ b o, H b = some o → upd H hh.objs.size (LmO hh.objs.size ⟨"<lambda>", X.env.qual ++ "<lambda>", params, [], scope, cloFrom X.env.cells scope.names [], c0⟩ body) b = some o := fun b o e => (upd_ne (ne_of_none e nf)).trans e
    refine k hh.objs.size c0 _ _ (lm_track (F := ⟨"<lambda>", X.env.qual ++ "<lambda>", params, [], scope, cloFrom X.env.cells scope.names [], c0⟩) J) (fun b o _ e => ext b o e) (TabS.ext ⟨tb, tP, tOk, tAll⟩ ext) (fun b e => upd_none e) upd_same (ext _ _ c0O)
  | none =>
    refine PySem.W.kla_makeFunction (mg := X.mg) (c := c) (P := P) (ps := tb) (closure_ok hfree) I.ok.glob (I.mod.glob.keeps I.bk) hcode (TB.code.keeps I.bk) old tOk found TB.gP blt fun c1 ctv hh tk grown hge hlt hrec htb => ?_
    obtain ⟨c2, oc, vs, t, e2, hoc, hd, hv⟩ := hrec
    cases e2
    have nC : H c1 = none := I.hok.fresh hge
    have nCP : P ≠ c1 := ne_of_none tP nC
    have J := inv_table (q := X.env.qual ++ "<lambda>") (t' := tk) (more := #[rawInt pos.line, rawInt pos.col, .ref c1]) (h' := hh) I tP (fun b o hb e => grown b o hb e) htb hge ⟨oc, vs, t, hoc, hd, hv⟩
    have nf := J.hok.fresh (Nat.le_refl hh.objs.size)
    have J2 := lm_track (F := ⟨"<lambda>", X.env.qual ++ "<lambda>", params, [], scope, cloFrom X.env.cells scope.names [], c1⟩) (b := body) (pm := (X.mg "__name__").getD .none) (ctv := ctv) (t' := tk) J
    have ext : ∀ b o, b ≠ P → H b = some o → upd (upd H P (.tbl (tb ++ #[rawInt pos.line, rawInt pos.col, .ref c1]))) c1 (CodeO c1 (X.env.qual ++ "<lambda>")) b = some o := fun b o hb e => by
      rw [upd_ne (ne_of_none e nC), upd_ne hb]
      exact e
    have e1 : upd (upd H P (.tbl (tb ++ #[rawInt pos.line, rawInt pos.col, .ref c1]))) c1 (CodeO c1 (X.env.qual ++ "<lambda>")) P = some (.tbl (tb ++ #[rawInt pos.line, rawInt pos.col, .ref c1])) := by
      rw [upd_ne nCP]
      exact upd_same
    have el : (tb ++ #[rawInt pos.line, rawInt pos.col, .ref c1]).toList = tb.toList ++ [rawInt pos.line, rawInt pos.col, .ref c1] := by simp
    have tS : TabS (upd (upd H P (.tbl (tb ++ #[rawInt pos.line, rawInt pos.col, .ref c1]))) c1 (CodeO c1 (X.env.qual ++ "<lambda>"))) P (X.env.qual ++ "<lambda>") := by
      refine ⟨_, e1, by rw [el]; exact PySem.TriplesOk_snoc _ _ _ _ tOk, fun p' cv hcv => ?_⟩
      rw [el] at hcv
      rcases among_app _ tOk hcv with z | z
      · obtain ⟨c0, a1, a2⟩ := tAll p' cv z
        exact ⟨c0, a1, ext _ _ (fun z => by rw [z, tP] at a2; cases a2) a2⟩
      · exact ⟨c1, z, upd_same⟩
    have lay := fun b o (e : upd (upd H P (.tbl (tb ++ #[rawInt pos.line, rawInt pos.col, .ref c1]))) c1 (CodeO c1 (X.env.qual ++ "<lambda>")) b = some o) => (upd_ne (o := LmO hh.objs.size ⟨"<lambda>", X.env.qual ++ "<lambda>", params, [], scope, cloFrom X.env.cells scope.names [], c1⟩ body) (ne_of_none e nf)).trans e
    exact k hh.objs.size c1 _ _ J2 (fun b o hb e => lay _ _ (ext b o hb e)) (tS.ext lay) (fun b e => upd_none (upd_none (upd_none e))) upd_same (lay _ _ upd_same)
end
/-- a lambda's reading: its table tells code objects of the one name -/
def tLam1 (P : Addr) (q : Str) (mk : Addr → NF) (b : Expr) : TE := fun _ H Q => TabS H P q ∧ ∀ (f c' : Addr) (H2 : Hp), (∀ b o, b ≠ P → H b = some o → H2 b = some o) → TabS H2 P q → (∀ b, H2 b = none → H b = none) → H2 f = some (LmO f (mk c') b) → H2 c' = some (CodeO c' q) → Q (.ref f) H2
/-- the words of a lambda -/
def lamF (q : Str) (params : Arguments) (scope : Scope) (cl : List (Str × Addr)) (c : Addr) : NF := ⟨"<lambda>", q, params, [], scope, cl, c⟩
theorem pe_lam1 {X : Cx} {c P : Addr} {q : Str} {params : Arguments} {body : Expr} {scope : Scope} {pos : Pos} (TB : LamX.TabB X.base X.mg c P) (hcode : X.env.code = .ref c) (hq : X.env.qual ++ "<lambda>" = q) (hdef : defaultsOf params X.env = ([], []))
    (hfree : ∀ y ∈ scope.names, y.2 = .free → X.env.scope.names.lookup y.1 = some .cell ∨ X.env.scope.names.lookup y.1 = some .free) :
    PE X (.Lambda params body scope pos) (tLam1 P q (lamF q params scope (cloFrom X.env.cells scope.names [])) body) := by
  refine ⟨fun pins s σ H Q I h => ?_⟩
  obtain ⟨hT, h⟩ := h
  refine lam_new I TB hcode hT hq hdef (fun y hy e => (hfree y hy e).elim (fun z => I.ok.has _ (.inl z)) fun z => I.ok.has _ (.inr z)) fun f c' H2 s2 I2 h1 h2 h3 h4 h5 => ⟨.ref f, H2, I2, rfl, h f c' H2 h1 h2 h3 h4 h5⟩
/-- the promise of a lambda that lets nothing out -/
structure LOk (P : Program) (w : World) (K : PySem.W.Frag) (mg : Str → Option Value) (base : Heap) (k : Nat) (mk : Addr → NF) (b : Expr) (ps fr : List Str) (sp : List (Option V) → List V → Hp → VK → Prop) : Prop where
  len : ∀ ws vs H Q, sp ws vs H Q → vs.length = ps.length
  run : ∀ (f c' : Addr) (A : Around) (outer : List Env) (s : Shared) (H : Hp) (us : List Value) (vs : List V) (ws : List (Option V)) (Q : VK), Room k A → Env0 P w K mg base A outer s H → H f = some (LmO f (mk c') b) → H c' = some (CodeO c' (mk c').qual) → CellsAt (mk c').cl fr ws s.heap H → Vals vs us → sp ws vs H Q →
    codeAny (model P w) A (.call (.ref f) ⟨us, []⟩) (CR CX0 outer P w H s Q E0) s
section
variable {P : Program} {w : World} {K : PySem.W.Frag} {mg : Str → Option Value} {base : Heap} {N ps fr : List Str} {q : Str} {params : Arguments} {scope : Scope} {cl : List (Str × Addr)} {b : Expr} {k : Nat} {sp : List (Option V) → List V → Hp → VK → Prop}
theorem lok_of (S : NScope N ps fr scope) (hb : ∀ (pm ctv : Value) (c' : Addr) (us : List Value), us.length = ps.length → bindArgs (PySem.W.kla_fn "<lambda>" q params b scope cl pm (.ref c') ctv) ⟨us, []⟩ = pure (ps.zip us)) (len : ∀ ws vs H Q, sp ws vs H Q → vs.length = ps.length)
    (hbody : ∀ (f c' : Addr) (A : Around) (outer : List Env) (s : Shared) (H : Hp) (vs : List V) (ws : List (Option V)) (Q : VK), Room k (A.deeper (envF (lamF q params scope cl c') f s.heap.objs.size)) → ws.length = fr.length → sp ws vs H Q →
      ∃ t, PE (ncx CX0 P w K mg base N (lamF q params scope cl c') f A outer s H E0) b t ∧ t (startF N vs ws) H Q) : LOk P w K mg base (k + 1) (lamF q params scope cl) b ps fr sp := by
  refine ⟨len, fun f c' A outer s H us vs ws Q hr e0 hf hc C r hsp => ?_⟩
  have hl := len _ _ _ _ hsp
  have lim : s.heap.NoLimit := e0.mod.nolimit.keeps fun b o e => (e0.bs b o e).1
  obtain ⟨pm, ctv, ho⟩ := lm_at e0.hok hf
  refine PySem.W.kla_callFunE hr.depth ho rfl S.co S.gen rfl (codeO_at e0.hok hc) ?_
  show wpAny _ _ (bindArgs (PySem.W.kla_fn "<lambda>" q params b scope cl pm (.ref c') ctv) ⟨us, []⟩) _ _ _
  rw [hb pm ctv c' us (by rw [← r.length]; exact hl)]
  refine wpAny_pure (wpAny_newFunctionEnv S.nocell (fun ⟨n, _⟩ hy => S.par n (List.of_mem_zip hy).1) (fun h₁ hns hsb => ⟨lim.fresh _ hsb, ?_⟩) S.kind)
  show codeAny _ _ (.expr b (envF (lamF q params scope cl c') f s.heap.objs.size)) _ _
  have kp : ∀ a o, s.heap.get? a = some o → h₁.get? a = some o := fun a o e => hsb.extBut a o (Nat.ne_of_lt (Heap.lt_size e)) (Heap.get?_push_of_some _ e)
  obtain ⟨t, ht, hq⟩ := hbody f c' A outer s H vs ws Q (hr.deeper _) C.len hsp
  have I : Inv (ncx CX0 P w K mg base N (lamF q params scope cl c') f A outer s H E0) [] (startF N vs ws) H { s with heap := h₁, toks := s.toks + (ps.zip us).length } := inv_startN S hr.hd e0 hl r C hns kp
  refine PySem.W.kla_codeExpr (wpAny_mono (ht.run [] _ (startF N vs ws) H Q I hq) (fun v s' hs => ?_) fun e s' hs => hs)
  obtain ⟨x, H', J, rv, q2⟩ := hs
  exact ⟨x, H', J.os, J.bare, J.base, J.hok, rv, q2⟩
end
/-- what cells held at a frame's entry they hold still, whosever they are -/
theorem cells_still {X : Cx} {pins : List (Addr × Obj)} {σ : L2.St} {H : Hp} {s : Shared} {cl : List (Str × Addr)} {fr : List Str} {ws : List (Option V)} (C : CellsAt cl fr ws X.s_0.heap X.H_0) (hx : X.ex = []) (I : Inv X pins σ H s) : CellsAt cl fr ws s.heap H := by
  have nx : ∀ a : Addr, a ∉ X.ex := fun a z => by rw [hx] at z; cases z
  have kp : ∀ a, X.H_0 a = none → ∀ v, X.s_0.heap.IsCell a v → s.heap.IsCell a v := fun a n v ⟨o, ho, hd⟩ => by
    obtain ⟨sl, h1⟩ := I.base.any ho n (nx a)
    exact ⟨_, h1, hd⟩
  refine ⟨C.len, fun y c e => ?_, C.inj, fun i y e => ?_⟩
  · obtain ⟨n, v, z⟩ := C.all y c e
    refine ⟨?_, v, kp c n v z⟩
    obtain ⟨o, ho, _⟩ := z
    exact I.base.free c o ho n (nx c)
  · obtain ⟨c, hc, hv⟩ := C.has i y e
    refine ⟨c, hc, fun v ev => ?_⟩
    obtain ⟨u, r, z⟩ := hv v ev
    exact ⟨u, r, kp c (C.all y c hc).1 _ z⟩
/-- a lambda called: the i-th slot holds it -/
def tActL (i : Nat) (f c' : Addr) (mk : Addr → NF) (b : Expr) (sp : List V → Hp → VK → Prop) (t : TA) : TE := fun σ H Q => σ[i]? = some (some (.ref f)) ∧ H f = some (LmO f (mk c') b) ∧ t σ H fun vs H1 => H1 f = some (LmO f (mk c') b) ∧ H1 c' = some (CodeO c' (mk c').qual) ∧ sp vs H1 Q
section
variable {Z : Cx} {k i j : Nat} {mk : Addr → NF} {b : Expr} {ps fr : List Str} {sp : List (Option V) → List V → Hp → VK → Prop} {f c' : Addr} {ws : List (Option V)} {x : Str} {p pos : Pos} {e : Expr} {es : List Expr} {t : TA}
theorem pe_actL (L : LOk Z.prog Z.w Z.K Z.mg Z.base k mk b ps fr sp) (C : CellsAt (mk c').cl fr ws Z.s_0.heap Z.H_0) (hex : Z.ex = []) (hr : Room k Z.A) (hN : Z.N[i]? = some x) (hv : Vis Z.env.scope x) (ha : PA Z (e :: es) t)
    (hd : (x == ("__debug__" : Str)) = false := by decide) (hcd : (x == ("__classdict__" : Str)) = false := by decide)
    (he : starEach (e :: es) Z.env = (false, eval e Z.env) :: starEach es Z.env := by rfl) (hpl : (backTo pos (starEach es Z.env)).any (·.1) = false := by rfl) :
    PE Z (.Call (.Name x p) (e :: es) [] pos) (tActL i f c' mk b (sp ws) t) := by
  refine ⟨fun pins s σ H Q I h => ?_⟩
  obtain ⟨hs, hf0, ht⟩ := h
  refine wpAny_Call_Name_kw (thn ((pe_var (pos := p) hN hv hd hcd).run pins s σ H (fun v H1 => v = .ref f ∧ H1 f = some (LmO f (mk c') b) ∧ t σ H1 fun vs H2 => H2 f = some (LmO f (mk c') b) ∧ H2 c' = some (CodeO c' (mk c').qual) ∧ sp ws vs H2 Q) I ⟨.ref f, hs, rfl, hf0, ht⟩) fun u s1 ⟨v, H1, I1, r1, q1⟩ => ?_)
  obtain ⟨rfl, hf1, q1⟩ := q1
  obtain rfl : u = Value.ref f := r1
  have hF : PySem.W.FnAt f s1.heap := by
    obtain ⟨pm, ctv, ho⟩ := lm_at I1.hok hf1
    exact ⟨_, _, _, _, ho⟩
  refine PySem.W.callWith_F (first := []) hF (thn (ha.run pos pins s1 σ H1 _ I1 q1) fun us s2 ⟨vs, H2, I2, r, h1, h2, q⟩ => ?_) he hpl
  obtain ⟨pm, ctv, ho⟩ := lm_at I2.hok h1
  refine ⟨⟨_, _, _, _, ho⟩, ?_⟩
  show wpAny _ _ (call (.ref f) us) _ _ _
  refine wpAny_call (codeAny_mono (L.run f c' Z.A Z.stack s2 H2 us vs ws Q hr I2.env0 h1 h2 (cells_still C hex I2) r q) fun r s' hq => ?_)
  cases r with
  | error e => exact (show False from hq).elim
  | ok fl =>
    cases fl with
    | ret u => exact I2.after hq
    | next => exact False.elim hq
    | brk => exact False.elim hq
    | cont => exact False.elim hq
/-- a def that gets a lambda as its last thing, and its promise -/
structure GOk (P : Program) (w : World) (K : PySem.W.Frag) (mg : Str → Option Value) (base : Heap) (k : Nat) (g : Addr) (fd : FuncData) (ps : List Str) (mk : Addr → NF) (b : Expr) (fr : List Str) (sp : List (Option V) → List V → Hp → VK → Prop) : Prop where
  len : ∀ ws vs H Q, sp ws vs H Q → vs.length = ps.length
  run : ∀ (A : Around) (outer : List Env) (s : Shared) (H : Hp) (us : List Value) (vs : List V) (ws : List (Option V)) (f c' : Addr) (Q : VK), Room k A → Env0 P w K mg base A outer s H → vs.getLast? = some (.ref f) → H f = some (LmO f (mk c') b) → H c' = some (CodeO c' (mk c').qual) →
    CellsAt (mk c').cl fr ws s.heap H → BindsTo s fd ⟨us, []⟩ (ps.zip us) → Vals vs us → sp ws vs H Q → codeAny (model P w) A (.call (.ref g) ⟨us, []⟩) (CR CX0 outer P w H s Q E0) s
/-- g(.., lambda ..) -/
def tCallG (mk : Addr → NF) (b : Expr) (js : List Nat) (sp : List (Option V) → List V → Hp → VK → Prop) (t : TA) : TE := fun σ H Q => t σ H fun vs H1 => ∃ f c', vs.getLast? = some (.ref f) ∧ H1 f = some (LmO f (mk c') b) ∧ H1 c' = some (CodeO c' (mk c').qual) ∧ sp (js.map (slotAt σ)) vs H1 Q
theorem pe_callG {X : Cx} {g : Addr} {fd : FuncData} {js : List Nat} {cl : List (Str × Addr)} (G : GOk X.prog X.w X.K X.mg X.base k g fd ps mk b fr sp) (hcl : ∀ c', (mk c').cl = cl) (cp : X.Ok → Caps X cl fr js) (hr : Room k X.A) (hg : Gl X x) (hm : X.mg x = some (.ref g)) (hk : PySem.W.keepIn X.K (.ref g) = true) (hb : Binds X.K fd ps [])
    (ha : PA X (e :: es) t) (hdb : (x == ("__debug__" : Str)) = false := by decide) (he : starEach (e :: es) X.env = (false, eval e X.env) :: starEach es X.env := by rfl) (hpl : (backTo pos (starEach es X.env)).any (·.1) = false := by rfl) :
    PE X (.Call (.Name x p) (e :: es) [] pos) (tCallG mk b js sp t) := by
  refine ⟨fun pins s σ H Q I h => ?_⟩
  refine wpAny_Call_Name_kw (ld_glob I hg hm ?_ hdb)
  refine PySem.W.callWith_K (h₀ := X.base) I.ok.mod.kin hk (thn (ha.run pos pins s σ H _ I h) fun us s2 ⟨vs, H2, I2, r, f, c', h0, h1, h2, q⟩ => ⟨I2.kIn, ?_⟩) he hpl
  show wpAny _ _ (call (.ref g) us) _ _ _
  have hl : us.length = ps.length := by rw [← r.length]; exact G.len _ _ _ _ q
  have bd := hb s2 us I2.kIn (by rw [List.append_nil]; exact hl)
  rw [List.append_nil] at bd
  refine wpAny_call (codeAny_mono (G.run X.A X.stack s2 H2 us vs _ f c' Q hr I2.env0 h0 h1 h2 (by rw [hcl c']; exact cells_of I2 (cp I2.ok)) bd r q) fun r s' hq => ?_)
  cases r with
  | error e => exact (show False from hq).elim
  | ok fl =>
    cases fl with
    | ret u => exact I2.after hq
    | next => exact False.elim hq
    | brk => exact False.elim hq
    | cont => exact False.elim hq
/-- such a def by its body -/
theorem gok_of {P : Program} {w : World} {K : PySem.W.Frag} {mg : Str → Option Value} {base : Heap} {x : Str} {st : Stmt} {g : Addr} {fd : FuncData} {N : List Str} (F : Fun K x x st g fd) (S : FnScope N ps (defScope st)) (len : ∀ ws vs H Q, sp ws vs H Q → vs.length = ps.length)
    (hbody : ∀ (cdv : Value) (A : Around) (outer : List Env) (s : Shared) (H : Hp) (vs : List V) (ws : List (Option V)) (f c' : Addr) (Q : VK), Room k (A.deeper (envOfC x (defScope st) s.heap.objs.size g cdv)) → vs.getLast? = some (.ref f) → H f = some (LmO f (mk c') b) → H c' = some (CodeO c' (mk c').qual) → CellsAt (mk c').cl fr ws s.heap H → sp ws vs H Q →
      ∃ t, PSs (cxOf CX0 P w K mg base N x (defScope st) g cdv A outer s H E0).nox (defBody st) t ∧ t { nx := fun _ H' => Q .non H', rt := Q } (start N vs) H) : GOk P w K mg base (k + 1) g fd ps mk b fr sp := by
  obtain ⟨oc, od, kV, doc, pm, an, cdv, ct, osl, rfl, lk, hcd⟩ := F.ex
  refine ⟨len, fun A outer s H us vs ws f c' Q hr e0 h0 h1 h2 C bd r q => ?_⟩
  refine run_ofS (N := N) lk hcd S hr e0 bd r (len _ _ _ _ q) fun hr' => ?_
  obtain ⟨t, h3, h4⟩ := hbody cdv A outer s H vs ws f c' Q hr' h0 h1 h2 C q
  exact ⟨t, h3.nox, h4⟩
end
end Lk

/-! ## D55 -/
set_option Elab.async false
set_option linter.all false
set_option maxRecDepth 100000
set_option maxHeartbeats 4000000
namespace Lk
open PySem PySem.Spec PyProof.Rows L2 Gx NdefX
open GxR (TabG Tabbed TabB)
variable [Own]
abbrev s__law_shown : Stmt := top 42
theorem sc__law_shown : FnScope ["web", "every", "sign", "found", "shows", "ring", "some", "least", "bad"] ["web", "every", "sign", "found", "shows"] (defScope s__law_shown) := ⟨rfl, rfl, rfl, by decide +kernel, rfl, by decide +kernel, by decide +kernel⟩
/-- 1 for even ones, -1 for odd ones -/
def sgB (b : Bool) : Int := if b = true then 1 else -1
def spLam (Ps : List Addr) (b : Bool) : List (Option V) → List V → Hp → VK → Prop := fun ws vs H Q => ∃ (wv x : V), ws = [some wv] ∧ vs = [x] ∧ spShows Ps b [wv, x] H Q E0
def spShown (Ps : List Addr) (b : Bool) : List (Option V) → List V → Hp → VK → Prop := fun ws vs H Q => ∃ (wv ev fv : V) (f : Addr) (W : Web), ws = [some wv] ∧ vs = [wv, ev, .int (sgB b), fv, .ref f] ∧ WebAt H wv W ∧ W.Ok ∧ Tabs Ps H ∧ LT2 H ev (ringsOf W) ∧
  ((kindOf W b = [] ∧ fv = .non) ∨ ∃ ring, TI H fv ring ∧ shortest (kindOf W b) ring = true) ∧ ∀ H', Ext H H' → Q (.bl true) H'
theorem sgn_ok {W : Web} (ok : W.Ok) {p : List Int} (h : PathOk W.looks p) : ∀ n ∈ p, lks W.looks n = 1 ∨ lks W.looks n = -1 := fun n hn => (ok.look _ (lookN_mem (h.num n hn).1 (h.num n hn).2)).2.2
theorem kind_prod {W : Web} (ok : W.Ok) (b : Bool) : (ringsOf W).filter (fun p => prodS W.looks p == sgB b) = kindOf W b := by
  unfold kindOf
  refine List.filter_congr fun p hp => ?_
  rw [prod_even (sgn_ok ok (ring_ok hp).1)]
  cases evenP W.looks p <;> cases b <;> rfl
/-- any thing that is no ring -/
def BadV (H : Hp) (x : V) : Prop := (∃ ring : List Int, TI H x ring ∧ ring.length ≤ 100 ∧ (ring = [] ∨ ∃ n ∈ ring, n < 0 ∨ 14 ≤ n)) ∨ (NoRing H x ∧ x ≠ .non)
theorem BadV.ext {H H' : Hp} {x : V} (e : Ext H H') (h : BadV H x) : BadV H' x := by
  rcases h with ⟨r, h1, h2⟩ | ⟨h1, h2⟩
  · exact .inl ⟨r, h1.ext e, h2⟩
  · exact .inr ⟨h1.ext e, h2⟩
theorem bad_shows {Ps : List Addr} {b : Bool} {H : Hp} {x wv : V} {W : Web} {Q : VK} (hb : BadV H x) (hW : WebAt H wv W) (ok : W.Ok) (hT : Tabs Ps H) (k : ∀ H', Ext H H' → Q (.bl false) H') : spLam Ps b [some wv] [x] H Q := by
  refine ⟨wv, x, rfl, rfl, wv, x, W, rfl, hW, ok, hT, ?_⟩
  rcases hb with ⟨r, h1, h2, h3⟩ | ⟨h1, h2⟩
  · refine .inl ⟨r, h1, h2, fun H' e => ?_⟩
    have : shortest (kindOf W b) r = false := by
      unfold shortest
      refine decide_eq_false fun z => ?_
      have q := (ring_ok (kind_sub z.1)).1
      rcases h3 with e | ⟨n, hn, h4⟩
      · exact q.ne e
      · have := q.num n hn
        have := ok.most
        omega
    rw [this]
    exact k H' e
  · refine .inr ⟨h1, fun H' e => ?_⟩
    rw [decide_eq_false h2]
    exact k H' e
theorem found_false {fv : V} {S : List (List Int)} {D : Addr} {m : Int} {σ : L2.St} {H : Hp} {R : Bool → Hp → Prop} (h3 : σ[3]? = some (some fv)) (h6 : σ[6]? = some (some (.ref D))) (h7 : σ[7]? = some (some (.int m))) (hS : LT2 H (.ref D) S)
    (hf : fv = .non ∨ ∃ ring, TI H fv ring ∧ ring ∈ S ∧ (ring.length : Int) = m) (k : R false H) :
    tAnd (tTest (tOp (fun x y H Q => y = .non ∧ Q (.bl (!decide (x = .non))) H) (tVar 3) (tC .non))) (tOr (tTest (tOp rNotInTI (tVar 3) (tVar 6))) (tTest (tOp rNe (tCB rLenT (tCons (tVar 3) tNil)) (tVar 7)))) σ H R := by
  rcases hf with rfl | ⟨ring, hr, hin, hm⟩
  · exact ⟨_, h3, rfl, _, rfl, iteF k⟩
  · obtain ⟨z, rfl, hz⟩ := id hr
    refine ⟨_, h3, rfl, _, rfl, iteT ?_⟩
    refine ⟨_, h3, _, h6, ring, S, hr, hS, _, rfl, ?_⟩
    rw [decide_eq_true hin]
    refine iteF ?_
    refine ⟨_, h3, z, _, rfl, .inr hz, _, h7, rfl, _, rfl, ?_⟩
    have : decide (V.int ((iv ring).length : Nat) = V.int m) = true := decide_eq_true (by rw [iv_len, hm])
    rw [this]
    exact k
theorem and_len {ring : List Int} {S : List (List Int)} {z : Addr} {m : Int} {σ : L2.St} {H : Hp} {Q : VK} (h5 : σ[5]? = some (some (.ref z))) (h7 : σ[7]? = some (some (.int m))) (hz : H z = some (.tup (iv ring)))
    (key : ∀ ring : List Int, ring ∈ S → (decide (V.int (ring.length : Nat) = V.int m)) = shortest S ring) (k : Q (.bl (shortest S ring)) H) :
    if decide (ring ∈ S) = true then tOp rEq (tCB rLenT (tCons (tVar 5) tNil)) (tVar 7) σ H Q else Q (.bl false) H := by
  by_cases hin : ring ∈ S
  · rw [decide_eq_true hin]
    refine iteT ⟨_, h5, z, _, rfl, .inr hz, _, h7, rfl, ?_⟩
    rw [iv_len, key ring hin]
    exact k
  · rw [decide_eq_false hin]
    have : shortest S ring = false := decide_eq_false fun q => hin q.1
    rw [this] at k
    exact iteF k
section
variable {P : Program} {w : World} {K : PySem.W.Frag} {mg : Str → Option Value} {base : Heap} {Ps : List Addr} {mk : Addr → NF} {le : Expr} {bb : Bool}
theorem ok_law_shown {f : Addr} {fd : FuncData} (F : Fun K "_law_shown" "_law_shown" s__law_shown f fd) (B : Blt mg) (bmin : mg "min" = none)
    (L : LOk P w K mg base 8 mk le ["value"] ["web"] (spLam Ps bb)) (c__law_sign : Cal P w K mg base CX0 1 "_law_sign" ["web", "ring"] spLawSign) (c_alike0 : Cal P w K mg base CX0 1 "_law_alike" ["found", "due"] spAlike0) :
    GOk P w K mg base 9 f fd ["web", "every", "sign", "found", "shows"] mk le ["web"] (spShown Ps bb) := by
  refine gok_of F sc__law_shown (fun ws vs H Q h => ?_) (fun cdv A outer s H vs ws fl cl Q hr hgl hfl hcl C h => ?_)
  · obtain ⟨wv, ev, fv, f, W, _, rfl, _⟩ := h
    rfl
  · obtain ⟨wv, ev, fv, ff, W, rfl, rfl, hW, ok, hTb, ⟨ea, evs, rfl, hea, hevs⟩, hfound, k⟩ := h
    have hff : ff = fl := by simpa using hgl
    subst hff
    refine ⟨_, (pss_cons (ps_setLc (i := 6) (own := [("ring", 5)]) rfl sc__law_shown.nd rfl rfl (sw_true rfl rfl rfl (by decide +kernel)) (pi_list (pv 1)) (blkOk_by (N := ["web", "every", "sign", "found", "shows", "ring", "some", "least", "bad"]) (sc := defScope s__law_shown) (by decide +kernel)) (fun _ _ _ _ _ => (pg_name (i := 5) sc__law_shown.nd rfl (by first | exact Or.inl rfl | exact Or.inr rfl))) (fun _ _ _ _ _ => (pts_one (pt_cmpR op_eq (pe_c0 c__law_sign (hr.mono (by decide)) (by rfl) (pa_cons (pv 0) (pa_cons (pv 5) pa_nil))) (pv 2) (nomark _)))) (fun _ _ _ _ _ => (pv 5)))
      (pss_cons (ps_set (i := 7) sc__law_shown.nd rfl (by first | exact Or.inl rfl | exact Or.inr rfl) (pe_callB (cr_min rfl) (by rfl) bmin boot_min (pa_cons (pe_op op_cat (pe_lc (own := [("ring", 5)]) rfl sc__law_shown.nd (pi_list (pv 6)) (blkOk_by (N := ["web", "every", "sign", "found", "shows", "ring", "some", "least", "bad"]) (sc := defScope s__law_shown) (by decide +kernel)) (fun _ _ _ _ _ => (pg_name (i := 5) sc__law_shown.nd rfl (by first | exact Or.inl rfl | exact Or.inr rfl))) (fun _ _ _ _ _ => pts_nil) (fun _ _ _ _ _ => (pe_callB call_lenT (by rfl) B.len PySem.boot_len (pa_cons (pv 5) pa_nil)))) (pe_lst (pa_cons pe_int pa_nil))) pa_nil)))
      (pss_cons (ps_if (PW.pt (pw_or (pt_cmpR op_ne (pe_cmpR op_isN (pv 3) pe_non (nomark _)) (pe_cmpR (op_eqLT2 hr.units) (pv 6) (pe_lst pa_nil) (nomark _)) (nomark _)) (pw_or1 (PW.pt (pw_and (pt_cmpR op_notN (pv 3) pe_non (nomark _)) (pw_and1 (PW.pt (pw_or (pt_cmpR (op_notInTI (un1 hr)) (pv 3) (pv 6) (by with_unfolding_all rfl)) (pw_or1 (pt_cmpR op_ne (pe_callB call_lenT (by rfl) B.len PySem.boot_len (pa_cons (pv 3) pa_nil)) (pv 7) (nomark _)))))))))))
        (pss_one (ps_ret pe_bl)) pss_nil)
      (pss_cons (ps_for PassesOwn.never rfl (pi_list (pv 1)) (pg_name (i := 5) sc__law_shown.nd rfl (by first | exact Or.inl rfl | exact Or.inr rfl))
        (pss_cons (ps_if (pt_not (pt_val (pe_c0 c_alike0 (hr.mono (by decide)) (by rfl) (pa_cons (pe_actL (i := 4) (f := ff) L C rfl (hr.mono (by decide)) rfl (Or.inl rfl) (pa_cons (pv 5) pa_nil)) (pa_cons (pe_and (pe_cmpR (op_inTI (un1 hr)) (pv 5) (pv 6) (by with_unfolding_all rfl)) (pe_one (pe_cmpR op_eq (pe_callB call_lenT (by rfl) B.len PySem.boot_len (pa_cons (pv 5) pa_nil)) (pv 7) (nomark _)))) pa_nil)))))
          (pss_one (ps_ret pe_bl)) pss_nil)
        (pss_one (ps_if (PW.pt (pw_or (pt_val (pe_actL (i := 4) (f := ff) L C rfl (hr.mono (by decide)) rfl (Or.inl rfl) (pa_cons (pe_callTy call_list_of (by rfl) B.list boot_tyList (pa_cons (pv 5) pa_nil)) pa_nil))) (pw_or (pt_val (pe_actL (i := 4) (f := ff) L C rfl (hr.mono (by decide)) rfl (Or.inl rfl) (pa_cons (pe_op op_catTT (pv 5) (pv 5)) pa_nil))) (pw_or1 (PW.pt (pw_and (pt_val (pe_actL (i := 4) (f := ff) L C rfl (hr.mono (by decide)) rfl (Or.inl rfl) (pa_cons (pe_revT (pv 5)) pa_nil))) (pw_and1 (pt_cmpR (op_notInTI (un1 hr)) (pe_revT (pv 5)) (pv 6) (by with_unfolding_all rfl)))))))))
          (pss_one (ps_ret pe_bl)) pss_nil))))
      (pss_cons (ps_if (pt_not (pt_val (pe_c0 c_alike0 (hr.mono (by decide)) (by rfl) (pa_cons (pe_actL (i := 4) (f := ff) L C rfl (hr.mono (by decide)) rfl (Or.inl rfl) (pa_cons pe_non pa_nil)) (pa_cons (pe_cmpR (op_eqLT2 hr.units) (pv 6) (pe_lst pa_nil) (nomark _)) pa_nil)))))
        (pss_one (ps_ret pe_bl)) pss_nil)
      (pss_cons (ps_for PassesOwn.never rfl (pi_list (pe_lst (pa_cons (pe_tup pa_nil) (pa_cons (pe_tup (pa_cons pe_int pa_nil)) (pa_cons (pe_tup (pa_cons pe_bl pa_nil)) (pa_cons (pe_tup (pa_cons (pe_un un_neg pe_int) pa_nil)) (pa_cons pe_dnewT (pa_cons pe_str (pa_cons pe_int (pa_cons (pe_tup (pa_cons pe_non pa_nil)) pa_nil)))))))))) (pg_name (i := 8) sc__law_shown.nd rfl (by first | exact Or.inl rfl | exact Or.inr rfl))
        (pss_one (ps_if (pt_cmpR op_isnot_bl (pe_actL (i := 4) (f := ff) L C rfl (hr.mono (by decide)) rfl (Or.inl rfl) (pa_cons (pv 8) pa_nil)) pe_bl (nomark _))
          (pss_one (ps_ret pe_bl)) pss_nil)))
      (pss_one (ps_ret pe_bl)))))))), ?_⟩
    have hz0 : sizeLine = 16777216 := rfl
    have lev := paired_len hevs
    have lrs := rings_len ok.fewL
    -- those of the kind
    refine ⟨_, rfl, ea, rfl, ⟨_, SqL.of hea⟩, fun D hD => ?_⟩
    refine lc_fmL (R := TI) (S := TI) stTI stTI (fun p => if (prodS W.looks p == sgB bb) = true then some p else none) hD hea hevs (by omega) (fun x p H3 Ky Kn e3 hmem hx k1 k2 => ?_) fun H1 acc e1 hacc hp1 => ?_
    · obtain ⟨pok, _, hl⟩ := ring_ok hmem
      refine ⟨rfl, _, rfl, _, rfl, _, _, W, p, rfl, hW.ext e3, hx, pok.num, sgn_ok ok pok, _, rfl, rfl, _, rfl, ?_⟩
      rw [dec_int]
      refine ite_of (fun hc => ?_) fun hc => ?_
      · exact ⟨_, rfl, k1 _ _ _ (if_pos hc) (Ext.refl _) hx⟩
      · exact k2 _ (if_neg (by rw [hc]; simp)) (Ext.refl _)
    rw [fmIf, kind_prod ok] at hp1
    have hsub : ∀ r ∈ kindOf W bb, r.length ≤ 7 := fun r hr => (ring_ok (kind_sub hr)).2.2
    have lks := kind_len ok.fewL bb
    generalize hS : kindOf W bb = S at hp1 hsub lks hfound
    have la := paired_len hp1
    -- the least
    refine ⟨_, rfl, D, rfl, ⟨_, SqL.of hacc⟩, fun D2 hD2 => ?_⟩
    refine lc_fmL (R := TI) (S := VI) stTI stVI (fun q => some (q.length : Int)) hD2 hacc hp1 (by omega) (fun x q H3 Ky Kn e3 hmem hx k1 k2 => ?_) fun H2 acc2 e2 hacc2 hp2 => ?_
    · obtain ⟨z, rfl, hz⟩ := hx
      refine ⟨rfl, yes ⟨_, rfl, z, _, rfl, .inr hz, k1 _ _ _ rfl (Ext.refl _) ?_⟩⟩
      show V.int ((iv q).length : Nat) = _
      rw [iv_len]
    have ea2 := pVI hp2
    subst ea2
    rw [List.filterMap_eq_map'] at hacc2
    refine ⟨(by show 1 ≤ sizeLine; decide), fun p hp => ?_⟩
    have X3 := Ext.new hp (HO.lst [V.int 99])
    refine ⟨D2, p, _, _, rfl, rfl, X3.lst hacc2, upd_same, by rw [iv_len, List.length_map]; show S.length + 1 ≤ sizeLine; omega, fun q hq => ?_⟩
    have X4 := Ext.new hq (HO.lst (iv (S.map fun q => (q.length : Int)) ++ [V.int 99]))
    have eiv : iv (S.map fun q => (q.length : Int)) ++ [V.int 99] = iv ((S.map fun q => (q.length : Int)) ++ [99]) := by
      unfold iv
      rw [List.map_append]
      rfl
    refine ⟨q, (S.map fun q => (q.length : Int)) ++ [99], rfl, SqL.of (upd_same.trans (congrArg (fun l => some (HO.lst l)) eiv)), by simp, fun m hm hle => ?_⟩
    have E4 : Ext H _ := (e1.trans e2).trans (X3.trans X4)
    have haccX := (X3.trans X4).lst (e2.lst hacc)
    have hpX := pTI.ext (e2.trans (X3.trans X4)) hp1
    generalize hX : upd (upd H2 p (HO.lst [V.int 99])) q (HO.lst (iv (S.map fun q => (q.length : Int)) ++ [V.int 99])) = X0 at E4 haccX hpX
    have hWX := hW.ext E4
    have hTX := hTb.ext E4
    have heaX := E4.lst hea
    have hevX := pTI.ext E4 hevs
    have hflX := E4.keep _ _ hfl rfl
    have hclX := E4.keep _ _ hcl rfl
    -- a shortest one
    have key : ∀ ring : List Int, ring ∈ S → (decide (V.int (ring.length : Nat) = V.int m)) = shortest S ring := fun ring hmem => by
      rw [dec_int, Bool.eq_iff_iff, beq_iff_eq]
      unfold shortest
      rw [decide_eq_true_iff]
      have h7 := hsub ring hmem
      have hr1 := hle (ring.length : Int) (List.mem_append_left _ (List.mem_map.mpr ⟨ring, hmem, rfl⟩))
      constructor
      · intro e
        refine ⟨hmem, fun r hr => ?_⟩
        have := hle (r.length : Int) (List.mem_append_left _ (List.mem_map.mpr ⟨r, hr, rfl⟩))
        omega
      · rintro ⟨_, h4⟩
        rcases List.mem_append.mp hm with h | h
        · obtain ⟨r0, h5, e0⟩ := List.mem_map.mp h
          have := h4 r0 h5
          omega
        · have := List.mem_singleton.mp h
          omega
    have lS : ∀ {H' : Hp}, Ext X0 H' → LT2 H' (.ref D) S := fun e => ⟨D, acc, rfl, e.lst haccX, pTI.ext e hpX⟩
    clear hm hle hacc hp1 hacc2 hp2 hD hD2 e2 e1 X3 X4 eiv hX
    -- found
    refine ⟨_, rfl, rfl, _, rfl, (by show 0 ≤ sizeLine; decide), fun p1 hp1 => ⟨S, [], lS (Ext.new hp1 _), ⟨p1, [], rfl, upd_same, .nil⟩, rfl, _, rfl, ?_⟩⟩
    have X5 := Ext.new hp1 (HO.lst [])
    generalize upd X0 p1 (HO.lst []) = X6 at X5
    have eb : (!decide (V.bl (decide (fv = V.non)) = V.bl (decide (S = [])))) = false := by
      rcases hfound with ⟨e1, e2⟩ | ⟨ring, ⟨z, e2, hz⟩, hsh⟩
      · rw [e1, e2]
        simp
      · have : S ≠ [] := fun e => by
          unfold shortest at hsh
          rw [decide_eq_true_iff, e] at hsh
          exact absurd hsh.1 (by simp)
        have h1 : decide (V.ref z = V.non) = false := decide_eq_false (fun q => by cases q)
        rw [e2, decide_eq_false this, h1]
        rfl
    rw [eb]
    refine iteF ?_
    refine found_false (S := S) (D := D) (m := m) rfl rfl rfl (lS X5) ?_ (iteF ?_)
    · rcases hfound with ⟨_, e2⟩ | ⟨ring, h1, h2⟩
      · exact .inl e2
      · refine .inr ⟨ring, (h1.ext E4).ext X5, ?_, ?_⟩
        · unfold shortest at h2
          rw [decide_eq_true_iff] at h2
          exact h2.1
        · have h3 := key ring (by
            unfold shortest at h2
            rw [decide_eq_true_iff] at h2
            exact h2.1)
          rw [h2] at h3
          have := of_decide_eq_true h3
          cases this
          rfl
    have hneV : ∀ z : Addr, decide (V.ref z = V.non) = false := fun z => decide_eq_false (fun q => by cases q)
    have shw : ∀ {H1 : Hp} (e : Ext X0 H1) {x : V} {Q' : VK}, ((∃ ring, TI H1 x ring ∧ ring.length ≤ 100 ∧ ∀ H', Ext H1 H' → Q' (.bl (shortest S ring)) H') ∨ (NoRing H1 x ∧ ∀ H', Ext H1 H' → Q' (.bl (decide (x = .non) && S.isEmpty)) H')) → H1 ff = some (LmO ff (mk cl) le) ∧ H1 cl = some (LamX.CodeO cl (mk cl).qual) ∧ spLam Ps bb [some wv] [x] H1 Q' := fun e x Q' h => by
      refine ⟨e.keep _ _ hflX rfl, e.keep _ _ hclX rfl, wv, x, rfl, rfl, wv, x, W, rfl, hWX.ext e, ok, hTX.ext e, ?_⟩
      rw [hS]
      exact h
    have hfl1 : ∀ {H1 : Hp}, Ext X0 H1 → H1 ff = some (LmO ff (mk cl) le) := fun e => e.keep _ _ hflX rfl
    refine ⟨_, rfl, ea, rfl, ⟨_, SqL.of (X5.lst heaX)⟩, for_list (K := K) (a := ea) (xs := evs) (fun i σ H' => ∃ o5 : Option V, σ = [some wv, some (.ref ea), some (.int (sgB bb)), some fv, some (.ref ff), o5, some (.ref D), some (.int m), none] ∧ Ext X0 H') ⟨none, rfl, X5⟩ (fun i σ H' _ ⟨_, _, e⟩ => SqL.of (e.lst heaX)) ?_ ?_⟩
    · rintro i x σ H3 hi ⟨o5, rfl, e3⟩
      obtain ⟨ring, hring, z, rfl, hz⟩ := paired_get' (pTI.ext e3 hevX) hi
      have hrm := List.mem_of_getElem? hring
      obtain ⟨pok, _, hl7⟩ := ring_ok hrm
      refine ⟨rfl, hfl1 e3, _, rfl, shw e3 (.inl ⟨ring, ⟨z, rfl, hz⟩, by omega, fun H4 e4 => ?_⟩)⟩
      have e34 := e3.trans e4
      refine ⟨_, rfl, _, rfl, ring, S, ⟨z, rfl, e4.tup hz⟩, lS e34, _, rfl, ?_⟩
      refine and_len (ring := ring) (S := S) (z := z) (m := m) rfl rfl (e4.tup hz) key ⟨.inr ⟨_, rfl⟩, fun H5 e5 => ⟨_, rfl, iteF ?_⟩⟩
      have e35 := e34.trans e5
      have hz5 := (e4.trans e5).tup hz
      -- the ring as a list
      refine ⟨rfl, hfl1 e35, _, rfl, z, _, rfl, .inr (SqT.of hz5), fun l hl => ?_⟩
      have x6 := Ext.new hl (HO.lst (iv ring))
      have e6 := e35.trans x6
      refine shw e6 (.inr ⟨.inl (.lst upd_same), fun H7 e7 => ?_⟩)
      rw [hneV]
      refine ⟨_, rfl, iteF ?_⟩
      -- twice over
      have e07 := e6.trans e7
      have hz7 := (x6.trans e7).tup hz5
      refine ⟨rfl, hfl1 e07, _, rfl, _, rfl, z, z, _, _, rfl, rfl, hz7, hz7, by rw [iv_len]; omega, fun e0 => ?_, fun _ e0 => ?_, fun _ _ p hp => ?_⟩
      · exact absurd (List.map_eq_nil_iff.mp e0) pok.ne
      · exact absurd (List.map_eq_nil_iff.mp e0) pok.ne
      have x8 := Ext.new hp (HO.tup (iv ring ++ iv ring))
      have e8 := e07.trans x8
      refine shw e8 (.inl ⟨ring ++ ring, ⟨p, rfl, ?_⟩, by rw [List.length_append]; omega, fun H9 e9 => ?_⟩)
      · rw [upd_same]
        unfold iv
        rw [List.map_append]
      have sh2 : shortest S (ring ++ ring) = false := by
        unfold shortest
        refine decide_eq_false fun q => ?_
        have h1 := q.1
        rw [← hS] at h1
        exact raw_twice pok.ne (sortT_mem.mp (kind_sub h1))
      rw [sh2]
      refine ⟨_, rfl, iteF ?_⟩
      -- from its end
      have e09 := e8.trans e9
      have hz9 := (x8.trans e9).tup hz7
      refine ⟨rfl, hfl1 e09, _, rfl, z, _, rfl, hz9, fun p hp => ?_⟩
      have x10 := Ext.new hp (HO.tup (iv ring).reverse)
      have e10 := e09.trans x10
      have erev : (iv ring).reverse = iv ring.reverse := by
        unfold iv
        rw [List.map_reverse]
      refine shw e10 (.inl ⟨ring.reverse, ⟨p, rfl, by rw [upd_same, erev]⟩, by rw [List.length_reverse]; omega, fun H11 e11 => ⟨_, rfl, ?_⟩⟩)
      have e011 := e10.trans e11
      cases hrev : shortest S ring.reverse with
      | false => exact iteF (iteF ⟨_, rfl, e011⟩)
      | true =>
        refine iteT ?_
        have hin : ring.reverse ∈ S := by
          unfold shortest at hrev
          rw [decide_eq_true_iff] at hrev
          exact hrev.1
        refine ⟨_, rfl, z, _, rfl, (x10.trans e11).tup hz9, fun p hp => ?_⟩
        have x12 := Ext.new hp (HO.tup (iv ring).reverse)
        refine ⟨_, rfl, ring.reverse, S, ⟨p, rfl, by rw [upd_same, erev]⟩, lS (e011.trans x12), _, rfl, ?_⟩
        rw [decide_eq_true hin]
        exact iteF ⟨_, rfl, e011.trans x12⟩
    rintro σ H3 ⟨o5, rfl, e3⟩
    -- None
    refine ⟨rfl, hfl1 e3, ?_⟩
    refine shw e3 (.inr ⟨.inl .non, fun H4 e4 => ?_⟩)
    have e34 := e3.trans e4
    refine ⟨_, rfl, (by show 0 ≤ sizeLine; decide), fun p hp => ?_⟩
    have x5 := Ext.new hp (HO.lst [])
    have e5 := e34.trans x5
    refine ⟨S, [], lS e5, ⟨p, [], rfl, upd_same, .nil⟩, ?_⟩
    have eN : (decide (V.non = V.non) && S.isEmpty) = decide (S = []) := by
      cases S <;> simp
    rw [eN]
    refine ⟨.inr ⟨_, rfl⟩, fun H6 e6 => ⟨_, rfl, iteF ?_⟩⟩
    have e06 := e5.trans e6
    -- things that are no rings
    refine ⟨(by show 0 ≤ sizeLine; decide), fun a0 h0 => ?_⟩
    have y0 := e06.trans (Ext.new h0 (HO.tup []))
    refine ⟨(by show 1 ≤ sizeLine; decide), fun a1 h1 => ?_⟩
    have z1 := Ext.new h1 (HO.tup [V.int 99])
    have y1 := y0.trans z1
    refine ⟨(by show 1 ≤ sizeLine; decide), fun a2 h2 => ?_⟩
    have z2 := Ext.new h2 (HO.tup [V.bl true])
    have y2 := y1.trans z2
    refine ⟨_, rfl, (by show 1 ≤ sizeLine; decide), fun a3 h3 => ?_⟩
    have z3 := Ext.new h3 (HO.tup [V.int (-1)])
    have y3 := y2.trans z3
    refine fun d hd => ?_
    have z4 := Ext.new hd (HO.dT [])
    have y4 := y3.trans z4
    refine ⟨(by show 1 ≤ sizeLine; decide), fun a4 h4 => ?_⟩
    have z5 := Ext.new h4 (HO.tup [V.non])
    have y5 := y4.trans z5
    refine ⟨(by show 8 ≤ sizeLine; decide), fun L hL => ?_⟩
    have z6 := Ext.new hL (HO.lst [.ref a0, .ref a1, .ref a2, .ref a3, .ref d, .str (Str.ofString "0"), .int 0, .ref a4])
    have y6 := y5.trans z6
    have g0 : BadV _ (.ref a0) := BadV.ext ((((z1.trans z2).trans z3).trans z4).trans (z5.trans z6)) (.inl ⟨[], ⟨a0, rfl, upd_same⟩, by decide, .inl rfl⟩)
    have g1 : BadV _ (.ref a1) := BadV.ext (((z2.trans z3).trans z4).trans (z5.trans z6)) (.inl ⟨[99], ⟨a1, rfl, upd_same⟩, by decide, .inr ⟨99, by simp, .inr (by decide)⟩⟩)
    have g2 : BadV _ (.ref a2) := BadV.ext ((z3.trans z4).trans (z5.trans z6)) (.inr ⟨.inr ⟨a2, _, rfl, upd_same, .inr ⟨_, rfl⟩⟩, by intro q; cases q⟩)
    have g3 : BadV _ (.ref a3) := BadV.ext (z4.trans (z5.trans z6)) (.inl ⟨[-1], ⟨a3, rfl, upd_same⟩, by decide, .inr ⟨-1, by simp, .inl (by decide)⟩⟩)
    have g4 : BadV _ (.ref d) := BadV.ext (z5.trans z6) (.inr ⟨.inl (.dT upd_same), by intro q; cases q⟩)
    have g5 : BadV _ (.ref a4) := BadV.ext z6 (.inr ⟨.inr ⟨a4, _, rfl, upd_same, .inl rfl⟩, by intro q; cases q⟩)
    have gL : ∀ h : Hp, (upd h L (HO.lst [.ref a0, .ref a1, .ref a2, .ref a3, .ref d, .str (Str.ofString "0"), .int 0, .ref a4])) L = some (HO.lst [.ref a0, .ref a1, .ref a2, .ref a3, .ref d, .str (Str.ofString "0"), .int 0, .ref a4]) := fun h => upd_same
    refine ⟨L, rfl, ⟨_, SqL.of (gL _)⟩, ?_⟩
    have gLL := gL (upd (upd (upd (upd (upd (upd H6 a0 (HO.tup [])) a1 (HO.tup [V.int 99])) a2 (HO.tup [V.bl true])) a3 (HO.tup [V.int (-1)])) d (HO.dT [])) a4 (HO.tup [V.non]))
    clear z1 z2 z3 z4 z5 z6 y0 y1 y2 y3 y4 y5 gL
    refine for_list (K := K) (a := L) (xs := [.ref a0, .ref a1, .ref a2, .ref a3, .ref d, .str (Str.ofString "0"), .int 0, .ref a4]) (fun i σ H' => ∃ o8 : Option V, σ = [some wv, some (.ref ea), some (.int (sgB bb)), some fv, some (.ref ff), o5, some (.ref D), some (.int m), o8] ∧ Ext _ H') ⟨none, rfl, Ext.refl _⟩ (fun i σ H' _ ⟨_, _, e⟩ => SqL.of (e.lst gLL)) ?_ ?_
    · rintro i x σ H7 hi ⟨o8, rfl, e7⟩
      have e07 := y6.trans e7
      have hb : BadV H7 x := by
        have hm := List.mem_of_getElem? hi
        simp only [List.mem_cons, List.not_mem_nil, or_false] at hm
        rcases hm with e | e | e | e | e | e | e | e
        · rw [e]; exact g0.ext e7
        · rw [e]; exact g1.ext e7
        · rw [e]; exact g2.ext e7
        · rw [e]; exact g3.ext e7
        · rw [e]; exact g4.ext e7
        · rw [e]; exact .inr ⟨.inl (.str _), by intro q; cases q⟩
        · rw [e]; exact .inr ⟨.inl (.int _), by intro q; cases q⟩
        · rw [e]; exact g5.ext e7
      refine ⟨rfl, hfl1 e07, _, rfl, hfl1 e07, e07.keep _ _ hclX rfl, bad_shows hb (hWX.ext e07) ok (hTX.ext e07) fun H8 e8 => ⟨_, _, rfl, rfl, _, rfl, iteF ⟨_, rfl, e7.trans e8⟩⟩⟩
    · rintro σ H7 ⟨o8, rfl, e7⟩
      exact k H7 (E4.trans (y6.trans e7))
end
end Lk

/-! ## D30 -/
set_option Elab.async false
set_option linter.all false
set_option maxRecDepth 100000
set_option maxHeartbeats 2000000
namespace Lk
open PySem PySem.Spec PyProof.Rows L2 Gx
open GxR (TabG Tabbed TabB)
variable [Own]
abbrev s__law_web : Stmt := top 37
theorem sc__law_web : FnScope ["row", "folk", "most", "looks", "one", "tops", "found", "seen", "turn", "other", "sign", "key"] ["row", "folk", "most", "looks"] (defScope s__law_web) := ⟨rfl, rfl, rfl, by decide +kernel, rfl, by decide +kernel, by decide +kernel⟩
def spLawWeb (K : PySem.W.Frag) : Sp := fun vs H Q _ => ∃ (r sc : Addr) (ns : List Int) (n most looks : Nat), vs = [.ref r, .int n, .int most, .int looks] ∧ Rw K H r sc ns ∧ (1 ≤ n ∧ n ≤ 6) ∧ (1 ≤ most ∧ most ≤ 3) ∧ looks ≤ 1000 ∧
  ∀ H' v W, ExtB r H H' → Rw K H' r sc ns → WebAt H' v W → W.Ok → W.tops.length = n → (∀ t ∈ W.tops, t ≤ most) → Q v H'
/-- looks drawn so far, the first first -/
structure FdOk (n : Nat) (L : List Look3) : Prop where
  nd : (L.map fun l => (l.1, l.2.1)).Nodup
  rng : ∀ l ∈ L, (0 ≤ l.1 ∧ l.1 < n) ∧ (0 ≤ l.2.1 ∧ l.2.1 < n) ∧ (l.2.2 = 1 ∨ l.2.2 = -1)
  len : L.length ≤ 14
  four : ∀ f : Int, (L.filter fun l => l.2.1 == f).length ≤ 4
def kvOf (L : List Look3) : List (List Key × V) := L.map fun l => ([Sum.inl l.1, Sum.inl l.2.1], V.int l.2.2)
def cntOf (n : Nat) (L : List Look3) : List Int := (List.range n).map fun o : Nat => (((L.filter fun l => l.2.1 == (o : Int)).length : Nat) : Int)
theorem cntOf_len (n : Nat) (L : List Look3) : (cntOf n L).length = n := by unfold cntOf; rw [List.length_map, List.length_range]
theorem cntOf_at {n : Nat} {L : List Look3} {b : Int} (h0 : 0 ≤ b) (h1 : b < n) : (cntOf n L)[b.toNat]? = some (((L.filter fun l => l.2.1 == b).length : Nat) : Int) := by
  unfold cntOf
  rw [List.getElem?_map, List.getElem?_range (by omega)]
  show some (((L.filter fun l => l.2.1 == ((b.toNat : Nat) : Int)).length : Nat) : Int) = _
  rw [show ((b.toNat : Nat) : Int) = b by omega]
theorem cntOf_snoc {n : Nat} {L : List Look3} {l : Look3} (h0 : 0 ≤ l.2.1) (h1 : l.2.1 < n) : (cntOf n L).set l.2.1.toNat ((((L.filter fun k => k.2.1 == l.2.1).length : Nat) : Int) + 1) = cntOf n (L ++ [l]) := by
  refine List.ext_getElem? fun j => ?_
  rw [List.getElem?_set, cntOf_len]
  by_cases hj : j < n
  · have e : (cntOf n (L ++ [l]))[j]? = some ((((L ++ [l]).filter fun k => k.2.1 == (j : Int)).length : Nat) : Int) := by
      unfold cntOf
      rw [List.getElem?_map, List.getElem?_range hj]
      rfl
    rw [e, List.filter_append, List.length_append]
    by_cases hb : l.2.1.toNat = j
    · have hb2 : (j : Int) = l.2.1 := by omega
      rw [if_pos hb, if_pos (by omega), hb2, List.filter_cons, if_pos (by simp)]
      simp
    · have e1 : (cntOf n L)[j]? = some (((L.filter fun k => k.2.1 == (j : Int)).length : Nat) : Int) := by
        unfold cntOf
        rw [List.getElem?_map, List.getElem?_range hj]
        rfl
      have hb2 : (l.2.1 == (j : Int)) = false := by
        rw [beq_eq_false_iff_ne]
        omega
      rw [if_neg hb, e1, List.filter_cons, hb2]
      simp
  · have e : (cntOf n (L ++ [l]))[j]? = none := List.getElem?_eq_none (by rw [cntOf_len]; omega)
    have e1 : (cntOf n L)[j]? = none := List.getElem?_eq_none (by rw [cntOf_len]; omega)
    rw [e, e1]
    by_cases hb : l.2.1.toNat = j
    · omega
    · rw [if_neg hb]
theorem kv_not {L : List Look3} {a b : Int} (h : valV (kvOf L) [Sum.inl a, Sum.inl b] = none) : (a, b) ∉ L.map fun l => (l.1, l.2.1) := by
  intro hm
  refine valV_not h ?_
  obtain ⟨l, hl, e⟩ := List.mem_map.mp hm
  refine List.mem_map.mpr ⟨([Sum.inl l.1, Sum.inl l.2.1], V.int l.2.2), List.mem_map.mpr ⟨l, hl, rfl⟩, ?_⟩
  injection e with e1 e2
  show [Sum.inl l.1, Sum.inl l.2.1] = _
  rw [e1, e2]
theorem kv_get : ∀ {L : List Look3} {l : Look3}, (L.map fun l => (l.1, l.2.1)).Nodup → l ∈ L → valV (kvOf L) [Sum.inl l.1, Sum.inl l.2.1] = some (.int l.2.2)
  | [], l, _, h => by cases h
  | k :: L, l, nd, h => by
    rw [List.map_cons, List.nodup_cons] at nd
    show valV (([Sum.inl k.1, Sum.inl k.2.1], V.int k.2.2) :: kvOf L) _ = _
    rcases List.mem_cons.mp h with e | h
    · rw [e]
      exact valV_pos rfl
    · rw [valV_neg]
      · exact kv_get nd.2 h
      · intro e
        injection e with e1 e2
        injection e1 with e1
        injection e2 with e2
        injection e2 with e2
        exact nd.1 (List.mem_map.mpr ⟨l, h, by rw [e1, e2]⟩)
theorem FdOk.nil (n : Nat) : FdOk n [] := ⟨by simp, (fun _ h => by cases h), by simp, fun _ => by simp⟩
theorem FdOk.snoc {n : Nat} {L : List Look3} (h : FdOk n L) {l : Look3} (h1 : (l.1, l.2.1) ∉ L.map fun l => (l.1, l.2.1)) (h2 : (0 ≤ l.1 ∧ l.1 < n) ∧ (0 ≤ l.2.1 ∧ l.2.1 < n) ∧ (l.2.2 = 1 ∨ l.2.2 = -1)) (h3 : L.length < 14) (h4 : (L.filter fun k => k.2.1 == l.2.1).length < 4) : FdOk n (L ++ [l]) := by
  refine ⟨?_, fun k hk => ?_, by rw [List.length_append]; simp; omega, fun f => ?_⟩
  · rw [List.map_append, List.nodup_append]
    refine ⟨h.nd, by simp, fun x hx y hy e => ?_⟩
    rw [List.mem_singleton.mp hy] at e
    rw [e] at hx
    exact h1 hx
  · rcases List.mem_append.mp hk with q | q
    · exact h.rng k q
    · rw [List.mem_singleton.mp q]
      exact h2
  · rw [List.filter_append, List.length_append]
    by_cases hf : l.2.1 = f
    · rw [← hf]
      have := List.length_filter_le (fun k : Look3 => k.2.1 == l.2.1) [l]
      simp only [List.length_singleton] at this
      omega
    · have hb2 : (l.2.1 == f) = false := by rw [beq_eq_false_iff_ne]; exact hf
      rw [List.filter_cons, hb2]
      simp
      exact h.four f
theorem perm_paired {α β : Type} {R : α → β → Prop} {ys xs : List α} (p : ys.Perm xs) : ∀ {L : List β}, Paired R xs L → ∃ L', L'.Perm L ∧ Paired R ys L' := by
  induction p with
  | nil => intro L h; exact ⟨L, .refl _, h⟩
  | cons x _ ih =>
    intro L h
    cases h with
    | cons r t =>
      obtain ⟨L', p', q⟩ := ih t
      exact ⟨_, p'.cons _, .cons r q⟩
  | swap x y l =>
    intro L h
    cases h with
    | cons r t =>
      cases t with
      | cons r2 t => exact ⟨_, .swap _ _ _, .cons r2 (.cons r t)⟩
  | trans _ _ ih1 ih2 =>
    intro L h
    obtain ⟨L1, p1, q1⟩ := ih2 h
    obtain ⟨L2, p2, q2⟩ := ih1 q1
    exact ⟨L2, p2.trans p1, q2⟩
theorem paired_pw {α β : Type} {R : α → β → Prop} {S : α → α → Prop} {T : β → β → Prop} (h : ∀ x y a b, R x a → R y b → S x y → T a b) : ∀ {ys : List α} {L : List β}, Paired R ys L → ys.Pairwise S → L.Pairwise T
  | _, _, .nil, _ => .nil
  | x :: ys, a :: L, .cons r t, p => by
    obtain ⟨p1, p2⟩ := List.pairwise_cons.mp p
    refine List.pairwise_cons.mpr ⟨fun b hb => ?_, paired_pw h t p2⟩
    obtain ⟨i, hi, rfl⟩ := List.getElem_of_mem hb
    obtain ⟨y, hy, ry⟩ := paired_get t (List.getElem?_eq_getElem hi)
    exact h x y _ _ r ry (p1 y (List.mem_of_getElem? hy))
/-- a key as a value -/
def KyAt (H : Hp) (y : V) (l : Look3) : Prop := ∃ b, y = .ref b ∧ H b = some (.tup [.int l.1, .int l.2.1])
theorem keys_ky {H : Hp} : ∀ {L : List Look3} {bs : List Addr}, IsKeys H (kvOf L) bs → Paired (KyAt H) (bs.map V.ref) L
  | [], _, .nil => .nil
  | l :: L, _, .cons r t => .cons ⟨_, rfl, r⟩ (keys_ky t)
section
variable {P : Program} {w : World} {K : PySem.W.Frag} {mg : Str → Option Value} {base : Heap} {Ps : List Addr}
theorem ok_law_web {f : Addr} {fd : FuncData} (F : Fun K "_law_web" "_law_web" s__law_web f fd) (B : Blt mg) (c__law_taken : Cal P w K mg base CX0 1 "_law_taken" ["row", "many"] (spTaken K)) : FnOk P w K mg base CX0 2 f fd ["row", "folk", "most", "looks"] (spLawWeb K) := by
  refine F.ok sc__law_web (fun vs H Q E h => ?_) (fun cdv A outer s0 H vs Q E hr h => ?_)
  · obtain ⟨r, sc, ns, n, most, looks, rfl, _⟩ := h
    rfl
  · obtain ⟨r, sc, ns, n, most, looks, rfl, hR, hn, hmost, hlooks, k⟩ := h
    refine ⟨_, (pss_cons (ps_asg (pe_tup (pa_cons (pe_tupleL (by rfl) B.tuple (pe_lc (own := [("one", 4)]) rfl sc__law_web.nd (pi_range1 (by rfl) B.range (pa_cons (pv 1) pa_nil)) (blkOk_by (N := ["row", "folk", "most", "looks", "one", "tops", "found", "seen", "turn", "other", "sign", "key"]) (sc := defScope s__law_web) (by decide +kernel)) (fun _ _ _ _ _ => (pg_name (i := 4) sc__law_web.nd rfl (by first | exact Or.inl rfl | exact Or.inr rfl))) (fun _ _ _ _ _ => pts_nil) (fun _ _ _ _ _ => (pe_op op_add pe_int (pe_c0 c__law_taken (hr.mono (by decide)) (by rfl) (pa_cons (pv 0) (pa_cons (pv 2) pa_nil))))))) (pa_cons pe_dnewT (pa_cons (pe_op op_rep (pe_lst (pa_cons pe_int pa_nil)) (pv 1)) pa_nil)))) (pg_tupT (n := 3) rfl (pgs_cons (pg_name (i := 5) sc__law_web.nd rfl (by first | exact Or.inl rfl | exact Or.inr rfl)) (pgs_cons (pg_name (i := 6) sc__law_web.nd rfl (by first | exact Or.inl rfl | exact Or.inr rfl)) (pgs_cons (pg_name (i := 7) sc__law_web.nd rfl (by first | exact Or.inl rfl | exact Or.inr rfl)) pgs_nil)))))
      (pss_cons (ps_for PassesOwn.never rfl (pi_range1 (by rfl) B.range (pa_cons (pe_c0 c__law_taken (hr.mono (by decide)) (by rfl) (pa_cons (pv 0) (pa_cons (pe_op op_add (pv 3) pe_int) pa_nil))) pa_nil)) (pg_name (i := 8) sc__law_web.nd rfl (by first | exact Or.inl rfl | exact Or.inr rfl))
        (pss_cons (ps_par (i := 4) (j := 9) rfl sc__law_web.nd rfl rfl (by decide) rfl rfl (pa_cons (pe_c0 c__law_taken (hr.mono (by decide)) (by rfl) (pa_cons (pv 0) (pa_cons (pv 1) pa_nil))) (pa_cons (pe_c0 c__law_taken (hr.mono (by decide)) (by rfl) (pa_cons (pv 0) (pa_cons (pv 1) pa_nil))) pa_nil)) (by rfl))
        (pss_cons (ps_set (i := 10) sc__law_web.nd rfl (by first | exact Or.inl rfl | exact Or.inr rfl) (pe_ix ix_lT (pe_lst (pa_cons pe_int (pa_cons (pe_un un_neg pe_int) pa_nil))) (pe_c0 c__law_taken (hr.mono (by decide)) (by rfl) (pa_cons (pv 0) (pa_cons pe_int pa_nil))) (fun _ _ => rfl)))
        (pss_one (ps_if (PW.pt (pw_and (pt_cmp (pc_dnotin (hu_of hr) (pe_tup (pa_cons (pv 4) (pa_cons (pv 9) pa_nil))) (pv 6))) (pw_and (pt_cmpR op_lt (pe_ix ix_lT (pv 7) (pv 9) (fun _ _ => rfl)) pe_int (nomark _)) (pw_and1 (pt_cmpR op_lt (pe_callB call_lenT (by rfl) B.len PySem.boot_len (pa_cons (pe_callTy (call_list_dT rfl) (by rfl) B.list boot_tyList (pa_cons (pv 6) pa_nil)) pa_nil)) pe_int (nomark _))))))
          (pss_cons (ps_dput (hu_of hr) (pv 6) (pe_tup (pa_cons (pv 4) (pa_cons (pv 9) pa_nil))) (pv 10) rfl)
          (pss_one (ps_asg (pe_op op_add (pe_ix ix_lT (pv 7) (pv 9) (fun _ _ => rfl)) pe_int) (pg_sub (pv 7) (pv 9) set_list)))) pss_nil)))))
      (pss_one (ps_ret (pe_tup (pa_cons (pv 5) (pa_cons (pe_tupleL (by rfl) B.tuple (pe_lc (own := [("key", 11)]) rfl sc__law_web.nd (pi_list (pe_callB (cr_sortT (d := 2) (B := 64) (by decide)) (by rfl) B.sorted boot_sorted (pa_cons (pe_callTy (call_list_dT rfl) (by rfl) B.list boot_tyList (pa_cons (pv 6) pa_nil)) pa_nil))) (blkOk_by (N := ["row", "folk", "most", "looks", "one", "tops", "found", "seen", "turn", "other", "sign", "key"]) (sc := defScope s__law_web) (by decide +kernel)) (fun _ _ _ _ _ => (pg_name (i := 11) sc__law_web.nd rfl (by first | exact Or.inl rfl | exact Or.inr rfl))) (fun _ _ _ _ _ => pts_nil) (fun _ _ _ _ _ => (pe_op op_catTT (pv 11) (pe_tup (pa_cons (pe_dget (hu_of hr) (pv 6) (pv 11) (fun _ _ => rfl)) pa_nil)))))) pa_nil))))))), ?_⟩
    refine ⟨_, rfl, n, rfl, by omega, by omega, fun D hD => ?_⟩
    have hDr := hR.ne_none hD
    have en : ((n : Nat) : Int).toNat = n := by omega
    rw [en]
    refine lc_range (lo := 0) (n := n) (fun i H' => ∃ ts, H' D = some (.lst (iv ts)) ∧ ExtB r H H' ∧ Rw K H' r sc ns ∧ ts.length = i ∧ ∀ t ∈ ts, 1 ≤ t ∧ t ≤ most) ⟨[], upd_same, (Ext.new hD _).b, hR.new hD _, rfl, (fun _ h => by cases h)⟩ (fun i H' hi ⟨ts, h1, e1, R1, l1, b1⟩ => ?_) fun H1 ⟨ts, h1, e1, R1, l1, b1⟩ => ?_
    · refine ⟨rfl, yes ?_⟩
      refine ⟨_, rfl, _, rfl, r, sc, ns, _, rfl, R1, ⟨by omega, by omega⟩, fun H2 m e2 R2 same hm => ?_⟩
      refine ⟨_, _, rfl, rfl, iv ts, same_at same hDr h1, by rw [iv_len]; exact small1000 (by omega), ts ++ [1 + m], ?_, (e1.trans e2).put hD _, R2.put hR hD _, by rw [List.length_append, l1]; rfl, fun t ht => ?_⟩
      · rw [upd_same]
        unfold iv
        rw [List.map_append]
        rfl
      · rcases List.mem_append.mp ht with q | q
        · exact b1 t q
        · rw [List.mem_singleton.mp q]
          omega
    refine ⟨D, _, rfl, h1, fun tu htu => ?_⟩
    refine fun d hd => ?_
    refine ⟨(by show 1 ≤ sizeLine; decide), fun z hz => ?_⟩
    refine ⟨_, rfl, z, _, _, rfl, rfl, upd_same, by omega, by omega, by rw [en]; exact Nat.le_of_lt (small1000 (by simp only [List.length_singleton]; omega)), fun s hs => ?_⟩
    refine ⟨(by show 3 ≤ sizeLine; decide), fun u hu => ⟨u, _, rfl, upd_same, rfl, _, _, rfl, _, _, rfl, _, _, rfl, rfl, ?_⟩⟩
    have erep : (List.replicate ((n : Nat) : Int).toNat [V.int 0]).flatten = iv (cntOf n []) := by
      rw [en]
      refine List.ext_getElem? fun j => ?_
      unfold iv cntOf
      rw [List.flatten_replicate_singleton, List.getElem?_map, List.getElem?_map, List.getElem?_replicate]
      by_cases hj : j < n
      · rw [if_pos hj, List.getElem?_range hj]
        rfl
      · rw [if_neg hj, List.getElem?_eq_none (by rw [List.length_range]; omega)]
        rfl
    rw [erep] at hu ⊢
    generalize hH2 : L2.upd _ tu _ = H2 at hd hz hs hu ⊢
    have ed : H2 d = none := hd
    generalize hH3 : L2.upd H2 d _ = H3 at hz hs hu ⊢
    have ez : H3 z = none := hz
    generalize hH4 : L2.upd H3 z _ = H4 at hs hu ⊢
    have es : H4 s = none := hs
    generalize hH5 : L2.upd H4 s _ = H5 at hu ⊢
    have X2 : Ext H1 H2 := by rw [← hH2]; exact Ext.new htu _
    have X3 : Ext H2 H3 := by rw [← hH3]; exact Ext.new ed _
    have X4 : Ext H3 H4 := by rw [← hH4]; exact Ext.new ez _
    have X5 : Ext H4 H5 := by rw [← hH5]; exact Ext.new es _
    have X6 : Ext H5 (L2.upd H5 u (.tup [.ref tu, .ref d, .ref s])) := Ext.new hu _
    have E6 : ExtB r H (L2.upd H5 u (.tup [.ref tu, .ref d, .ref s])) := e1.trans ((((X2.trans X3).trans X4).trans X5).trans X6).b
    have R6 : Rw K (L2.upd H5 u (.tup [.ref tu, .ref d, .ref s])) r sc ns := R1.ext ((((X2.trans X3).trans X4).trans X5).trans X6)
    have t6 : L2.upd H5 u (.tup [.ref tu, .ref d, .ref s]) tu = some (.tup (iv ts)) := (((X3.trans X4).trans X5).trans X6).tup (by rw [← hH2]; exact upd_same)
    have d3 : H3 d = some (.dT []) := by rw [← hH3]; exact upd_same
    have d6 : L2.upd H5 u (.tup [.ref tu, .ref d, .ref s]) d = some (.dT []) := ((X4.trans X5).trans X6).keep _ _ d3 rfl
    have s6 : L2.upd H5 u (.tup [.ref tu, .ref d, .ref s]) s = some (.lst (iv (cntOf n []))) := X6.lst (by rw [← hH5]; exact upd_same)
    have d0 : H d = none := e1.free (X2.free ed)
    have s0' : H s = none := e1.free (X2.free (X3.free (X4.free es)))
    have htd : tu ≠ d := ne_of t6 d6 (by intro q; cases q)
    have hts : tu ≠ s := ne_of t6 s6 (by intro q; cases q)
    have hds : d ≠ s := ne_of d6 s6 (by intro q; cases q)
    have hdr := hR.ne_none d0
    have hsr := hR.ne_none s0'
    have htr : tu ≠ r := by
      have : H1 tu = none := htu
      exact R1.ne_none this
    clear hH2 hH3 hH4 hH5 X2 X3 X4 X5 X6 erep
    generalize L2.upd H5 u (.tup [.ref tu, .ref d, .ref s]) = H6 at E6 R6 t6 d6 s6 ⊢
    refine ⟨_, rfl, _, rfl, _, _, rfl, rfl, r, sc, ns, _, rfl, R6, ⟨by omega, by omega⟩, fun H7 m E7 R7 same7 hm => ?_⟩
    refine ⟨_, rfl, by omega, by omega, for_range (lo := 0) (n := m.toNat) (fun i σ H' => ∃ (L : List Look3) (o4 o8 o9 o10 o11 : Option V), σ = [some (.ref r), some (.int n), some (.int most), some (.int looks), o4, some (.ref tu), some (.ref d), some (.ref s), o8, o9, o10, o11] ∧ ExtB r H H' ∧ Rw K H' r sc ns ∧ H' tu = some (.tup (iv ts)) ∧ H' d = some (.dT (kvOf L)) ∧ H' s = some (.lst (iv (cntOf n L))) ∧ FdOk n L)
      ⟨[], _, _, _, _, _, rfl, E6.trans E7, R7, E7.keep _ _ htr t6 rfl, same_at same7 hdr d6, same_at same7 hsr s6, .nil n⟩ ?_ ?_⟩
    · rintro i σ H8 hi ⟨L, o4, o8, o9, o10, o11, rfl, e8, R8, t8, d8, s8, ok8⟩
      refine ⟨_, rfl, _, rfl, r, sc, ns, _, rfl, R8, ⟨by omega, by omega⟩, fun H9 a E9 R9 same9 ha => ?_⟩
      refine ⟨_, rfl, _, rfl, r, sc, ns, _, rfl, R9, ⟨by omega, by omega⟩, fun HA b EA RA sameA hb => ?_⟩
      refine ⟨_, _, rfl, ?_⟩
      refine ⟨_, rfl, (by show 2 ≤ sizeLine; decide), fun q hq => ?_⟩
      refine ⟨_, rfl, r, sc, ns, _, rfl, RA.new hq _, ⟨by decide, by decide⟩, fun HB g EB RB sameB hg => ?_⟩
      have hqr := RA.ne_none hq
      have q8 : HB q = some (.lst [.int 1, .int (-1)]) := same_at sameB hqr upd_same
      have tB := EB.keep _ _ htr ((Ext.new hq (.lst [.int 1, .int (-1)])).keep _ _ (EA.keep _ _ htr (E9.keep _ _ htr t8 rfl) rfl) rfl) rfl
      have dA : HA d = some (.dT (kvOf L)) := same_at sameA hdr (same_at same9 hdr d8)
      have sA : HA s = some (.lst (iv (cntOf n L))) := same_at sameA hsr (same_at same9 hsr s8)
      have dB : HB d = some (.dT (kvOf L)) := same_at sameB hdr ((Ext.new hq (.lst [.int 1, .int (-1)])).keep _ _ dA rfl)
      have sB : HB s = some (.lst (iv (cntOf n L))) := same_at sameB hsr ((Ext.new hq (.lst [.int 1, .int (-1)])).keep _ _ sA rfl)
      have eB : ExtB r H HB := ((e8.trans E9).trans EA).trans ((Ext.new hq _).b.trans EB)
      obtain ⟨sg, hsg, hat⟩ : ∃ sg : Int, (sg = 1 ∨ sg = -1) ∧ atI [V.int 1, V.int (-1)] g = some (.int sg) := by
        rcases (by omega : g = 0 ∨ g = 1) with e | e <;> subst e
        · exact ⟨1, .inl rfl, rfl⟩
        · exact ⟨-1, .inr rfl, rfl⟩
      refine ⟨q, _, _, _, rfl, rfl, q8, hat, ?_⟩
      refine ⟨_, rfl, _, rfl, (by show 2 ≤ sizeLine; decide), fun y hy => ?_⟩
      have XC := Ext.new hy (.tup [.int a, .int b])
      have tC := XC.tup tB
      have dC := XC.keep _ _ dB rfl
      have sC := XC.lst sB
      have RC := RB.ext XC
      have eC := eB.trans XC.b
      have inv0 : ∀ (H' : Hp) (L' : List Look3), ExtB r H H' → Rw K H' r sc ns → H' tu = some (.tup (iv ts)) → H' d = some (.dT (kvOf L')) → H' s = some (.lst (iv (cntOf n L'))) → FdOk n L' →
          ∃ (L : List Look3) (p4 p8 p9 p10 p11 : Option V), ([some (.ref r), some (.int n), some (.int most), some (.int looks), some (.int a), some (.ref tu), some (.ref d), some (.ref s), some (.int (0 + (i : Int))), some (.int b), some (.int sg), o11] : L2.St) = [some (.ref r), some (.int n), some (.int most), some (.int looks), p4, some (.ref tu), some (.ref d), some (.ref s), p8, p9, p10, p11] ∧ ExtB r H H' ∧ Rw K H' r sc ns ∧ H' tu = some (.tup (iv ts)) ∧ H' d = some (.dT (kvOf L)) ∧ H' s = some (.lst (iv (cntOf n L))) ∧ FdOk n L :=
        fun H' L' h1 h2 h3 h4 h5 h6 => ⟨L', _, _, _, _, _, rfl, h1, h2, h3, h4, h5, h6⟩
      refine ⟨_, rfl, d, valV (kvOf L) [Sum.inl a, Sum.inl b], rfl, .inr ⟨kvOf L, _, y, .inl dC, rfl, upd_same, rfl⟩, _, rfl, ?_⟩
      cases ev : valV (kvOf L) [Sum.inl a, Sum.inl b] with
      | some v => exact iteF (inv0 _ L eC RC tC dC sC ok8)
      | none =>
        refine iteT ?_
        have hbn : 0 ≤ b ∧ b < n := by omega
        refine ⟨_, rfl, _, rfl, s, _, _, _, rfl, rfl, sC, at_of (j := b.toNat) (by omega) (iv_at (cntOf_at hbn.1 hbn.2)), _, _, rfl, rfl, _, rfl, ?_⟩
        by_cases h4 : (((L.filter fun l => l.2.1 == b).length : Nat) : Int) < 4
        · rw [decide_eq_true h4]
          refine iteT ?_
          refine ⟨_, rfl, d, kvOf L, rfl, .inl dC, fun p bs hp hk => ?_⟩
          have XD := Ext.new hp (.lst (bs.map V.ref))
          have lbs : (bs.map V.ref).length = L.length := by rw [paired_len (keys_ky hk)]
          refine ⟨p, _, rfl, .inl upd_same, _, _, rfl, rfl, _, rfl, ?_⟩
          rw [lbs]
          have tD := XD.tup tC
          have dD := XD.keep _ _ dC rfl
          have sD := XD.lst sC
          have RD := RC.ext XD
          have eD := eC.trans XD.b
          by_cases h14 : ((L.length : Nat) : Int) < 14
          · rw [decide_eq_true h14]
            refine iteT ?_
            refine ⟨_, rfl, _, rfl, _, rfl, _, rfl, (by show 2 ≤ sizeLine; decide), fun y2 hy2 => ?_⟩
            have XE := Ext.new hy2 (.tup [.int a, .int b])
            have dE := XE.keep _ _ dD rfl
            have lkv : (kvOf L).length = L.length := by unfold kvOf; rw [List.length_map]
            refine ⟨d, _, rfl, .inr ⟨kvOf L, [Sum.inl a, Sum.inl b], y2, dE, rfl, upd_same, by rw [lkv]; exact small1000 (by omega), rfl⟩, ?_⟩
            have ek : putK (kvOf L) [Sum.inl a, Sum.inl b] (V.int sg) = kvOf (L ++ [(a, b, sg)]) := by
              rw [putK_new _ ev]
              unfold kvOf
              rw [List.map_append]
              rfl
            rw [ek]
            have eE := (eD.trans XE.b).put d0 (.dT (kvOf (L ++ [(a, b, sg)])))
            have RE := (RD.ext XE).put hR d0 (.dT (kvOf (L ++ [(a, b, sg)])))
            have sE : L2.upd (L2.upd (L2.upd (L2.upd HB y (.tup [.int a, .int b])) p (.lst (bs.map V.ref))) y2 (.tup [.int a, .int b])) d (.dT (kvOf (L ++ [(a, b, sg)]))) s = some (.lst (iv (cntOf n L))) := by rw [upd_ne hds.symm]; exact XE.lst sD
            refine ⟨_, rfl, _, rfl, s, _, _, _, rfl, rfl, sE, at_of (j := b.toNat) (by omega) (iv_at (cntOf_at hbn.1 hbn.2)), _, _, rfl, rfl, ?_⟩
            refine ⟨_, rfl, _, rfl, s, _, _, b.toNat, rfl, rfl, sE, ?_, ?_⟩
            · rw [iv_len, cntOf_len]
              unfold ixN
              rw [if_pos hbn.1, if_pos hbn.2]
            · have es : (iv (cntOf n L)).set b.toNat (V.int ((((L.filter fun l => l.2.1 == b).length : Nat) : Int) + 1)) = iv (cntOf n (L ++ [(a, b, sg)])) := by
                rw [← cntOf_snoc (l := (a, b, sg)) hbn.1 hbn.2]
                unfold iv
                rw [List.map_set]
              rw [es]
              refine inv0 _ (L ++ [(a, b, sg)]) (eE.put s0' _) (RE.put hR s0' _) ?_ ?_ upd_same (ok8.snoc (kv_not ev) ⟨by omega, hbn, hsg⟩ (by omega) (by show (L.filter fun k => k.2.1 == b).length < 4; omega))
              · rw [upd_ne hts, upd_ne htd]
                exact XE.tup tD
              · rw [upd_ne hds, upd_same]
          · rw [decide_eq_false h14]
            exact iteF (inv0 _ L eD RD tD dD sD ok8)
        · rw [decide_eq_false h4]
          exact iteF (inv0 _ L eC RC tC dC sC ok8)
    · rintro σ H8 ⟨L, o4, o8, o9, o10, o11, rfl, e8, R8, t8, d8, s8, ok8⟩
      refine ⟨_, rfl, _, rfl, d, kvOf L, rfl, .inl d8, fun p bs hp hk => ?_⟩
      have XA := Ext.new hp (.lst (bs.map V.ref))
      have hky : Paired (KyAt (L2.upd H8 p (.lst (bs.map V.ref)))) (bs.map V.ref) L := paired_mono (fun x l ⟨b, e, h⟩ => ⟨b, e, XA.tup h⟩) (keys_ky hk)
      have lbs : (bs.map V.ref).length = L.length := paired_len hky
      refine ⟨p, _, rfl, SqL.of upd_same, by rw [lbs]; have := ok8.len; omega, fun x hx => ?_, fun ys q perm pw hq => ?_⟩
      · obtain ⟨i, hi, rfl⟩ := List.getElem_of_mem hx
        obtain ⟨l, hl, b, e, hb⟩ := paired_get' hky (List.getElem?_eq_getElem hi)
        have h1 := ok8.rng l (List.mem_of_getElem? hl)
        rw [e]
        refine ⟨[l.1, l.2.1], ⟨b, rfl, SqT.of hb⟩, rfl, fun m hm => ?_⟩
        rcases List.mem_cons.mp hm with h | hm
        · omega
        · rw [List.mem_singleton.mp hm]
          omega
      obtain ⟨L', pL, hys⟩ := perm_paired perm hky
      have rng' : ∀ l ∈ L', (0 ≤ l.1 ∧ l.1 < n) ∧ (0 ≤ l.2.1 ∧ l.2.1 < n) ∧ (l.2.2 = 1 ∨ l.2.2 = -1) := fun l hl => ok8.rng l (pL.mem_iff.mp hl)
      have pw1 : L'.Pairwise fun k l => TS.code 64 [k.1, k.2.1] ≤ TS.code 64 [l.1, l.2.1] := paired_pw (fun x y k l ⟨b, e1, h1⟩ ⟨c, e2, h2⟩ hs => hs _ _ ⟨b, e1, SqT.of h1⟩ ⟨c, e2, SqT.of h2⟩) hys pw
      have nd' : (L'.map fun l => (l.1, l.2.1)).Nodup := (pL.map _).nodup_iff.mpr ok8.nd
      have asc : L'.Pairwise fun k l => k.1 < l.1 ∨ k.1 = l.1 ∧ k.2.1 < l.2.1 := by
        refine List.Pairwise.imp_of_mem (fun {k l} hk hl h => ?_) (pw1.and (List.pairwise_map.mp nd'))
        have g1 := rng' k hk
        have g2 := rng' l hl
        refine pair_lt h.1 (fun e => h.2 ?_) ⟨by omega, by omega⟩ ⟨by omega, by omega⟩ ⟨by omega, by omega⟩ ⟨by omega, by omega⟩
        injection e with e1 e2
        injection e2 with e2
        rw [e1, e2]
      have lL : L'.length = L.length := pL.length_eq
      have l14 := ok8.len
      have Wok : Web.Ok ⟨ts, L'⟩ := by
        refine ⟨by show 1 ≤ ts.length; omega, by show ts.length ≤ 6; omega, fun t ht => by have := b1 t ht; omega, by show L'.length ≤ 14; omega, fun l hl => ?_, asc, fun f => ?_⟩
        · have := rng' l hl
          have e : ts.length = n := l1
          show (0 ≤ l.1 ∧ l.1 < (ts.length : Int)) ∧ (0 ≤ l.2.1 ∧ l.2.1 < (ts.length : Int)) ∧ _
          rw [e]
          exact this
        · show ((L'.map fun l => l.2.1).filter fun o => o == f).length ≤ 4
          rw [List.filter_map, List.length_map, (pL.filter _).length_eq]
          exact ok8.four f
      have XB := XA.trans (Ext.new hq (.lst ys))
      have hys2 : Paired (KyAt (L2.upd (L2.upd H8 p (.lst (bs.map V.ref))) q (.lst ys))) ys L' := paired_mono (fun x l ⟨b, e, h⟩ => ⟨b, e, (Ext.new hq (.lst ys)).tup h⟩) hys
      refine ⟨q, rfl, ⟨_, SqL.of upd_same⟩, fun D2 hD2 => ?_⟩
      have lys : ys.length = L'.length := paired_len hys
      generalize hHB : L2.upd (L2.upd H8 p (.lst (bs.map V.ref))) q (.lst ys) = HB at XB hys2 hD2 ⊢
      have hqB : HB q = some (.lst ys) := by rw [← hHB]; exact upd_same
      clear hHB
      refine lc_list (K := K) (a := q) (xs := ys) (fun i H' => ∃ acc, H' D2 = some (.lst acc) ∧ Ext HB H' ∧ acc.length = i ∧ Paired (TI H') acc ((L'.take i).map row3)) ⟨[], upd_same, Ext.new hD2 _, rfl, by simpa using Paired.nil⟩ (fun i H' _ ⟨_, _, e, _⟩ => SqL.of (e.lst hqB)) (fun i x H' hi ⟨acc, hacc, e, hl, hpa⟩ => ?_) fun H' ⟨acc, hacc, e, hl, hpa⟩ => ?_
      · obtain ⟨l, hlk, b, rfl, hb⟩ := paired_get' hys2 hi
        have hlL : l ∈ L := pL.mem_iff.mp (List.mem_of_getElem? hlk)
        have hi14 : i < L'.length := (List.getElem?_eq_some_iff.mp hlk).1
        refine ⟨rfl, yes ?_⟩
        refine ⟨_, rfl, _, rfl, _, rfl, d, .int l.2.2, rfl, .inr ⟨kvOf L, [Sum.inl l.1, Sum.inl l.2.1], b, .inl ((XB.trans e).keep _ _ d8 rfl), rfl, e.tup hb, (kv_get ok8.nd hlL).symm⟩, (by show 1 ≤ sizeLine; decide), fun w hw => ?_⟩
        have hb' := e.tup hb
        have hbw : b ≠ w := ne_of_none hb' hw
        refine ⟨b, w, [.int l.1, .int l.2.1], [.int l.2.2], rfl, rfl, by rw [upd_ne hbw]; exact hb', upd_same, (by show 3 ≤ sizeLine; decide), (fun h => by cases h), (fun _ h => by cases h), fun _ _ x hx => ?_⟩
        have EE := (Ext.new hw (.tup [V.int l.2.2])).trans (Ext.new hx (.tup ([.int l.1, .int l.2.1] ++ [.int l.2.2])))
        have hac := EE.lst hacc
        refine ⟨acc, hac, small1000 (by omega), acc ++ [.ref x], upd_same, (e.trans EE).put hD2 _, by rw [List.length_append, hl]; rfl, ?_⟩
        rw [take_snoc hlk, List.map_append]
        exact pTI.put hac (fun _ _ h => h) (paired_snoc ⟨x, rfl, upd_same⟩ (pTI.ext EE hpa))
      · rw [lys, List.take_length] at hpa
        refine ⟨D2, acc, rfl, hacc, fun v hv => ⟨(by show 2 ≤ sizeLine; decide), fun wv hwv => ?_⟩⟩
        have EV := (XB.trans e).trans ((Ext.new hv (.tup acc)).trans (Ext.new hwv (.tup [.ref tu, .ref v])))
        refine k _ _ ⟨ts, L'⟩ (e8.trans EV.b) (R8.ext EV) ⟨wv, .ref tu, .ref v, rfl, upd_same, ⟨tu, rfl, EV.tup t8⟩, ⟨v, acc, rfl, ?_, pTI.ext ((Ext.new hv _).trans (Ext.new hwv _)) hpa⟩⟩ Wok l1 fun t ht => (b1 t ht).2
        exact (Ext.new hwv _).tup upd_same
end
end Lk

/-! ## D58 -/
set_option Elab.async false
set_option linter.all false
set_option maxRecDepth 100000
set_option maxHeartbeats 4000000
namespace Lk
open PySem PySem.Spec PyProof.Rows L2 Gx NdefX
open GxR (TabG Tabbed TabB)
variable [Own]
abbrev s_law : Stmt := top 43
theorem sc_law : FnScope ["script", "row", "web", "every", "ring", "bad", "e", "least", "folk", "one", "sign"] ["script"] (defScope s_law) := ⟨rfl, rfl, rfl, by decide +kernel, rfl, by decide +kernel, by decide +kernel⟩
/-- the fifth thing of a call: a lambda -/
def lamArg (s : Stmt) : Expr := match s with
  | .If (.UnaryOp _ (.Call _ args _ _) _) _ _ _ => args.getD 4 (.Name "x" ⟨0, 0, 0, 0⟩)
  | .Return (some (.Call _ args _ _)) _ => args.getD 4 (.Name "x" ⟨0, 0, 0, 0⟩)
  | _ => .Name "x" ⟨0, 0, 0, 0⟩
def lamP : Expr → Arguments
  | .Lambda p _ _ _ => p
  | _ => defArgs s_law
def lamB : Expr → Expr
  | .Lambda _ b _ _ => b
  | e => e
def lamSc : Expr → Scope
  | .Lambda _ _ sc _ => sc
  | _ => defScope s_law
abbrev lamEv : Expr := lamArg ((defBody s_law).getD 7 (.Pass ⟨0, 0, 0, 0⟩))
abbrev lamOd : Expr := lamArg ((defBody s_law).getD 8 (.Pass ⟨0, 0, 0, 0⟩))
def spLaw (K : PySem.W.Frag) (Ps : List Addr) (T : Addr) : Sp := fun vs H Q _ => ∃ (sc : Addr) (ns : List Int), vs = [.ref sc] ∧ SqL K H sc (iv ns) ∧ ns.length ≤ 63 ∧ Tabs Ps H ∧ H T = some (.tbl #[]) ∧ ∀ H', Q (.bl true) H'
/-- a def with lambdas of its own: its code object's address, its table's -/
structure FunL (K : PySem.W.Frag) (mg : Str → Option Value) (base : Heap) (x : Str) (st : Stmt) (f : Addr) (fd : FuncData) (T : Addr) : Prop where
  ex : ∃ (oc : Value) (od : Option Addr) (kV doc pm : Value) (an : Option Addr) (c : Addr) (ct : Value) (osl : Array (Option Value)),
    fd = PySem.W.fnOf x x (defArgs st) (defBody st) (defScope st) .none kV doc pm an (.ref c) ct ∧ K.lookup f = some ⟨oc, od, .func fd, osl⟩ ∧ PySem.W.codeIn K (.ref c) x = true ∧ LamX.TabB base mg c T
theorem FunL.ok {P : Program} {w : World} {K : PySem.W.Frag} {mg : Str → Option Value} {base : Heap} {x : Str} {st : Stmt} {f : Addr} {fd : FuncData} {T : Addr} {N ps : List Str} {k : Nat} {sp : Sp} (F : FunL K mg base x st f fd T) (S : FnScope N ps (defScope st)) (len : ∀ vs H Q E, sp vs H Q E → vs.length = ps.length)
    (hbody : ∀ (c : Addr) (A : Around) (outer : List Env) (s : Shared) (H : Hp) (vs : List V) (Q : VK) (E : XK), LamX.TabB base mg c T → Room k (A.deeper (envOfC x (defScope st) s.heap.objs.size f (.ref c))) → sp vs H Q E →
      ∃ t, PSs (cxOf CX0 P w K mg base N x (defScope st) f (.ref c) A outer s H E).nox (defBody st) t ∧ t { nx := fun _ H' => Q .non H', rt := Q } (start N vs) H) : FnOk P w K mg base CX0 (k + 1) f fd ps sp := by
  obtain ⟨oc, od, kV, doc, pm, an, c, ct, osl, rfl, lk, hcd, tb⟩ := F.ex
  refine fn_of lk hcd S len fun A outer s H vs Q E hr hsp => ?_
  obtain ⟨t, h, q⟩ := hbody c A outer s H vs Q E tb hr hsp
  exact ⟨t, h.nox, q⟩
/-- a def, as it is called -/
structure GCal (K : PySem.W.Frag) (mg : Str → Option Value) (x : Str) (st : Stmt) (ps : List Str) : Prop where
  ex : ∃ g fd, mg x = some (.ref g) ∧ PySem.W.keepIn K (.ref g) = true ∧ Binds K fd ps [] ∧ Fun K x x st g fd
theorem lamExt {T : Addr} {q : Str} {H1 H2 : Hp} (t1 : LamX.TabS H1 T q) (kp : ∀ b o, b ≠ T → H1 b = some o → H2 b = some o) (t2 : LamX.TabS H2 T q) : @Ext ⟨fun _ => False⟩ H1 H2 := by
  obtain ⟨p1, a1, b1, _⟩ := t1
  obtain ⟨p2, a2, b2, _⟩ := t2
  refine @Ext.mk ⟨fun _ => False⟩ _ _ (fun a o h q => kp a o (fun z => ?_) h) (fun P h => ?_) (fun a o h => ?_) (fun _ _ z _ => z.elim)
  · rw [z, a1] at h
    cases h
    cases q
  · by_cases z : P = T
    · rw [z]
      exact ⟨p2, a2, b2⟩
    · obtain ⟨ps, e, t⟩ := h
      exact ⟨ps, kp P _ z e, t⟩
  · by_cases z : a = T
    · rw [z]
      exact ⟨_, a2⟩
    · exact ⟨o, kp a o z h⟩
theorem tabS_own {T : Addr} {q : Str} {H H' : Hp} (ho : Own.own T) (e : Ext H H') (t : LamX.TabS H T q) : LamX.TabS H' T q := by
  obtain ⟨ps, a1, a2, a3⟩ := t
  refine ⟨ps, e.own T ps ho a1, a2, fun pos cv hc => ?_⟩
  obtain ⟨c, e1, e2⟩ := a3 pos cv hc
  exact ⟨c, e1, e.keep _ _ e2 rfl⟩
/-- what is_even is asked wrongly -/
def BadX (H : Hp) (x : V) : Prop := (∃ ring : List Int, TI H x ring ∧ ring.length ≤ 100 ∧ (ring = [] ∨ ∃ n ∈ ring, n < 0 ∨ 14 ≤ n)) ∨ NoRing H x
theorem BadX.ext {H H' : Hp} {x : V} (e : Ext H H') (h : BadX H x) : BadX H' x := by
  rcases h with ⟨r, h1, h2⟩ | h1
  · exact .inl ⟨r, h1.ext e, h2⟩
  · exact .inr (h1.ext e)
theorem al1 (l : List Int) (H : Hp) : ∀ (H' : Hp) (i : Nat) (x y : V) (Q' : VK) (E' : XK), Ext H H' → (iv l)[i]? = some x → (iv l)[i]? = some y → (∀ H'', Ext H' H'' → Q' (.bl true) H'') → spAlike0 [x, y] H' Q' E' := fun H' i x y Q' E' e hx hy k' => by
  rw [hx] at hy
  cases hy
  obtain ⟨n, _, rfl⟩ := iv_get hx
  exact ⟨.inl ⟨n, rfl⟩, k'⟩
theorem al2 {H : Hp} {xs ys : List V} {rows : List (List Int)} (p1 : Paired (TI H) xs rows) (p2 : Paired (TI H) ys rows) (hr : ∀ r ∈ rows, r.length ≤ 100) :
    ∀ (H' : Hp) (i : Nat) (x y : V) (Q' : VK) (E' : XK), Ext H H' → xs[i]? = some x → ys[i]? = some y → (∀ H'', Ext H' H'' → Q' (.bl true) H'') → spAlikeS spAlike0 [x, y] H' Q' E' := fun H' i x y Q' E' e hx hy k' => by
  obtain ⟨r1, g1, c, rfl, hc⟩ := paired_get' (pTI.ext e p1) hx
  obtain ⟨r2, g2, d, rfl, hd⟩ := paired_get' (pTI.ext e p2) hy
  rw [g1] at g2
  cases g2
  have hl := hr r1 (List.mem_of_getElem? g1)
  exact ⟨c, d, false, iv r1, iv r1, rfl, hc, hd, rfl, by rw [iv_len]; omega, al1 r1 H', k'⟩
section
variable {P : Program} {w : World} {K : PySem.W.Frag} {mg : Str → Option Value} {base : Heap} {Ps : List Addr} {C : Addr}
theorem lok_even {q : Str} {cl : List (Str × Addr)} (c_shows_even_ring : Cal P w K mg base CX0 7 "shows_even_ring" ["web", "value"] (spShows Ps true)) : LOk P w K mg base 8 (lamF q (lamP lamEv) (lamSc lamEv) cl) (lamB lamEv) ["value"] ["web"] (spLam Ps true) := by
  refine lok_of (N := ["value", "web"]) (nscope_by (by decide +kernel)) (fun pm ctv c' us hl => match us, hl with | [_], _ => rfl) (fun ws vs H Q h => ?_) (fun f c' A outer s H vs ws Q hr hl h => ?_)
  · obtain ⟨wv, x, _, rfl, _⟩ := h
    rfl
  · obtain ⟨wv, x, rfl, rfl, h⟩ := h
    exact ⟨_, (pe_c0 c_shows_even_ring (hr.mono (by decide)) (by rfl) (pa_cons (pv 1) (pa_cons (pv 0) pa_nil))), _, rfl, _, rfl, h⟩
theorem lok_odd {q : Str} {cl : List (Str × Addr)} (c_shows_odd_ring : Cal P w K mg base CX0 7 "shows_odd_ring" ["web", "value"] (spShows Ps false)) : LOk P w K mg base 8 (lamF q (lamP lamOd) (lamSc lamOd) cl) (lamB lamOd) ["value"] ["web"] (spLam Ps false) := by
  refine lok_of (N := ["value", "web"]) (nscope_by (by decide +kernel)) (fun pm ctv c' us hl => match us, hl with | [_], _ => rfl) (fun ws vs H Q h => ?_) (fun f c' A outer s H vs ws Q hr hl h => ?_)
  · obtain ⟨wv, x, _, rfl, _⟩ := h
    rfl
  · obtain ⟨wv, x, rfl, rfl, h⟩ := h
    exact ⟨_, (pe_c0 c_shows_odd_ring (hr.mono (by decide)) (by rfl) (pa_cons (pv 1) (pa_cons (pv 0) pa_nil))), _, rfl, _, rfl, h⟩
/-- what lambdas of the law are called -/
abbrev lamQ : Str := ("law" : Str) ++ ".<locals>." ++ "<lambda>"
theorem nd_even : ndefB (defScope s_law) (lamSc lamEv) ["web"] = true := by decide +kernel
theorem nd_odd : ndefB (defScope s_law) (lamSc lamOd) ["web"] = true := by decide +kernel
/-- a try, by a name -/
def tTryN (tb : WX → TS) (K : PySem.W.Frag) (c : Value) (i : Nat) (ts : Addr → Value → Option Addr → TS) (Wout : WX) : TS := fun D σ H => tb (wAs K c i ts Wout D) D σ H
theorem ps_tryN {X : Cx} {x n : Str} {c : Value} {i : Nat} {body suite : List Stmt} {b₀ : Stmt} {np pos pos' : Pos} {tb : WX → TS} {ts : Addr → Value → Option Addr → TS} {Wout : WX} (hs : X.stack = X.env :: X.outer) (hf : X.env.frame = some X.env.locals) (hN : X.N.Nodup) (hi : X.N[i]? = some n) (hln : X.env.kindOf n = some .local) (hc : Names X x c) (tk : Takes X Wout)
    (hb : ∀ (W : WX) (pn : List (Addr × Obj)) (xe : Value → Shared → Prop), Takes (X.tr pn xe) W → PassesOwn (model X.prog X.w) X.A X.env xe → PSs (X.tr pn xe) body (tb W))
    (hsu : ∀ (a : Addr) (oe : Obj) (cls : Value) (d : Option Addr) (pn : List (Addr × Obj)), Zc cls d oe → (∃ vs, oe.data = .fields vs) → PSs (X.suite a ((a, oe) :: pn)) (b₀ :: suite) (ts a cls d)) :
    PS X (.Try body [.ExceptHandler (some (.Name x np)) (some n) (b₀ :: suite) pos'] [] [] pos) (tTryN tb X.K c i ts Wout) := ps_try_as hs hf hN hi hln hc tk hb hsu
/-- what the law asks of BadRing -/
structure RingK (K : PySem.W.Frag) (mg : Str → Option Value) (C : Addr) : Prop where
  gC : mg "BadRing" = some (.ref C)
  te : PySem.W.exmOne K (.ref C) (.ref C) = some true
section
variable {P : Program} {w : World} {K : PySem.W.Frag} {mg : Str → Option Value} {base : Heap} {Ps : List Addr} {C T : Addr}
theorem ok_law {f : Addr} {fd : FuncData} (F : FunL K mg base "law" s_law f fd T) (own : Own.own T) (B : Blt mg) (bmin : mg "min" = none) (TK : RingK K mg C) (G : GCal K mg "_law_shown" s__law_shown ["web", "every", "sign", "found", "shows"])
    (c__law_taken : Cal P w K mg base CX0 1 "_law_taken" ["row", "many"] (spTaken K)) (c__law_web : Cal P w K mg base CX0 2 "_law_web" ["row", "folk", "most", "looks"] (spLawWeb K)) (c__law_rings : Cal P w K mg base CX0 1 "_law_rings" ["web"] spLawRings)
    (c_alike0 : Cal P w K mg base CX0 1 "_law_alike" ["found", "due"] spAlike0) (c_alike1 : Cal P w K mg base CX0 2 "_law_alike" ["found", "due"] (spAlikeS spAlike0)) (c_alike2 : Cal P w K mg base CX0 3 "_law_alike" ["found", "due"] (spAlikeS (spAlikeS spAlike0)))
    (c__law_sign : Cal P w K mg base CX0 1 "_law_sign" ["web", "ring"] spLawSign) (c__law_seen : Cal P w K mg base CX0 1 "_law_seen" ["web", "folk"] spLawSeen)
    (c_rings : Cal P w K mg base CX0 7 "rings" ["web"] (spRings Ps)) (c_is_even : Cal P w K mg base (L2.CX P w) 7 "is_even" ["web", "ring"] (spIsEven Ps C)) (c_looked_at : Cal P w K mg base CX0 7 "looked_at" ["web", "folk"] (spLookedAt Ps))
    (c_even_ring : Cal P w K mg base CX0 7 "even_ring" ["web"] (spKindRing Ps true)) (c_odd_ring : Cal P w K mg base CX0 7 "odd_ring" ["web"] (spKindRing Ps false))
    (c_shows_even_ring : Cal P w K mg base CX0 7 "shows_even_ring" ["web", "value"] (spShows Ps true)) (c_shows_odd_ring : Cal P w K mg base CX0 7 "shows_odd_ring" ["web", "value"] (spShows Ps false)) :
    FnOk P w K mg base CX0 10 f fd ["script"] (spLaw K Ps T) := by
  refine F.ok sc_law (fun vs H Q E h => ?_) (fun cT A outer s0 H vs Q E TB hr h => ?_)
  · obtain ⟨sc, ns, rfl, _⟩ := h
    rfl
  · obtain ⟨sc, ns, rfl, hsc, hlen, hTb, hTT, k⟩ := h
    obtain ⟨fS, fdS, mS, kS, bS, GS⟩ := c_is_even.ex
    obtain ⟨gG, fdG, mG, kG, bG, FG⟩ := G.ex
    refine ⟨_, (pss_cons (ps_set (i := 1) sc_law.nd rfl (by first | exact Or.inl rfl | exact Or.inr rfl) (pe_lst (pa_cons (pv 0) (pa_cons pe_int (pa_cons pe_int (pa_cons pe_int pa_nil))))))
      (pss_cons (ps_set (i := 2) sc_law.nd rfl (by first | exact Or.inl rfl | exact Or.inr rfl) (pe_c0 c__law_web (hr.mono (by decide)) (by rfl) (pa_cons (pv 1) (pa_cons (pe_op op_add pe_int (pe_c0 c__law_taken (hr.mono (by decide)) (by rfl) (pa_cons (pv 1) (pa_cons pe_int pa_nil)))) (pa_cons pe_int (pa_cons (pe_op op_add pe_int (pe_c0 c__law_taken (hr.mono (by decide)) (by rfl) (pa_cons (pv 1) (pa_cons pe_int pa_nil)))) pa_nil))))))
      (pss_cons (ps_set (i := 3) sc_law.nd rfl (by first | exact Or.inl rfl | exact Or.inr rfl) (pe_c0 c__law_rings (hr.mono (by decide)) (by rfl) (pa_cons (pv 2) pa_nil)))
      (pss_cons (ps_if (pt_not (pt_val (pe_c0 c_alike2 (hr.mono (by decide)) (by rfl) (pa_cons (pe_c0 c_rings (hr.mono (by decide)) (by rfl) (pa_cons (pv 2) pa_nil)) (pa_cons (pe_tupleL (by rfl) B.tuple (pv 3)) pa_nil)))))
        (pss_one (ps_ret pe_bl)) pss_nil)
      (pss_cons (ps_for PassesOwn.never rfl (pi_list (pv 3)) (pg_name (i := 4) sc_law.nd rfl (by first | exact Or.inl rfl | exact Or.inr rfl))
        (pss_one (ps_if (pt_not (pt_val (pe_c0 c_alike0 (hr.mono (by decide)) (by rfl) (pa_cons (pe_cal c_is_even (hr.mono (by decide)) (by rfl) passL (pa_cons (pv 2) (pa_cons (pv 4) pa_nil))) (pa_cons (pe_cmpR op_eq (pe_c0 c__law_sign (hr.mono (by decide)) (by rfl) (pa_cons (pv 2) (pa_cons (pv 4) pa_nil))) pe_int (nomark _)) pa_nil)))))
          (pss_one (ps_ret pe_bl)) pss_nil)))
      (pss_cons (ps_for PassesOwn.never rfl (pi_list (pe_lst (pa_cons pe_non (pa_cons (pe_tup pa_nil) (pa_cons (pe_tup (pa_cons pe_int pa_nil)) (pa_cons (pe_lst (pa_cons pe_int pa_nil)) (pa_cons (pe_tup (pa_cons pe_bl pa_nil)) (pa_cons pe_str pa_nil)))))))) (pg_name (i := 5) sc_law.nd rfl (by first | exact Or.inl rfl | exact Or.inr rfl))
        (pss_one (ps_tryN (i := 6) rfl rfl sc_law.nd rfl rfl ⟨rfl, by decide, .inl TK.gC⟩ takes0 (fun W pn xe tk _ => (pss_cons (ps_expr (pe_callS GS (hr.mono (by decide)) (by rfl) mS kS bS (fun σ => passAt tk σ) (pa_cons (pv 2) (pa_cons (pv 5) pa_nil)))) (pss_one (ps_ret pe_bl)))) (fun a oe cls d pn hz hf => (pss_one (ps_set (i := 7) sc_law.nd rfl (by first | exact Or.inl rfl | exact Or.inr rfl) pe_non))))))
      (pss_cons (ps_for PassesOwn.never rfl (pi_range1 (by rfl) B.range (pa_cons (pe_callB call_lenT (by rfl) B.len PySem.boot_len (pa_cons (pe_ix ix_tT (pv 2) pe_int (fun _ _ => rfl)) pa_nil)) pa_nil)) (pg_name (i := 8) sc_law.nd rfl (by first | exact Or.inl rfl | exact Or.inr rfl))
        (pss_one (ps_if (pt_not (pt_val (pe_c0 c_alike1 (hr.mono (by decide)) (by rfl) (pa_cons (pe_c0 c_looked_at (hr.mono (by decide)) (by rfl) (pa_cons (pv 2) (pa_cons (pv 8) pa_nil))) (pa_cons (pe_tupleL (by rfl) B.tuple (pe_lc (own := [("one", 9), ("sign", 10)]) rfl sc_law.nd (pi_list (pe_c0 c__law_seen (hr.mono (by decide)) (by rfl) (pa_cons (pv 2) (pa_cons (pv 8) pa_nil)))) (blkOk_by (N := ["script", "row", "web", "every", "ring", "bad", "e", "least", "folk", "one", "sign"]) (sc := defScope s_law) (by decide +kernel)) (fun _ _ _ _ _ => (pg_tupT (n := 2) rfl (pgs_cons (pg_name (i := 9) sc_law.nd rfl (by first | exact Or.inl rfl | exact Or.inr rfl)) (pgs_cons (pg_name (i := 10) sc_law.nd rfl (by first | exact Or.inl rfl | exact Or.inr rfl)) pgs_nil)))) (fun _ _ _ _ _ => pts_nil) (fun _ _ _ _ _ => (pv 9)))) pa_nil)))))
          (pss_one (ps_ret pe_bl)) pss_nil)))
      (pss_cons (ps_if (pt_not (pt_val (pe_callG (js := [2]) (ok_law_shown FG B bmin (lok_even (q := lamQ) c_shows_even_ring) c__law_sign c_alike0) (fun _ => rfl) (fun ok => Caps.made ok (ndef_free nd_even) (ndef_fr nd_even) rfl) (hr.mono (by decide)) (by rfl) mG kG bG (pa_cons (pv 2) (pa_cons (pv 3) (pa_cons pe_int (pa_cons (pe_c0 c_even_ring (hr.mono (by decide)) (by rfl) (pa_cons (pv 2) pa_nil)) (pa_cons (pe_lam1 (q := lamQ) TB rfl rfl (by rfl) (ndef_free nd_even)) pa_nil))))))))
        (pss_one (ps_ret pe_bl)) pss_nil)
      (pss_one (ps_ret (pe_callG (js := [2]) (ok_law_shown FG B bmin (lok_odd (q := lamQ) c_shows_odd_ring) c__law_sign c_alike0) (fun _ => rfl) (fun ok => Caps.made ok (ndef_free nd_odd) (ndef_fr nd_odd) rfl) (hr.mono (by decide)) (by rfl) mG kG bG (pa_cons (pv 2) (pa_cons (pv 3) (pa_cons (pe_un un_neg pe_int) (pa_cons (pe_c0 c_odd_ring (hr.mono (by decide)) (by rfl) (pa_cons (pv 2) pa_nil)) (pa_cons (pe_lam1 (q := lamQ) TB rfl rfl (by rfl) (ndef_free nd_odd)) pa_nil)))))))))))))))), ?_⟩
    -- the row
    refine ⟨_, rfl, (by show 4 ≤ sizeLine; decide), fun rr hrr => ?_⟩
    have X0 := Ext.new hrr (.lst [.ref sc, .int 0, .int 1301, .int 0])
    have R0 : Rw K (L2.upd H rr (.lst [.ref sc, .int 0, .int 1301, .int 0])) rr sc ns := ⟨⟨0, 1301, 0⟩, upd_same, ScrAt.new hsc hrr _, hlen, ⟨by decide, by decide, by decide⟩⟩
    have T0 := hTb.ext X0
    have TT0 := X0.own T _ own hTT
    generalize L2.upd H rr (.lst [.ref sc, .int 0, .int 1301, .int 0]) = H0 at X0 R0 T0 TT0 ⊢
    -- the web
    refine ⟨_, rfl, _, rfl, rr, sc, ns, _, rfl, R0, ⟨by decide, by decide⟩, fun H1 m1 E1 R1 _ hm1 => ⟨_, _, rfl, rfl, ?_⟩⟩
    refine ⟨_, rfl, rr, sc, ns, _, rfl, R1, ⟨by decide, by decide⟩, fun H2 m2 E2 R2 _ hm2 => ⟨_, _, rfl, rfl, ?_⟩⟩
    have T2 := (T0.extB E1).extB E2
    have TT2 := E2.own T _ own (E1.own T _ own TT0)
    refine ⟨rr, sc, ns, (1 + m1).toNat, 3, (3 + m2).toNat, by rw [show (((1 + m1).toNat : Nat) : Int) = 1 + m1 by omega, show (((3 + m2).toNat : Nat) : Int) = 3 + m2 by omega]; rfl, R2, ⟨by omega, by omega⟩, ⟨by decide, by decide⟩, by omega, fun H3 wv W E3 R3 hW3 ok hnw hmw => ?_⟩
    have T3 := T2.extB E3
    have TT3 := E3.own T _ own TT2
    clear R2 R1 R0 T2 T0 TT2 TT0 E3 E2 E1 X0
    have fw := ok.fewL
    have lrs := rings_len fw
    -- all rings
    refine ⟨_, rfl, _, W, rfl, hW3, fw, fun H4 ev evs e4 _ hev hevs => ?_⟩
    have lev := paired_len hevs
    refine ⟨_, rfl, _, W, rfl, hW3.ext e4, ok, T3.ext e4, fun H5 u e5 _ hu => ?_⟩
    have e35 := e4.trans e5
    refine ⟨_, rfl, ev, evs, rfl, e5.lst hev, fun dt hdt => ?_⟩
    have x6 := Ext.new hdt (HO.tup evs)
    obtain ⟨_, uvs, eu, huv, puv⟩ := hu.ext x6
    cases eu
    have luv := paired_len puv
    refine ⟨u, dt, false, uvs, evs, rfl, huv, upd_same, by omega, by omega, al2 puv (pTI.ext (e5.trans x6) hevs) (fun r hr => by have := (ring_ok hr).2.2; omega), fun H7 e7 => ⟨_, rfl, iteF ?_⟩⟩
    have EA := e35.trans (x6.trans e7)
    have hevA := (e5.trans (x6.trans e7)).lst hev
    have hevsA := pTI.ext (e5.trans (x6.trans e7)) hevs
    have hWA := hW3.ext EA
    have TA := T3.ext EA
    have TTA := EA.own T _ own TT3
    clear puv huv hu x6 e7 e35 e5 e4 EA hev hevs hW3 T3 TT3
    obtain ⟨wa, tv, lv, rfl, hwa, ⟨tt, rfl, htt⟩, _⟩ := id hWA
    -- even or odd
    refine ⟨_, rfl, ev, rfl, ⟨_, SqL.of hevA⟩, for_list (K := K) (a := ev) (xs := evs) (fun i σ H' => ∃ o4 : Option V, σ = [some (.ref sc), some (.ref rr), some (.ref wa), some (.ref ev), o4, none, none, none, none, none, none] ∧ Ext H7 H') ⟨none, rfl, Ext.refl _⟩ (fun i σ H' _ ⟨_, _, e⟩ => SqL.of (e.lst hevA)) ?_ ?_⟩
    · rintro i x σ H8 hi ⟨o4, rfl, e8⟩
      obtain ⟨ring, hring, z, rfl, hz⟩ := paired_get' (pTI.ext e8 hevsA) hi
      have hrm := List.mem_of_getElem? hring
      obtain ⟨pok, _, hl7⟩ := ring_ok hrm
      refine ⟨_, rfl, _, rfl, _, _, W, rfl, hWA.ext e8, ok, TA.ext e8, .inl ⟨ring, ⟨z, rfl, hz⟩, by omega, fun _ H9 e9 => ?_, fun hn => absurd hrm hn⟩⟩
      have e89 := e8.trans e9
      refine ⟨_, rfl, _, rfl, _, _, W, ring, rfl, hWA.ext e89, ⟨z, rfl, e9.tup hz⟩, pok.num, sgn_ok ok pok, rfl, ?_⟩
      rw [prod_even (sgn_ok ok pok), dec_int]
      refine ⟨.inr ⟨evenP W.looks ring, ?_⟩, fun H10 e10 => ⟨_, rfl, iteF ⟨_, rfl, e89.trans e10⟩⟩⟩
      cases evenP W.looks ring <;> rfl
    rintro σ H8 ⟨o4, rfl, e8⟩
    -- things that are no rings
    refine ⟨(by show 0 ≤ sizeLine; decide), fun a0 h0 => ?_⟩
    have z0 := Ext.new h0 (HO.tup [])
    refine ⟨(by show 1 ≤ sizeLine; decide), fun a1 h1 => ?_⟩
    have z1 := Ext.new h1 (HO.tup [V.int 99])
    refine ⟨(by show 1 ≤ sizeLine; decide), fun a2 h2 => ?_⟩
    have z2 := Ext.new h2 (HO.lst [V.int 0])
    refine ⟨(by show 1 ≤ sizeLine; decide), fun a3 h3 => ?_⟩
    have z3 := Ext.new h3 (HO.tup [V.bl true])
    refine ⟨(by show 6 ≤ sizeLine; decide), fun L hL => ?_⟩
    have z4 := Ext.new hL (HO.lst [.non, .ref a0, .ref a1, .ref a2, .ref a3, .str (Str.ofString "0")])
    have y4 := e8.trans ((z0.trans z1).trans ((z2.trans z3).trans z4))
    have g0 : BadX _ (.ref a0) := BadX.ext (z1.trans ((z2.trans z3).trans z4)) (.inl ⟨[], ⟨a0, rfl, upd_same⟩, by decide, .inl rfl⟩)
    have g1 : BadX _ (.ref a1) := BadX.ext ((z2.trans z3).trans z4) (.inl ⟨[99], ⟨a1, rfl, upd_same⟩, by decide, .inr ⟨99, by simp, .inr (by decide)⟩⟩)
    have g2 : BadX _ (.ref a2) := BadX.ext (z3.trans z4) (.inr (.inl (.lst upd_same)))
    have g3 : BadX _ (.ref a3) := BadX.ext z4 (.inr (.inr ⟨a3, _, rfl, upd_same, .inr ⟨_, rfl⟩⟩))
    have gL : ∀ h : Hp, (upd h L (HO.lst [.non, .ref a0, .ref a1, .ref a2, .ref a3, .str (Str.ofString "0")])) L = some (HO.lst [.non, .ref a0, .ref a1, .ref a2, .ref a3, .str (Str.ofString "0")]) := fun h => upd_same
    refine ⟨L, rfl, ⟨_, SqL.of (gL _)⟩, ?_⟩
    have gLL := gL (upd (upd (upd (upd H8 a0 (HO.tup [])) a1 (HO.tup [V.int 99])) a2 (HO.lst [V.int 0])) a3 (HO.tup [V.bl true]))
    clear z0 z1 z2 z3 z4 gL
    refine for_list (K := K) (a := L) (xs := [.non, .ref a0, .ref a1, .ref a2, .ref a3, .str (Str.ofString "0")]) (fun i σ H' => ∃ o5 o7 : Option V, σ = [some (.ref sc), some (.ref rr), some (.ref wa), some (.ref ev), o4, o5, none, o7, none, none, none] ∧ Ext _ H') ⟨none, none, rfl, Ext.refl _⟩ (fun i σ H' _ ⟨_, _, _, e⟩ => SqL.of (e.lst gLL)) ?_ ?_
    · rintro i x σ H9 hi ⟨o5, o7, rfl, e9⟩
      have e09 := y4.trans e9
      have hb : BadX H9 x := by
        have hm := List.mem_of_getElem? hi
        simp only [List.mem_cons, List.not_mem_nil, or_false] at hm
        rcases hm with e | e | e | e | e | e
        · rw [e]; exact .inr (.inl .non)
        · rw [e]; exact g0.ext e9
        · rw [e]; exact g1.ext e9
        · rw [e]; exact g2.ext e9
        · rw [e]; exact g3.ext e9
        · rw [e]; exact .inr (.inl (.str _))
      have caught : ∀ H10, Ext H9 H10 → ∃ b, PySem.W.exmOne K (.ref C) (.ref C) = some b ∧ (b = true → ∀ a, H10 a = none → ∃ o5 o7 : Option V, ((([some (.ref sc), some (.ref rr), some (.ref wa), some (.ref ev), o4, some x, some (.ref a), o7, none, none, none] : L2.St).set 7 (some .non)).set 6 none) = [some (.ref sc), some (.ref rr), some (.ref wa), some (.ref ev), o4, o5, none, o7, none, none, none] ∧ Ext _ H10) ∧ (b = false → False) := fun H10 e10 => ⟨true, TK.te, (fun _ a _ => ⟨_, _, rfl, e9.trans e10⟩), (fun q => Bool.noConfusion q)⟩
      refine ⟨_, rfl, _, rfl, _, _, W, rfl, hWA.ext e09, ok, TA.ext e09, ?_⟩
      rcases hb with ⟨ring, h1, h2, h3⟩ | h1
      · refine .inl ⟨ring, h1, h2, fun hm => ?_, fun _ H10 e10 => caught H10 e10⟩
        have q := (ring_ok hm).1
        rcases h3 with e | ⟨n, hn, h4⟩
        · exact absurd e q.ne
        · have := q.num n hn
          have := ok.most
          omega
      · exact .inr ⟨h1, fun H10 e10 => caught H10 e10⟩
    rintro σ H9 ⟨o5, o7, rfl, e9⟩
    have EB := y4.trans e9
    clear g0 g1 g2 g3 y4 e8 e9 gLL
    have hwaB := EB.tup hwa
    have httB := EB.tup htt
    -- whom they look at
    refine ⟨_, rfl, wa, _, _, _, rfl, rfl, hwaB, at_of (j := 0) rfl rfl, tt, _, rfl, .inr httB, _, rfl, by rw [iv_len]; have := ok.few; omega, by rw [iv_len]; have := ok.few; omega, ?_⟩
    have en : (((iv W.tops).length : Nat) : Int).toNat = W.tops.length := by rw [iv_len]; omega
    rw [en]
    refine for_range (lo := 0) (n := W.tops.length) (fun i σ H' => ∃ o8 : Option V, σ = [some (.ref sc), some (.ref rr), some (.ref wa), some (.ref ev), o4, o5, none, o7, o8, none, none] ∧ Ext H7 H') ⟨none, rfl, EB⟩ ?_ ?_
    · rintro i σ H10 hi ⟨o8, rfl, e10⟩
      refine ⟨_, rfl, _, rfl, _, W, _, rfl, hWA.ext e10, ok, ⟨by omega, by omega⟩, TA.ext e10, fun H11 q e11 hq => ?_⟩
      have e011 := e10.trans e11
      refine ⟨_, rfl, _, rfl, _, W, _, rfl, hWA.ext e011, ok.most, fun H12 p us e12 _ hp hus => ?_⟩
      have ll : us.length ≤ 14 := by
        rw [paired_len hus, List.length_map]
        unfold looksOf
        rw [List.length_map]
        exact Nat.le_trans (List.length_filter_le _ _) ok.most
      refine ⟨p, rfl, ⟨_, SqL.of hp⟩, fun D hD => ?_⟩
      refine lc_fmL (R := TI) (S := VI) stTI stVI (fun q => some (q.getD 0 0)) hD hp hus (Nat.le_of_lt (small1000 (by omega))) (fun x q H3 Ky Kn e3 hmem hx k1 k2 => ?_) fun H13 acc e13 hacc hp1 => ?_
      · obtain ⟨q2, _, rfl⟩ := List.mem_map.mp hmem
        obtain ⟨z, rfl, hz⟩ := hx
        exact ⟨z, _, rfl, hz, rfl, _, _, rfl, _, _, rfl, rfl, rfl, yes ⟨_, rfl, k1 _ _ _ rfl (Ext.refl _) rfl⟩⟩
      · have ea := pVI hp1
        subst ea
        refine ⟨D, _, rfl, hacc, fun d hd => ?_⟩
        have X2 := Ext.new hd (.tup (iv (((looksOf W (0 + (i : Int))).map row2).filterMap fun q => some (q.getD 0 0))))
        have el : (((looksOf W (0 + (i : Int))).map row2).filterMap fun q => some (q.getD 0 0)) = (looksOf W (0 + (i : Int))).map (·.1) := by
          rw [List.filterMap_eq_map', List.map_map]
          rfl
        have hd2 : (upd H13 d (.tup (iv (((looksOf W (0 + (i : Int))).map row2).filterMap fun q => some (q.getD 0 0))))) d = some (.tup (iv ((looksOf W (0 + (i : Int))).map (·.1)))) := by rw [upd_same, el]
        refine ⟨q, d, false, _, _, rfl, (e12.trans (e13.trans X2)).tup hq, hd2, rfl, ?_, al1 _ _, fun H14 e14 => ⟨_, rfl, iteF ⟨_, rfl, e011.trans ((e12.trans (e13.trans X2)).trans e14)⟩⟩⟩
        rw [iv_len, List.length_map]
        unfold looksOf
        rw [List.length_map]
        have := List.length_filter_le (fun l : Look3 => l.2.1 == 0 + (i : Int)) W.looks
        have := ok.most
        omega
    rintro σ H10 ⟨o8, rfl, EC⟩
    have tS10 : LamX.TabS H10 T lamQ := LamX.TabS.nil (EC.own T _ own TTA)
    have hevs10 : LT2 H10 (.ref ev) (ringsOf W) := ⟨ev, evs, rfl, EC.lst hevA, pTI.ext EC hevsA⟩
    have hW10 := hWA.ext EC
    have T10 := TA.ext EC
    -- the even ones
    refine ⟨_, rfl, _, rfl, _, rfl, _, W, rfl, hW10, ok, T10, fun H11 fv e11 hfv => ?_⟩
    have tS11 := tabS_own own e11 tS10
    refine ⟨tS11, fun fl cl H12 kp tS12 _ hf hc => ?_⟩
    have x12 := lamExt tS11 kp tS12
    have hW12 := @WebAt.ext ⟨fun _ => False⟩ _ _ _ _ x12 (hW10.ext e11)
    have T12 := @Tabs.ext ⟨fun _ => False⟩ _ _ _ (T10.ext e11) x12
    have hevs12 := @LT2.ext ⟨fun _ => False⟩ _ _ _ _ x12 (hevs10.ext e11)
    refine ⟨fl, cl, rfl, hf, hc, ?_⟩
    refine ⟨.ref wa, .ref ev, fv, fl, W, rfl, rfl, hW12, ok, T12, hevs12, ?_, fun H13 e13 => ⟨_, rfl, iteF ?_⟩⟩
    · rcases hfv with h | ⟨ring, h1, h2⟩
      · exact .inl h
      · exact .inr ⟨ring, @TI.ext ⟨fun _ => False⟩ _ _ _ _ x12 h1, h2⟩
    have tS13 := tabS_own own e13 tS12
    have hW13 := hW12.ext e13
    have T13 := T12.ext e13
    have hevs13 := hevs12.ext e13
    -- the odd ones
    refine ⟨_, rfl, _, rfl, _, rfl, _, rfl, _, W, rfl, hW13, ok, T13, fun H14 fv e14 hfv => ?_⟩
    have tS14 := tabS_own own e14 tS13
    refine ⟨tS14, fun fl cl H15 kp tS15 _ hf hc => ?_⟩
    have x15 := lamExt tS14 kp tS15
    refine ⟨fl, cl, rfl, hf, hc, ?_⟩
    refine ⟨.ref wa, .ref ev, fv, fl, W, rfl, rfl, @WebAt.ext ⟨fun _ => False⟩ _ _ _ _ x15 (hW13.ext e14), ok, @Tabs.ext ⟨fun _ => False⟩ _ _ _ (T13.ext e14) x15, @LT2.ext ⟨fun _ => False⟩ _ _ _ _ x15 (hevs13.ext e14), ?_, fun H16 e16 => k H16⟩
    rcases hfv with h | ⟨ring, h1, h2⟩
    · exact .inl h
    · exact .inr ⟨ring, @TI.ext ⟨fun _ => False⟩ _ _ _ _ x15 h1, h2⟩
end
end
end Lk

/-! ## EndB -/
set_option Elab.async false
set_option linter.all false
set_option maxRecDepth 100000
set_option maxHeartbeats 4000000
/-! The end of any law: defs as they stand in the heap behind the program's lines, their tables of code objects. -/
namespace Lk
open PySem PySem.Spec PyProof.Rows L2 Gx
/-- the tables of code objects are empty when the law is called -/
def TabAll (q : Program) (mg : Str → Option Value) (h : Heap) : Prop := ∀ d ∈ recsOf q, ∃ a o fd c P, mg d.name = some (.ref a) ∧ h.get? a = some o ∧ o.data = .func fd ∧ fd.code = .ref c ∧ h.IsCode c P #[] ∧ h.TableAt c P #[]
theorem walk_tabs {l : PySem.W.OpenLaw} {q : Program} {XP : (Str → Option Value) → Heap → Prop} {YP : World → Heap → Prop} {d : DefRec} {K : Params → PySem.W.Frag} {k : Nat} {x : Str} (hn : l.most = some 63) (hdf : d.params.defaults = []) (hr : Room k callerA) (hY : ∀ w h, YP w h → (K w.params).In h)
    (F : ∀ w mg fa h, (K w.params).In h → h.Ns mainGlobals mg → mg d.name = some (.ref fa) → TabAll q mg h → LamX.LawAtS l w (K w.params) CX0 k 63 x mg fa h) : PySem.W.WalkO q [] XP YP l.row.toRowW d [] (fun f vs => PySem.call f vs) := by
  refine Att.attach_callB hn hdf fun w _ s1 mg _ fa _ _ _ _ a vs ns G Y _ _ _ hm ho hi hl hb hg => ?_
  obtain ⟨fd, cs, sp, t1, t2, t3, t4, t5, t6⟩ := F w mg fa s1.heap (hY w _ Y) G.T.g hm G.T.tab
  exact LamX.law_callTs (hY w _ Y) G.T.g G.T.b G.T.builtins G.T.nolimit hg t1 t2 t3 G.T.bmain ho hi (Nat.le_trans hl (by decide)) hr t6 t4 (fun H hH hS => t5 H a ns hl hb hH hS) fun _ _ _ z => z
/-- a def of the module, named as it is bound -/
structure FnAt (K : PySem.W.Frag) (x : Str) (st : Stmt) : Prop where
  ex : ∃ f fd, PySem.W.nsIn K mainGlobals x = some (some (.ref f)) ∧ L2.Fun K x x st f fd
/-- .. that has a table of code objects, at T -/
structure FnTb (K : PySem.W.Frag) (x : Str) (st : Stmt) (T : Addr) : Prop where
  ex : ∃ f oc od kV doc pm an cda ct osl ccl cdd vs ccs, PySem.W.nsIn K mainGlobals x = some (some (.ref f)) ∧ K.lookup f = some ⟨oc, od, .func (PySem.W.fnOf x x (defArgs st) (defBody st) (defScope st) .none kV doc pm an (.ref cda) ct), osl⟩ ∧ PySem.W.codeIn K (.ref cda) x = true ∧ PySem.W.keepIn K (.ref f) = true ∧
    K.lookup cda = some ⟨ccl, cdd, .fields vs, ccs⟩ ∧ vs[11]? = some (.ref T)
/-- .. in the heap -/
structure TabAt (K : PySem.W.Frag) (mg : Str → Option Value) (h : Heap) (x : Str) (st : Stmt) (c T : Addr) : Prop where
  hd : PySem.W.CodeHd h c T
  none : h.get? T = some { cls := .none, data := .fields #[] }
  fn : ∃ f fd, mg x = some (.ref f) ∧ L2.Fun K x x st f fd ∧ ∃ (oc : Value) (od : Option Addr) (kV doc pm : Value) (an : Option Addr) (ct : Value) (osl : Array (Option Value)),
    fd = PySem.W.fnOf x x (defArgs st) (defBody st) (defScope st) .none kV doc pm an (.ref c) ct ∧ K.lookup f = some ⟨oc, od, .func fd, osl⟩ ∧ PySem.W.codeIn K (.ref c) x = true
section
variable {P : Program} {w : World} {K : PySem.W.Frag} {mg : Str → Option Value} {base h : Heap} {x : Str} {st : Stmt} {q : Program} {CX : CXT} {k : Nat} {ps : List Str} {sp : Sp}
theorem fnAt {f : Addr} {oc : Value} {od an : Option Addr} {osl : Array (Option Value)} {kV doc pm cdv ct : Value} (n : PySem.W.nsIn K mainGlobals x = some (some (.ref f)))
    (l : K.lookup f = some ⟨oc, od, .func (PySem.W.fnOf x x (defArgs st) (defBody st) (defScope st) .none kV doc pm an cdv ct), osl⟩) (c : PySem.W.codeIn K cdv x = true) (k : PySem.W.keepIn K (.ref f) = true) : FnAt K x st := ⟨⟨_, _, n, L2.fun_mk l c k⟩⟩
theorem fnTb {f cda T : Addr} {oc : Value} {od an : Option Addr} {osl : Array (Option Value)} {kV doc pm ct : Value} {ccl : Value} {cdd : Option Addr} {vs : Array Value} {ccs : Array (Option Value)} (n : PySem.W.nsIn K mainGlobals x = some (some (.ref f)))
    (l : K.lookup f = some ⟨oc, od, .func (PySem.W.fnOf x x (defArgs st) (defBody st) (defScope st) .none kV doc pm an (.ref cda) ct), osl⟩) (c : PySem.W.codeIn K (.ref cda) x = true) (k : PySem.W.keepIn K (.ref f) = true)
    (lc : K.lookup cda = some ⟨ccl, cdd, .fields vs, ccs⟩) (l11 : vs[11]? = some (.ref T)) : FnTb K x st T := ⟨⟨_, _, _, _, _, _, _, _, _, _, _, _, _, _, n, l, c, k, lc, l11⟩⟩
theorem FnAt.cal (A : FnAt K x st) (X : K.In h) (G : h.Ns mainGlobals mg)
    (hb : ∀ (kV doc pm : Value) (an : Option Addr) (cdv ct : Value) (us : List Value), us.length = ps.length → bindArgs (PySem.W.fnOf x x (defArgs st) (defBody st) (defScope st) .none kV doc pm an cdv ct) ⟨us, []⟩ = pure (ps.zip us))
    (ok : ∀ f fd, L2.Fun K x x st f fd → FnOk P w K mg base CX k f fd ps sp) : Cal P w K mg base CX k x ps sp := by
  obtain ⟨f, fd, n, F⟩ := A.ex
  exact ⟨f, fd, PySem.W.mg_of X G n, F.kp, F.binds hb, ok f fd F⟩
theorem FnAt.gcal (A : FnAt K x st) (X : K.In h) (G : h.Ns mainGlobals mg)
    (hb : ∀ (kV doc pm : Value) (an : Option Addr) (cdv ct : Value) (us : List Value), us.length = ps.length → bindArgs (PySem.W.fnOf x x (defArgs st) (defBody st) (defScope st) .none kV doc pm an cdv ct) ⟨us, []⟩ = pure (ps.zip us)) : GCal K mg x st ps := by
  obtain ⟨f, fd, n, F⟩ := A.ex
  exact ⟨f, fd, PySem.W.mg_of X G n, F.kp, F.binds hb, F⟩
theorem FnTb.tab {T : Addr} (A : FnTb K x st T) (X : K.In h) (G : h.Ns mainGlobals mg) (TA : TabAll q mg h) (hr : ((recsOf q).any fun e => e.name == x) = true) : ∃ c, TabAt K mg h x st c T := by
  obtain ⟨d, hd, hx⟩ := List.any_eq_true.mp hr
  have hx : d.name = x := beq_iff_eq.mp hx
  subst hx
  obtain ⟨a, o, fd, c, Q, h1, h2, h3, h4, h5, h6⟩ := TA d hd
  obtain ⟨f, oc, od, kV, doc, pm, an, cda, ct, osl, ccl, cdd, vs, ccs, n, lk, hcd, kp, lc, l11⟩ := A.ex
  have hm := PySem.W.mg_of X G n
  rw [hm] at h1
  cases h1
  have g := X _ _ lk
  rw [h2] at g
  cases g
  have e3 : fd = PySem.W.fnOf d.name d.name (defArgs st) (defBody st) (defScope st) .none kV doc pm an (.ref cda) ct := by
    have h3' : Data.func (PySem.W.fnOf d.name d.name (defArgs st) (defBody st) (defScope st) .none kV doc pm an (.ref cda) ct) = Data.func fd := h3
    exact (Data.func.inj h3').symm
  subst e3
  have e4 : Value.ref cda = .ref c := h4
  cases e4
  have eT : Q = T := by
    obtain ⟨⟨o, us, g1, _, g2, g3⟩, _⟩ := h6
    have g4 := X _ _ lc
    rw [g1] at g4
    cases g4
    have g2' : Data.fields vs = Data.fields us := g2
    cases g2'
    rw [l11] at g3
    cases g3
    rfl
  subst eT
  exact ⟨c, PySem.W.CodeHd.of h5 h6, h6.2, a, _, hm, L2.fun_mk lk hcd kp, oc, od, kV, doc, pm, an, ct, osl, rfl, lk, hcd⟩
theorem TabAt.cal [Own] {c T : Addr} {Ps : List Addr} (A : TabAt K mg h x st c T) (hP : T ∈ Ps) (hn : ¬ Own.own T) (tb : LamX.TabB base mg c T)
    (hb : ∀ (kV doc pm : Value) (an : Option Addr) (cdv ct : Value) (us : List Value), us.length = ps.length → bindArgs (PySem.W.fnOf x x (defArgs st) (defBody st) (defScope st) .none kV doc pm an cdv ct) ⟨us, []⟩ = pure (ps.zip us))
    (ok : ∀ f fd, FunT K mg base Ps x st f fd T → FnOk P w K mg base CX k f fd ps sp) : Cal P w K mg base CX k x ps sp := by
  obtain ⟨f, fd, hm, F, oc, od, kV, doc, pm, an, ct, osl, e, lk, hcd⟩ := A.fn
  exact ⟨f, fd, hm, F.kp, F.binds hb, ok f fd ⟨⟨oc, od, kV, doc, pm, an, c, ct, osl, e, lk, hcd, tb.code, tb.bm, tb.gP⟩, hP, hn⟩⟩
end
/-- no table stands among the heap's written objects -/
def noTbl (K : PySem.W.Frag) : Bool := K.all fun p => match p.2.data with | .fields vs => vs.size != 0 | _ => true
theorem lookup_mem {α β : Type} [BEq α] [LawfulBEq α] {a : α} {b : β} : ∀ {l : List (α × β)}, l.lookup a = some b → (a, b) ∈ l
  | [], e => by simp at e
  | (c, d) :: r, e => by
    rw [List.lookup_cons] at e
    cases hc : a == c with
    | true =>
      rw [hc] at e
      have := beq_iff_eq.mp hc
      subst this
      cases e
      exact .head _
    | false =>
      rw [hc] at e
      exact .tail _ (lookup_mem e)
theorem noTbl_at {K : PySem.W.Frag} {h : Heap} {T : Addr} (n : noTbl K = true) (X : K.In h) (e : h.get? T = some { cls := .none, data := .fields #[] }) : K.lookup T = none := by
  cases q : K.lookup T with
  | none => rfl
  | some o =>
    have g := X _ _ q
    rw [e] at g
    cases g
    have := List.all_eq_true.mp n _ (lookup_mem q)
    exact absurd this (fun z => Bool.noConfusion (show false = true from z))
theorem exm_self {K : PySem.W.Frag} {S : Addr} (h1 : PySem.W.subIn K (.ref S) (.type "BaseException") = some true) (h2 : PySem.W.isClsIn K S = true) (h3 : PySem.W.typeIn K (.ref S) = some (.type "type")) (h4 : PySem.W.subIn K (.ref S) (.ref S) = some true) : PySem.W.exmOne K (.ref S) (.ref S) = some true := by
  have h5 : (PySem.W.clsIn K S).isSome = true := h2
  have t1 : ((some true : Option Bool) == some true) = true := by decide
  have t2 : (some (Value.type "type") == some (Value.type "type")) = true := by rfl
  unfold PySem.W.exmOne
  rw [h1, if_pos t1]
  have t3 : ((PySem.W.clsIn K S).isSome && PySem.W.typeIn K (.ref S) == some (.type "type")) = true := by
    rw [h3, h5, t2] <;> rfl
  show (if ((PySem.W.clsIn K S).isSome && PySem.W.typeIn K (.ref S) == some (.type "type")) = true then PySem.W.subIn K (.ref S) (.ref S) else none) = some true
  rw [if_pos t3]
  exact h4
theorem num_mk {K : PySem.W.Frag} {x : Str} {n : Int} {t : Tok} (e : PySem.W.nsIn K mainGlobals x = some (some (.int n t))) : ∃ t, PySem.W.nsIn K mainGlobals x = some (some (.int n t)) := ⟨t, e⟩
/-- an own error class of the module without an __init__ of its own, as raised and as caught -/
structure OwnAt (K : PySem.W.Frag) (x : Str) (C : Addr) : Prop where
  gC : PySem.W.nsIn K mainGlobals x = some (some (.ref C))
  ex : PySem.W.excIn K C [.type "ValueError", .type "Exception", .type "BaseException", .type "object"] "ValueError.__new__" = true
  kC : PySem.W.keepIn K (.ref C) = true
  exC : PySem.W.subIn K (.ref C) (.type "BaseException") = some true
  tyC : PySem.W.typeIn K (.ref C) = some (.type "type")
  isC : PySem.W.isClsIn K C = true
  sC : PySem.W.subIn K (.ref C) (.ref C) = some true
theorem OwnAt.own0 {K : PySem.W.Frag} {h : Heap} {mg : Str → Option Value} {x : Str} {C : Addr} (o : OwnAt K x C) (X : K.In h) (G : h.Ns mainGlobals mg) : @Own0 K mg x C := ⟨PySem.W.mg_of X G o.gC, o.ex, o.kC, o.exC, o.tyC⟩
theorem OwnAt.te {K : PySem.W.Frag} {x : Str} {C : Addr} (o : OwnAt K x C) : PySem.W.exmOne K (.ref C) (.ref C) = some true := exm_self o.exC o.isC o.tyC o.sC
end Lk

/-! ## End1 -/
set_option Elab.async false
set_option linter.all false
set_option maxRecDepth 100000
set_option maxHeartbeats 4000000
/-! All defs of the heap behind the program's lines, joined to the law on rings. -/
namespace Lk
open PySem PySem.Spec PyProof.Rows L2 Gx
structure Names (K : PySem.W.Frag) : Prop where
  n_isi : PySem.W.nsIn K mainGlobals "isinstance" = some none
  n_int : PySem.W.nsIn K mainGlobals "int" = some none
  n_bool : PySem.W.nsIn K mainGlobals "bool" = some none
  n_tuple : PySem.W.nsIn K mainGlobals "tuple" = some none
  n_list : PySem.W.nsIn K mainGlobals "list" = some none
  n_set : PySem.W.nsIn K mainGlobals "set" = some none
  n_len : PySem.W.nsIn K mainGlobals "len" = some none
  n_all : PySem.W.nsIn K mainGlobals "all" = some none
  n_range : PySem.W.nsIn K mainGlobals "range" = some none
  n_sorted : PySem.W.nsIn K mainGlobals "sorted" = some none
  n_enum : PySem.W.nsIn K mainGlobals "enumerate" = some none
  n_zip : PySem.W.nsIn K mainGlobals "zip" = some none
  n_max : PySem.W.nsIn K mainGlobals "max" = some none
  n_str : PySem.W.nsIn K mainGlobals "str" = some none
  n_sup : PySem.W.nsIn K mainGlobals "super" = some none
  n_min : PySem.W.nsIn K mainGlobals "min" = some none
  n_MOST_FOLK : ∃ t, PySem.W.nsIn K mainGlobals "MOST_FOLK" = some (some (.int 6 t))
  n_MOST_TOP : ∃ t, PySem.W.nsIn K mainGlobals "MOST_TOP" = some (some (.int 3 t))
  n_MOST_LOOKS : ∃ t, PySem.W.nsIn K mainGlobals "MOST_LOOKS" = some (some (.int 14 t))
  n_MOST_LOOKS_OF_ONE : ∃ t, PySem.W.nsIn K mainGlobals "MOST_LOOKS_OF_ONE" = some (some (.int 4 t))
theorem Names.blt {K : PySem.W.Frag} {h : Heap} {mg : Str → Option Value} (N : Names K) (X : K.In h) (G : h.Ns mainGlobals mg) : @Blt mg :=
  ⟨PySem.W.mg_none_of X G N.n_isi, PySem.W.mg_none_of X G N.n_int, PySem.W.mg_none_of X G N.n_bool, PySem.W.mg_none_of X G N.n_tuple, PySem.W.mg_none_of X G N.n_list, PySem.W.mg_none_of X G N.n_set, PySem.W.mg_none_of X G N.n_len, PySem.W.mg_none_of X G N.n_all, PySem.W.mg_none_of X G N.n_range, PySem.W.mg_none_of X G N.n_sorted, PySem.W.mg_none_of X G N.n_enum, PySem.W.mg_none_of X G N.n_zip, PySem.W.mg_none_of X G N.n_max, PySem.W.mg_none_of X G N.n_str, PySem.W.mg_none_of X G N.n_sup⟩
theorem Names.nums {K : PySem.W.Frag} {h : Heap} {mg : Str → Option Value} (N : Names K) (X : K.In h) (G : h.Ns mainGlobals mg) : @Nums mg :=
  ⟨let ⟨t, e⟩ := N.n_MOST_FOLK; ⟨t, PySem.W.mg_of X G e⟩, let ⟨t, e⟩ := N.n_MOST_TOP; ⟨t, PySem.W.mg_of X G e⟩, let ⟨t, e⟩ := N.n_MOST_LOOKS; ⟨t, PySem.W.mg_of X G e⟩, let ⟨t, e⟩ := N.n_MOST_LOOKS_OF_ONE; ⟨t, PySem.W.mg_of X G e⟩⟩
theorem law_mk {l : PySem.W.OpenLaw} {w : World} {K : PySem.W.Frag} {h : Heap} {mg : Str → Option Value} {fa C TL T0 T1 T2 : Addr} {q : Program} (X : K.In h) (G : h.Ns mainGlobals mg) (hfa : mg "law" = some (.ref fa)) (TA : TabAll q mg h) (nt : noTbl K = true) (N : Names K) (OA : OwnAt K "BadRing" C)
    (r_are_tops : ((recsOf q).any fun e => e.name == "are_tops") = true)
    (r_are_looks : ((recsOf q).any fun e => e.name == "are_looks") = true)
    (r_is_ring : ((recsOf q).any fun e => e.name == "is_ring") = true)
    (r_law : ((recsOf q).any fun e => e.name == "law") = true)
    (a_is_whole : FnAt K "is_whole" sIsWhole)
    (a_are_tops : FnTb K "are_tops" s_are_tops T0)
    (a_is_look : FnAt K "is_look" s_is_look)
    (a_looks_of : FnAt K "looks_of" s_looks_of)
    (a_are_looks : FnTb K "are_looks" s_are_looks T1)
    (a_wrong_part : FnAt K "wrong_part" s_wrong_part)
    (a_check_web : FnAt K "check_web" s_check_web)
    (a_check_folk : FnAt K "check_folk" s_check_folk)
    (a_looked_at : FnAt K "looked_at" s_looked_at)
    (a_closes : FnAt K "closes" s_closes)
    (a_goes_on : FnAt K "goes_on" s_goes_on)
    (a_all_rings : FnAt K "all_rings" s_all_rings)
    (a_has_even_spites : FnAt K "has_even_spites" s_has_even_spites)
    (a_even_rings : FnAt K "even_rings" s_even_rings)
    (a_odd_rings : FnAt K "odd_rings" s_odd_rings)
    (a_is_ring : FnTb K "is_ring" s_is_ring T2)
    (a_check_ring : FnAt K "check_ring" s_check_ring)
    (a_shows_shortest : FnAt K "shows_shortest" s_shows_shortest)
    (a_rings : FnAt K "rings" s_rings)
    (a_is_even : FnAt K "is_even" s_is_even)
    (a_even_ring : FnAt K "even_ring" s_even_ring)
    (a_odd_ring : FnAt K "odd_ring" s_odd_ring)
    (a_shows_even_ring : FnAt K "shows_even_ring" s_shows_even_ring)
    (a_shows_odd_ring : FnAt K "shows_odd_ring" s_shows_odd_ring)
    (a__law_taken : FnAt K "_law_taken" s__law_taken)
    (a__law_web : FnAt K "_law_web" s__law_web)
    (a__law_rings : FnAt K "_law_rings" s__law_rings)
    (a__law_sign : FnAt K "_law_sign" s__law_sign)
    (a__law_seen : FnAt K "_law_seen" s__law_seen)
    (a_alike : FnAt K "_law_alike" s__law_alike) (a__law_shown : FnAt K "_law_shown" s__law_shown) (a_law : FnTb K "law" s_law TL)
    (d0 : T0 ≠ TL) (d1 : T1 ≠ TL) (d2 : T2 ≠ TL) : LamX.LawAtS l w K CX0 10 63 "script" mg fa h := by
  obtain ⟨c0, t0⟩ := a_are_tops.tab X G TA r_are_tops
  obtain ⟨c1, t1⟩ := a_are_looks.tab X G TA r_are_looks
  obtain ⟨c2, t2⟩ := a_is_ring.tab X G TA r_is_ring
  obtain ⟨cL, tL⟩ := a_law.tab X G TA r_law
  obtain ⟨f, fd, hm, F, oc, od, kV, doc, pm, an, ct, osl, e, lk, hcd⟩ := id tL.fn
  rw [hm] at hfa
  cases hfa
  letI : Own := ⟨fun a => a = TL⟩
  have B : Blt mg := N.blt X G
  have M : Nums mg := N.nums X G
  have bmin : mg "min" = none := PySem.W.mg_none_of X G N.n_min
  have O : Own0 K mg "BadRing" C := OA.own0 X G
  refine ⟨fd, [(c0, T0), (c1, T1), (c2, T2), (cL, TL)], spLaw K [T0, T1, T2] TL, (by
    intro p hp
    simp only [List.mem_cons, List.not_mem_nil, or_false] at hp
    rcases hp with e | e | e | e
    · rw [e]; exact t0.none
    · rw [e]; exact t1.none
    · rw [e]; exact t2.none
    · rw [e]; exact tL.none
    ), (by
    intro p hp
    simp only [List.mem_cons, List.not_mem_nil, or_false] at hp
    rcases hp with e | e | e | e
    · rw [e]; exact noTbl_at nt X t0.none
    · rw [e]; exact noTbl_at nt X t1.none
    · rw [e]; exact noTbl_at nt X t2.none
    · rw [e]; exact noTbl_at nt X tL.none
    ), (by
    intro p hp
    simp only [List.mem_cons, List.not_mem_nil, or_false] at hp
    rcases hp with e | e | e | e
    · rw [e]; exact t0.hd
    · rw [e]; exact t1.hd
    · rw [e]; exact t2.hd
    · rw [e]; exact tL.hd
    ), ?_, ?_, ?_⟩
  · intro s u
    rw [e]
    exact .of_eq rfl
  · intro H a ns hl hb hH hS
    refine ⟨a, ns, rfl, hS, hl, fun p hp => ?_, hH (cL, TL) (by simp), fun _ => rfl⟩
    simp only [List.mem_cons, List.not_mem_nil, or_false] at hp
    rcases hp with e | e | e
    · rw [e]; exact ⟨#[], hH (c0, T0) (by simp), trivial⟩
    · rw [e]; exact ⟨#[], hH (c1, T1) (by simp), trivial⟩
    · rw [e]; exact ⟨#[], hH (c2, T2) (by simp), trivial⟩
  · intro base XB GB tb
    have tb0 := tb (c0, T0) (by simp)
    have tb1 := tb (c1, T1) (by simp)
    have tb2 := tb (c2, T2) (by simp)
    have tbL := tb (cL, TL) (by simp)
    generalize hPs : ([T0, T1, T2] : List Addr) = Ps
    have m0 : T0 ∈ Ps := by rw [← hPs]; simp
    have m1 : T1 ∈ Ps := by rw [← hPs]; simp
    have m2 : T2 ∈ Ps := by rw [← hPs]; simp
    clear hPs
    have c_is_whole : Cal l.prog w K mg base CX0 1 "is_whole" ["value", "least", "most"] spIsWhole := a_is_whole.cal X G (fun _ _ _ _ _ _ us hl => match us, hl with | [_, _, _], _ => rfl) fun f fd F => ok_is_whole F B.isi B.int B.bool
    have c_is_wholeG : Cal l.prog w K mg base CX0 1 "is_whole" ["value", "least", "most"] spIsWholeG := a_is_whole.cal X G (fun _ _ _ _ _ _ us hl => match us, hl with | [_, _, _], _ => rfl) fun f fd F => ok_is_wholeG F B
    have c_are_tops : Cal l.prog w K mg base CX0 3 "are_tops" ["value"] (spAreTops Ps) := t0.cal m0 d0 tb0 (fun _ _ _ _ _ _ us hl => match us, hl with | [_], _ => rfl) fun f fd F => ok_are_tops F B M c_is_whole
    have c_is_look : Cal l.prog w K mg base CX0 2 "is_look" ["value", "many"] spIsLook := a_is_look.cal X G (fun _ _ _ _ _ _ us hl => match us, hl with | [_, _], _ => rfl) fun f fd F => ok_is_look F B c_is_whole
    have c_looks_of : Cal l.prog w K mg base CX0 1 "looks_of" ["web", "folk"] spLooksOf := a_looks_of.cal X G (fun _ _ _ _ _ _ us hl => match us, hl with | [_, _], _ => rfl) fun f fd F => ok_looks_of F
    have c_are_looks : Cal l.prog w K mg base CX0 4 "are_looks" ["value", "many"] (spAreLooks Ps) := t1.cal m1 d1 tb1 (fun _ _ _ _ _ _ us hl => match us, hl with | [_, _], _ => rfl) fun f fd F => ok_are_looks F B M c_is_look
    have c_wrong_part : Cal l.prog w K mg base CX0 5 "wrong_part" ["web"] (spWrongPart Ps) := a_wrong_part.cal X G (fun _ _ _ _ _ _ us hl => match us, hl with | [_], _ => rfl) fun f fd F => ok_wrong_part F B c_are_tops c_are_looks
    have c_check_web : Cal l.prog w K mg base CX0 6 "check_web" ["web"] (spCheckWeb Ps) := a_check_web.cal X G (fun _ _ _ _ _ _ us hl => match us, hl with | [_], _ => rfl) fun f fd F => ok_check_web F c_wrong_part
    have c_check_folk : Cal l.prog w K mg base CX0 2 "check_folk" ["web", "folk"] spCheckFolk := a_check_folk.cal X G (fun _ _ _ _ _ _ us hl => match us, hl with | [_, _], _ => rfl) fun f fd F => ok_check_folk F B c_is_whole
    have c_looked_at : Cal l.prog w K mg base CX0 7 "looked_at" ["web", "folk"] (spLookedAt Ps) := a_looked_at.cal X G (fun _ _ _ _ _ _ us hl => match us, hl with | [_, _], _ => rfl) fun f fd F => ok_looked_at F B c_check_web c_check_folk c_looks_of
    have c_closes : Cal l.prog w K mg base CX0 1 "closes" ["looks", "path"] spCloses := a_closes.cal X G (fun _ _ _ _ _ _ us hl => match us, hl with | [_, _], _ => rfl) fun f fd F => ok_closes F
    have c_goes_on : Cal l.prog w K mg base CX0 1 "goes_on" ["looks", "path", "number"] spGoesOn := a_goes_on.cal X G (fun _ _ _ _ _ _ us hl => match us, hl with | [_, _, _], _ => rfl) fun f fd F => ok_goes_on F
    have c_all_rings : Cal l.prog w K mg base CX0 2 "all_rings" ["web"] spAllRings := a_all_rings.cal X G (fun _ _ _ _ _ _ us hl => match us, hl with | [_], _ => rfl) fun f fd F => ok_all_rings F B c_closes c_goes_on
    have c_has_even_spites : Cal l.prog w K mg base CX0 1 "has_even_spites" ["web", "ring"] spHasEven := a_has_even_spites.cal X G (fun _ _ _ _ _ _ us hl => match us, hl with | [_, _], _ => rfl) fun f fd F => ok_has_even_spites F B
    have c_even_rings : Cal l.prog w K mg base CX0 3 "even_rings" ["web"] (spKind true) := a_even_rings.cal X G (fun _ _ _ _ _ _ us hl => match us, hl with | [_], _ => rfl) fun f fd F => ok_even_rings F c_all_rings c_has_even_spites
    have c_odd_rings : Cal l.prog w K mg base CX0 3 "odd_rings" ["web"] (spKind false) := a_odd_rings.cal X G (fun _ _ _ _ _ _ us hl => match us, hl with | [_], _ => rfl) fun f fd F => ok_odd_rings F c_all_rings c_has_even_spites
    have c_is_ring : Cal l.prog w K mg base CX0 3 "is_ring" ["web", "value"] (spIsRing Ps) := t2.cal m2 d2 tb2 (fun _ _ _ _ _ _ us hl => match us, hl with | [_, _], _ => rfl) fun f fd F => ok_is_ring F B c_is_wholeG c_all_rings
    have c_check_ring : Cal l.prog w K mg base (L2.CX l.prog w) 4 "check_ring" ["web", "ring"] (spCheckRing Ps C) := a_check_ring.cal X G (fun _ _ _ _ _ _ us hl => match us, hl with | [_, _], _ => rfl) fun f fd F => ok_check_ring F O c_is_ring
    have c_shows_shortest : Cal l.prog w K mg base CX0 4 "shows_shortest" ["web", "found", "value"] (spShortest Ps) := a_shows_shortest.cal X G (fun _ _ _ _ _ _ us hl => match us, hl with | [_, _, _], _ => rfl) fun f fd F => ok_shows_shortest F B bmin c_is_ring
    have c_rings : Cal l.prog w K mg base CX0 7 "rings" ["web"] (spRings Ps) := a_rings.cal X G (fun _ _ _ _ _ _ us hl => match us, hl with | [_], _ => rfl) fun f fd F => ok_rings F c_check_web c_all_rings
    have c_is_even : Cal l.prog w K mg base (L2.CX l.prog w) 7 "is_even" ["web", "ring"] (spIsEven Ps C) := a_is_even.cal X G (fun _ _ _ _ _ _ us hl => match us, hl with | [_, _], _ => rfl) fun f fd F => ok_is_even F c_check_web c_check_ring c_has_even_spites
    have c_even_ring : Cal l.prog w K mg base CX0 7 "even_ring" ["web"] (spKindRing Ps true) := a_even_ring.cal X G (fun _ _ _ _ _ _ us hl => match us, hl with | [_], _ => rfl) fun f fd F => ok_even_ring F B bmin c_check_web c_even_rings
    have c_odd_ring : Cal l.prog w K mg base CX0 7 "odd_ring" ["web"] (spKindRing Ps false) := a_odd_ring.cal X G (fun _ _ _ _ _ _ us hl => match us, hl with | [_], _ => rfl) fun f fd F => ok_odd_ring F B bmin c_check_web c_odd_rings
    have c_shows_even_ring : Cal l.prog w K mg base CX0 7 "shows_even_ring" ["web", "value"] (spShows Ps true) := a_shows_even_ring.cal X G (fun _ _ _ _ _ _ us hl => match us, hl with | [_, _], _ => rfl) fun f fd F => ok_shows_even_ring F c_check_web c_even_rings c_shows_shortest
    have c_shows_odd_ring : Cal l.prog w K mg base CX0 7 "shows_odd_ring" ["web", "value"] (spShows Ps false) := a_shows_odd_ring.cal X G (fun _ _ _ _ _ _ us hl => match us, hl with | [_, _], _ => rfl) fun f fd F => ok_shows_odd_ring F c_check_web c_odd_rings c_shows_shortest
    have c__law_taken : Cal l.prog w K mg base CX0 1 "_law_taken" ["row", "many"] (spTaken K) := a__law_taken.cal X G (fun _ _ _ _ _ _ us hl => match us, hl with | [_, _], _ => rfl) fun f fd F => ok_taken F B
    have c__law_web : Cal l.prog w K mg base CX0 2 "_law_web" ["row", "folk", "most", "looks"] (spLawWeb K) := a__law_web.cal X G (fun _ _ _ _ _ _ us hl => match us, hl with | [_, _, _, _], _ => rfl) fun f fd F => ok_law_web F B c__law_taken
    have c__law_rings : Cal l.prog w K mg base CX0 1 "_law_rings" ["web"] spLawRings := a__law_rings.cal X G (fun _ _ _ _ _ _ us hl => match us, hl with | [_], _ => rfl) fun f fd F => ok_law_rings F B bmin
    have c__law_sign : Cal l.prog w K mg base CX0 1 "_law_sign" ["web", "ring"] spLawSign := a__law_sign.cal X G (fun _ _ _ _ _ _ us hl => match us, hl with | [_, _], _ => rfl) fun f fd F => ok_law_sign F
    have c__law_seen : Cal l.prog w K mg base CX0 1 "_law_seen" ["web", "folk"] spLawSeen := a__law_seen.cal X G (fun _ _ _ _ _ _ us hl => match us, hl with | [_, _], _ => rfl) fun f fd F => ok_law_seen F
    have c_alike0 : Cal l.prog w K mg base CX0 1 "_law_alike" ["found", "due"] spAlike0 := a_alike.cal X G (fun _ _ _ _ _ _ us hl => match us, hl with | [_, _], _ => rfl) fun f fd F => ok_alike0 F B
    have c_alike1 : Cal l.prog w K mg base CX0 2 "_law_alike" ["found", "due"] (spAlikeS spAlike0) := a_alike.cal X G (fun _ _ _ _ _ _ us hl => match us, hl with | [_, _], _ => rfl) fun f fd F => ok_alikeS (fun vs H Q E h => by rcases h.1 with ⟨i, e⟩ | ⟨i, e⟩ <;> (rw [e]; rfl)) F B c_alike0
    have c_alike2 : Cal l.prog w K mg base CX0 3 "_law_alike" ["found", "due"] (spAlikeS (spAlikeS spAlike0)) := a_alike.cal X G (fun _ _ _ _ _ _ us hl => match us, hl with | [_, _], _ => rfl) fun f fd F => ok_alikeS (fun vs H Q E h => by obtain ⟨a, b, k, xs, ys, e, _⟩ := h; rw [e]; rfl) F B c_alike1
    have gS := a__law_shown.gcal (ps := ["web", "every", "sign", "found", "shows"]) X G (fun _ _ _ _ _ _ us hl => match us, hl with | [_, _, _, _, _], _ => rfl)
    exact ok_law ⟨⟨oc, od, kV, doc, pm, an, cL, ct, osl, e, lk, hcd, tbL⟩⟩ rfl B bmin ⟨O.gC, OA.te⟩ gS c__law_taken c__law_web c__law_rings c_alike0 c_alike1 c_alike2 c__law_sign c__law_seen c_rings c_is_even c_looked_at c_even_ring c_odd_ring c_shows_even_ring c_shows_odd_ring
end Lk

/-! ## HeadF1 -/
set_option Elab.async false
open PySem PySem.W PyProof.Rows in
set_option maxRecDepth 100000 in
set_option maxHeartbeats 0 in
theorem PySem.Challenge.cw_likespite_k01_whole_rings_holds : PySem.Challenge.rw_likespite_k01_whole_rings.Holds := by
  w_on; o_law; k_head; (case hw => w_witness2)
  k_fill
  refine Lk.walk_tabs (l := PySem.Challenge.rw_likespite_k01_whole_rings) (k := 10) (x := "script") (by decide +kernel) rfl ⟨rfl, by decide, by decide⟩ (fun w h Y => PySem.W.km_in_of Y) ?F
  case F =>
    intro w mg fa h X G hfa T
    refine' Lk.law_mk X G hfa T ?zNt ?zNm ?zOA (by decide +kernel) (by decide +kernel) (by decide +kernel) (by decide +kernel) ?za_is_whole ?za_are_tops ?za_is_look ?za_looks_of ?za_are_looks ?za_wrong_part ?za_check_web ?za_check_folk ?za_looked_at ?za_closes ?za_goes_on ?za_all_rings ?za_has_even_spites ?za_even_rings ?za_odd_rings ?za_is_ring ?za_check_ring ?za_shows_shortest ?za_rings ?za_is_even ?za_even_ring ?za_odd_ring ?za_shows_even_ring ?za_shows_odd_ring ?za__law_taken ?za__law_web ?za__law_rings ?za__law_sign ?za__law_seen ?za_alike ?za_shown ?za_law ?zd0 ?zd1 ?zd2
    (case zNt => rfl)
    case zNm =>
      refine' Lk.Names.mk ?zn0 ?zn1 ?zn2 ?zn3 ?zn4 ?zn5 ?zn6 ?zn7 ?zn8 ?zn9 ?zn10 ?zn11 ?zn12 ?zn13 ?zn14 ?zn15 (Lk.num_mk ?zm0) (Lk.num_mk ?zm1) (Lk.num_mk ?zm2) (Lk.num_mk ?zm3)
      (case zn0 => k_is)
      (case zn1 => k_is)
      (case zn2 => k_is)
      (case zn3 => k_is)
      (case zn4 => k_is)
      (case zn5 => k_is)
      (case zn6 => k_is)
      (case zn7 => k_is)
      (case zn8 => k_is)
      (case zn9 => k_is)
      (case zn10 => k_is)
      (case zn11 => k_is)
      (case zn12 => k_is)
      (case zn13 => k_is)
      (case zn14 => k_is)
      (case zn15 => k_is)
      (case zm0 => k_is)
      (case zm1 => k_is)
      (case zm2 => k_is)
      (case zm3 => k_is)
    case zOA =>
      refine' Lk.OwnAt.mk ?zgC ?zex ?zkC ?zexC ?ztyC ?zisC ?zsC
      (case zgC => first | k_is | kx_is | ks_is | k_exc | rfl | decide +kernel)
      (case zex => first | k_is | kx_is | ks_is | k_exc | rfl | decide +kernel)
      (case zkC => first | k_is | kx_is | ks_is | k_exc | rfl | decide +kernel)
      (case zexC => first | k_is | kx_is | ks_is | k_exc | rfl | decide +kernel)
      (case ztyC => first | k_is | kx_is | ks_is | k_exc | rfl | decide +kernel)
      (case zisC => first | k_is | kx_is | ks_is | k_exc | rfl | decide +kernel)
      (case zsC => first | k_is | kx_is | ks_is | k_exc | rfl | decide +kernel)
    (case za_is_whole => refine' Lk.fnAt ?zn ?zl ?zc ?zk; (case zn => k_is); (case zl => k_is); (case zc => k_is); (case zk => k_is))
    (case za_are_tops => refine' Lk.fnTb ?zn ?zl ?zc ?zk ?zlc ?zl11; (case zn => k_is); (case zl => k_is); (case zc => k_is); (case zk => k_is); (case zlc => first | k_is | kx_is | ks_is | rfl | decide +kernel); (case zl11 => first | rfl | k_is | kx_is | ks_is | decide +kernel))
    (case za_is_look => refine' Lk.fnAt ?zn ?zl ?zc ?zk; (case zn => k_is); (case zl => k_is); (case zc => k_is); (case zk => k_is))
    (case za_looks_of => refine' Lk.fnAt ?zn ?zl ?zc ?zk; (case zn => k_is); (case zl => k_is); (case zc => k_is); (case zk => k_is))
    (case za_are_looks => refine' Lk.fnTb ?zn ?zl ?zc ?zk ?zlc ?zl11; (case zn => k_is); (case zl => k_is); (case zc => k_is); (case zk => k_is); (case zlc => first | k_is | kx_is | ks_is | rfl | decide +kernel); (case zl11 => first | rfl | k_is | kx_is | ks_is | decide +kernel))
    (case za_wrong_part => refine' Lk.fnAt ?zn ?zl ?zc ?zk; (case zn => k_is); (case zl => k_is); (case zc => k_is); (case zk => k_is))
    (case za_check_web => refine' Lk.fnAt ?zn ?zl ?zc ?zk; (case zn => k_is); (case zl => k_is); (case zc => k_is); (case zk => k_is))
    (case za_check_folk => refine' Lk.fnAt ?zn ?zl ?zc ?zk; (case zn => k_is); (case zl => k_is); (case zc => k_is); (case zk => k_is))
    (case za_looked_at => refine' Lk.fnAt ?zn ?zl ?zc ?zk; (case zn => k_is); (case zl => k_is); (case zc => k_is); (case zk => k_is))
    (case za_closes => refine' Lk.fnAt ?zn ?zl ?zc ?zk; (case zn => k_is); (case zl => k_is); (case zc => k_is); (case zk => k_is))
    (case za_goes_on => refine' Lk.fnAt ?zn ?zl ?zc ?zk; (case zn => k_is); (case zl => k_is); (case zc => k_is); (case zk => k_is))
    (case za_all_rings => refine' Lk.fnAt ?zn ?zl ?zc ?zk; (case zn => k_is); (case zl => k_is); (case zc => k_is); (case zk => k_is))
    (case za_has_even_spites => refine' Lk.fnAt ?zn ?zl ?zc ?zk; (case zn => k_is); (case zl => k_is); (case zc => k_is); (case zk => k_is))
    (case za_even_rings => refine' Lk.fnAt ?zn ?zl ?zc ?zk; (case zn => k_is); (case zl => k_is); (case zc => k_is); (case zk => k_is))
    (case za_odd_rings => refine' Lk.fnAt ?zn ?zl ?zc ?zk; (case zn => k_is); (case zl => k_is); (case zc => k_is); (case zk => k_is))
    (case za_is_ring => refine' Lk.fnTb ?zn ?zl ?zc ?zk ?zlc ?zl11; (case zn => k_is); (case zl => k_is); (case zc => k_is); (case zk => k_is); (case zlc => first | k_is | kx_is | ks_is | rfl | decide +kernel); (case zl11 => first | rfl | k_is | kx_is | ks_is | decide +kernel))
    (case za_check_ring => refine' Lk.fnAt ?zn ?zl ?zc ?zk; (case zn => k_is); (case zl => k_is); (case zc => k_is); (case zk => k_is))
    (case za_shows_shortest => refine' Lk.fnAt ?zn ?zl ?zc ?zk; (case zn => k_is); (case zl => k_is); (case zc => k_is); (case zk => k_is))
    (case za_rings => refine' Lk.fnAt ?zn ?zl ?zc ?zk; (case zn => k_is); (case zl => k_is); (case zc => k_is); (case zk => k_is))
    (case za_is_even => refine' Lk.fnAt ?zn ?zl ?zc ?zk; (case zn => k_is); (case zl => k_is); (case zc => k_is); (case zk => k_is))
    (case za_even_ring => refine' Lk.fnAt ?zn ?zl ?zc ?zk; (case zn => k_is); (case zl => k_is); (case zc => k_is); (case zk => k_is))
    (case za_odd_ring => refine' Lk.fnAt ?zn ?zl ?zc ?zk; (case zn => k_is); (case zl => k_is); (case zc => k_is); (case zk => k_is))
    (case za_shows_even_ring => refine' Lk.fnAt ?zn ?zl ?zc ?zk; (case zn => k_is); (case zl => k_is); (case zc => k_is); (case zk => k_is))
    (case za_shows_odd_ring => refine' Lk.fnAt ?zn ?zl ?zc ?zk; (case zn => k_is); (case zl => k_is); (case zc => k_is); (case zk => k_is))
    (case za__law_taken => refine' Lk.fnAt ?zn ?zl ?zc ?zk; (case zn => k_is); (case zl => k_is); (case zc => k_is); (case zk => k_is))
    (case za__law_web => refine' Lk.fnAt ?zn ?zl ?zc ?zk; (case zn => k_is); (case zl => k_is); (case zc => k_is); (case zk => k_is))
    (case za__law_rings => refine' Lk.fnAt ?zn ?zl ?zc ?zk; (case zn => k_is); (case zl => k_is); (case zc => k_is); (case zk => k_is))
    (case za__law_sign => refine' Lk.fnAt ?zn ?zl ?zc ?zk; (case zn => k_is); (case zl => k_is); (case zc => k_is); (case zk => k_is))
    (case za__law_seen => refine' Lk.fnAt ?zn ?zl ?zc ?zk; (case zn => k_is); (case zl => k_is); (case zc => k_is); (case zk => k_is))
    (case za_alike => refine' Lk.fnAt ?zn ?zl ?zc ?zk; (case zn => k_is); (case zl => k_is); (case zc => k_is); (case zk => k_is))
    (case za_shown => refine' Lk.fnAt ?zn ?zl ?zc ?zk; (case zn => k_is); (case zl => k_is); (case zc => k_is); (case zk => k_is))
    (case za_law => refine' Lk.fnTb ?zn ?zl ?zc ?zk ?zlc ?zl11; (case zn => k_is); (case zl => k_is); (case zc => k_is); (case zk => k_is); (case zlc => first | k_is | kx_is | ks_is | rfl | decide +kernel); (case zl11 => first | rfl | k_is | kx_is | ks_is | decide +kernel))
    (case zd0 => decide)
    (case zd1 => decide)
    (case zd2 => decide)

