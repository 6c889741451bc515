import PyProof.Rows.All
import Wide.All
import OpenK.AllK
import Wide.FinOn
import HandS.Base
import HandS.Call
import HandS.List
import HandS.Comp
import HandS.AnyAll
import HandS.GenList
import PyProof.ConsumeS
import HandS.Walk
import HandS.ForMost
import HandS.IsInst
import HandS.Flow
import HandS.Style
import HandS.Zip
import HandS.Conv
import HandS.Deep
import HandS.TupAny
import HandS.DeepEq
import HandS.Wide
import HandS.Small
import PySem.Challenge.RW_likespite_k02_whole_rules
import HandS.TupSets
import HandS.SetFor
import KE.GoesEnum
import KE.GoesNew
import KE.GoesZip
import KE.GoesMore
import HandS.WordsExc
import HandS.DictTup
import HandS.ExcField
import HandS.ForExc
import PyProof.SetRoads
import HandS.SetKeys
import KE.KSuperObj
import KE.KSuper
import KE.KExcSuper
import HandS.ExcSuper
import HandS.EndTab
import KE.RegKSuper
import KE.KExcLine
/-! ## GenAll -/
set_option Elab.async false
set_option linter.all false
set_option maxRecDepth 100000
set_option maxHeartbeats 2000000
/-! all, any of a generator expression of any form: the walked thing, the target, the tests and the element by the layer's own judgements in the generator's frame. -/
namespace Gx
open PySem PySem.Spec PyProof.Rows L2 GxR GenW

/-- the generator's context, built over the state s4 -/
abbrev Cxg (X : Cx) (A : Around) (s : Shared) (H : Hp) (cenv : Env) (fp : List Addr) : Cx :=
  { X with A := A, s_0 := s, H_0 := H, env := cenv, outer := X.stack, stack := cenv :: X.stack, ex := fp, fn := fun _ => false, pn := [], xe := fun _ _ => False }
/-- its environment -/
abbrev genE (X : Cx) (scope : Scope) (C : Addr) (code : Value) : Env := genEnv scope (cloFrom X.env.cells scope.names []) C code builtinsNs X.env
/-- where the generator's code runs -/
abbrev genA (A : Around) (ge : Expr) (it : Addr) (cenv : Env) : Around := A.in1.in1.over (.compLoop ge 0 (.ref it) .none cenv) []

section
variable {X : Cx} {pins : List (Addr × Obj)} {σ : L2.St} {H : Hp} {s : Shared}
theorem gen_start {A : Around} {scope : Scope} {own : List (Str × Nat)} {fp : List Addr} {code it : Value} {go : Obj} {h' : Heap} {gs' : Array GenState} {tk : Nat} (I : Inv X pins σ H s) (ok : BlkOk X.N X.env.scope scope own) (hcell : ∀ y ∈ scope.names, y.2 ≠ .cell)
    (hN : X.N.Nodup) (hfp : ∀ b ∈ fp, FpOk X pins H b ∧ b < s.heap.objs.size) (hA : A.frames = some (genE X scope s.heap.objs.size code :: X.stack)) (hAh : X.calm = true → A.handled = none)
    (hn : h'.Ns s.heap.objs.size (fun y => if y = ".0" then some it else none)) (hs : Heap.SameBut s.heap.objs.size (s.heap.push { cls := .type "frame", data := .dict #[] }) h') (hg : AllBare gs') (hgo : ∀ v, go.data ≠ .cell v) (hgo2 : (h'.push go).get? h'.objs.size = some go) :
    Inv (Cxg X A s H (genE X scope s.heap.objs.size code) fp) [(h'.objs.size, go)] (wipe σ (own.map (·.2))) H { s with heap := h'.push go, gens := gs', toks := tk } := by
  have hfree : ∀ y ∈ scope.names, y.2 = .free → ∃ c, X.env.cells.lookup y.1 = some c := fun y hy e => by
    rcases ok.free y hy e with k | k
    · exact I.ok.has _ (.inl k)
    · exact I.ok.has _ (.inr k)
  have kp0 : ∀ b o, s.heap.get? b = some o → h'.get? b = some o := fun b o e => hs.extBut b o (Nat.ne_of_lt (Heap.lt_size e)) (Heap.get?_push_of_some _ e)
  have kp : ∀ b o, s.heap.get? b = some o → (h'.push go).get? b = some o := fun b o e => Heap.get?_push_of_some _ (kp0 b o e)
  have hsz : h'.objs.size = s.heap.objs.size + 1 := by rw [hs.1, Heap.size_push]
  generalize hcenv : genE X scope s.heap.objs.size code = cenv at hA ⊢
  have hL : cenv.locals = s.heap.objs.size := by rw [← hcenv]; rfl
  have hF : cenv.frame = some cenv.locals := by rw [← hcenv]; rfl
  have hcl : cenv.cells = cloFrom X.env.cells scope.names [] := by rw [← hcenv]; rfl
  have hsc : cenv.scope = scope := by rw [← hcenv]; rfl
  have cm : ∀ {y c}, (y, c) ∈ cloFrom X.env.cells scope.names [] → X.env.cells.lookup y = some c ∧ c < s.heap.objs.size := fun {y c} hm => by
    rcases cloFrom_mem hm with hm | ⟨h1, rfl⟩
    · cases hm
    · obtain ⟨c, hc⟩ := hfree _ h1 rfl
      rw [hc]
      obtain ⟨w, z⟩ := I.cell _ _ hc
      exact ⟨rfl, z.lt⟩
  have mem : ∀ {y c}, cenv.cells.lookup y = some c → X.env.cells.lookup y = some c ∧ c < s.heap.objs.size := fun {y c} e => by
    rw [hcl] at e
    exact cm (PySem.mem_of_lookup e)
  have look : ∀ {y}, scope.names.lookup y = some .free → ∃ c, cenv.cells.lookup y = some c ∧ X.env.cells.lookup y = some c := fun {y} hl => by
    have hy : (y, NameKind.free) ∈ scope.names := PySem.mem_of_lookup hl
    obtain ⟨c', e'⟩ := mem_lookup (cloFrom_has (cells := X.env.cells) (acc := []) hy)
    rw [← hcl] at e'
    exact ⟨c', e', (mem e').1⟩
  have okB : (Cxg X A s H cenv fp).Ok := by
    refine ⟨I.ok.mod, by show cenv.scope.kind = _; rw [hsc]; exact ok.kind, by show cenv.globals = _; rw [← hcenv]; exact I.ok.glob, by show cenv.builtins = _; rw [← hcenv]; rfl, by show s.heap.objs.size ≤ cenv.locals; rw [hL]; exact Nat.le_refl _,
      fun y z c e1 e2 => I.ok.inj y z c (mem e1).1 (mem e2).1, fun y hy => ?_, (fun y c z e => by cases z), hAh, hA, .inr ⟨rfl, hF⟩, fun b hb => ⟨?_, fun y c e z => ?_⟩, I.bs, Nat.le_trans I.ok.bsz I.sz, fun b o e hb => ?_, fun b hb z => ?_, I.stack, I.stkFree⟩
    · show ∃ c, cenv.cells.lookup y = some c
      have key : ∀ k, cenv.kindOf y = some k → (k = .cell ∨ k = .free) → ∃ c, cenv.cells.lookup y = some c := fun k hk hk' => by
        unfold Env.kindOf at hk
        rw [hsc] at hk
        rcases hk' with rfl | rfl
        · exact absurd rfl (hcell _ (PySem.mem_of_lookup hk))
        · obtain ⟨c, h1, _⟩ := look hk
          exact ⟨c, h1⟩
      rcases hy with hy | hy
      · exact key _ hy (.inl rfl)
      · exact key _ hy (.inr rfl)
    · show b ≠ cenv.locals
      rw [hL]; exact Nat.ne_of_lt (hfp b hb).2
    · exact (hfp b hb).1.2.2.2.2.1 y c (mem e).1 z
    · rcases (hfp b hb).1.2.2.2.1 with z | z
      · exact I.ok.noex b o e z
      · exact absurd (Nat.lt_of_lt_of_le (Heap.lt_size e) (Nat.le_trans I.ok.bsz z)) (Nat.lt_irrefl _)
    · rcases List.mem_cons.mp (I.stkSub b z) with z | z
      · exact (hfp b hb).1.2.1 z
      · exact (hfp b hb).1.2.2.1 z
  refine ⟨okB, rfl, hg, Un.kept kp, ⟨_, (by show Heap.Ns _ cenv.locals _; rw [hL]; exact hn.push _), fun i y av e1 e2 e3 => ?_⟩, fun y c e => ?_, ?_, fun y c e => ?_, fun p hp => ?_, I.hok.kept kp, by rw [wipe_length]; exact I.len⟩
  · obtain ⟨e2, hne⟩ := wipe_some e2
    have hfr : scope.names.lookup y = some .free := by
      have key : ∀ k, cenv.scope.names.lookup y = some k → k = .local ∨ k = .cell ∨ k = .free → scope.names.lookup y = some .free := fun k hk hk' => by
        rw [hsc] at hk
        have no : ¬ (k = .local ∨ k = .cell) := fun hh => by
          rcases ok.own _ (PySem.mem_of_lookup hk) hh with e' | e'
          · obtain ⟨p, hp, hpy⟩ := List.mem_map.mp e'
            have e3 := ok.ix p hp
            have : p.1 = y := hpy
            rw [this] at e3
            exact hne (List.mem_map.mpr ⟨p, hp, nodup_ix hN e3 e1⟩)
          · exact e' (List.mem_of_getElem? e1)
        rcases hk' with rfl | rfl | rfl
        · exact absurd (.inl rfl) no
        · exact absurd (.inr rfl) no
        · exact hk
      have e3 : Vis cenv.scope y := e3
      rcases e3 with e3 | e3 | e3
      · exact key _ e3 (.inl rfl)
      · exact key _ e3 (.inr (.inl rfl))
      · exact key _ e3 (.inr (.inr rfl))
    obtain ⟨m, hn, hl⟩ := I.loc
    have hvis : Vis X.env.scope y := (ok.free _ (PySem.mem_of_lookup hfr) rfl).elim (fun k => .inr (.inl k)) (fun k => .inr (.inr k))
    obtain ⟨w, r, q⟩ := hl i y av e1 e2 hvis
    refine ⟨w, r, .inr ⟨.inr (by show cenv.scope.names.lookup y = _; rw [hsc]; exact hfr), ?_⟩⟩
    obtain ⟨c, h1, h2⟩ := look hfr
    rcases q with ⟨k, _⟩ | ⟨_, c', e', z⟩
    · have k : X.env.scope.names.lookup y = some .local := k
      rcases ok.free _ (PySem.mem_of_lookup hfr) rfl with k' | k' <;> rw [show X.env.scope.names.lookup y = _ from k'] at k <;> cases k
    · rw [h2] at e'; cases e'
      exact ⟨c, h1, z.keeps kp⟩
  · obtain ⟨w, z⟩ := I.cell y c (mem e).1
    exact ⟨w, z.keeps kp⟩
  · show H cenv.locals = none
    rw [hL]; exact I.hok.fresh (Nat.le_refl _)
  · exact I.freeC y c (mem e).1
  · have hp' : p = (h'.objs.size, go) := by
      rcases List.mem_append.mp (show p ∈ ([] : List (Addr × Obj)) ++ [(h'.objs.size, go)] from hp) with z | z
      · cases z
      · exact List.mem_singleton.mp z
    subst hp'
    have big : s.heap.objs.size ≤ h'.objs.size := by omega
    refine ⟨hgo2, I.hok.fresh big, ?_, fun z => ?_, hgo⟩
    · show h'.objs.size ≠ cenv.locals
      rw [hL, hsz]; exact Nat.succ_ne_self _
    · rcases List.mem_cons.mp (I.stkSub _ z) with z | z
      · exact (Nat.ne_of_gt (Nat.lt_of_lt_of_le I.lt big)) z
      · exact I.nofs big z
end

/-- while the generator sleeps -/
structure Asleep (s s' : Shared) : Prop where
  os : s'.os = s.os
  bare : AllBare s'.gens
  keep : ∀ b o, s.heap.get? b = some o → s'.heap.get? b = some o
theorem Inv.slept {X : Cx} {pins : List (Addr × Obj)} {σ : L2.St} {H : Hp} {s s' : Shared} (I : Inv X pins σ H s) (z : Asleep s s') : Inv X pins σ H s' :=
  I.call' (ch := []) z.os (Un.kept z.keep) (I.hok.kept z.keep) z.bare fun b hb => by simp at hb

/-- what a generator is: its context, its iterator, its turns -/
structure GD where
  X : Cx
  a : Addr
  g : Nat
  go : Obj
  fp : List Addr
  it : Addr
  A : Around
  σ : L2.St
  tn : Nat → Heap → Prop
  W : Nat → Nat → Hp → Prop
  Yd : Nat → Nat → V → Hp → Prop
  Qs : Hp → Prop
abbrev GD.pins (D : GD) : List (Addr × Obj) := [(D.a, D.go)]
/-- at rest ahead of turn i -/
structure GD.at (D : GD) (i : Nat) (H : Hp) (s : Shared) : Prop where
  inv : Inv D.X D.pins D.σ H s
  st : D.tn i s.heap
  fpn : ∀ b ∈ D.fp, H b = none
def GD.R (D : GD) : Nat → Shared → Shared → Prop := fun _ _ s => ∃ H, Inv D.X D.pins D.σ H s ∧ (∀ b ∈ D.fp, H b = none) ∧ D.Qs H
def GD.Y (D : GD) : Protocol := fun n _ v s kap =>
  ∃ i m y H, m ≤ n + 1 ∧ D.at (i + 1) H s ∧ RelV y v ∧ D.Yd i m y H ∧ ∀ s'', Asleep s s'' → ∀ m', m' < m → D.W (i + 1) m' H → kap (.send .none) s''
abbrev GD.end (D : GD) : GenEnd := fun n s₀ r s₁ => r = .ok .next ∧ D.R n s₀ s₁
theorem GD.at.slept {D : GD} {i : Nat} {H : Hp} {s s' : Shared} (h : D.at i H s) (hT : ∀ i h h', D.tn i h → (∀ b ∈ D.fp, ∀ o, h.get? b = some o → h'.get? b = some o) → D.tn i h') (z : Asleep s s') : D.at i H s' :=
  ⟨Inv.slept h.inv z, hT _ _ _ h.st fun b _ o e => z.keep b o e, h.fpn⟩
/-- the turns' wish -/
structure GD.Ok (D : GD) (elt tg iter : Expr) (ifs : List Expr) (scope : Scope) (gpos : Pos) (J : It) (g : TG) (tt : TT) (te : TE) (vs : List Nat) : Prop where
  over : D.A.over (.compLoop (.GeneratorExp elt [⟨tg, iter, ifs, 0⟩] scope gpos) 0 (.ref D.it) .none D.X.env) [] = D.X.A
  overS : D.A.over (.compStart (.GeneratorExp elt [⟨tg, iter, ifs, 0⟩] scope gpos) 0 (.ref D.it) .none D.X.env) [] = D.X.A
  xe : D.X.xe = fun _ _ => False
  calm : D.X.calm = true
  co : D.X.env.scope.isCoroutine = false
  ex : D.X.ex = D.fp
  pn : D.X.pn = []
  apin : ∀ b ∈ D.fp, b ≠ D.a
  turn : Turn D.X.prog D.X.w D.X.K tg J D.fp D.it D.tn
  pg : PG D.X tg g
  pt : PTs D.X ifs tt
  pe : PE D.X elt te
  wiped : wipe D.σ vs = D.σ
  step : ∀ i m H, D.W i m H → (J.stop i H ∧ D.Qs H) ∨ (J.go i H ∧ 0 < m ∧ ∃ (Ny : V → Hp → Prop) (Nn : Hp → Prop), (∀ y H', Ny y H' → D.Yd i m y H') ∧ (∀ H', Nn H' → ∃ m', m' < m ∧ D.W (i + 1) m' H') ∧ ∀ x H', J.yld i H x H' → g x D.σ H' fun σ2 H2 => wipe σ2 vs = D.σ ∧ tt σ2 H2 fun b H3 =>
    if b = true then te σ2 H3 Ny else Nn H3)
section
variable {D : GD} {elt tg iter : Expr} {ifs : List Expr} {scope : Scope} {gpos : Pos} {J : It} {g : TG} {tt : TT} {te : TE} {vs : List Nat}
theorem GD.Ok.fpok (o : D.Ok elt tg iter ifs scope gpos J g tt te vs) {σ' : L2.St} {H' : Hp} {s' : Shared} (I : Inv D.X D.pins σ' H' s') (hn : ∀ b ∈ D.fp, H' b = none) : ∀ b ∈ D.fp, FpOk D.X D.pins H' b := fun b hb =>
  ⟨hn b hb, (I.ok.exf b (by rw [o.ex]; exact hb)).1, I.ok.exfs b (by rw [o.ex]; exact hb), .inl (by rw [o.ex]; exact hb), fun x c e => (I.ok.exf b (by rw [o.ex]; exact hb)).2 x c e, fun p hp => by
    rw [o.pn] at hp
    have e : p = (D.a, D.go) := List.mem_singleton.mp hp
    rw [e]
    exact (o.apin b hb).symm⟩
theorem seg_turns (o : D.Ok elt tg iter ifs scope gpos J g tt te vs) : ∀ (m n i : Nat) (s₀ s : Shared) (H : Hp), m ≤ n → D.W i m H → D.at i H s →
    Seg (model D.X.prog D.X.w) D.A D.end D.Y n s₀ (.compLoop (.GeneratorExp elt [⟨tg, iter, ifs, 0⟩] scope gpos) 0 (.ref D.it) .none D.X.env) ((model D.X.prog D.X.w).den (.compLoop (.GeneratorExp elt [⟨tg, iter, ifs, 0⟩] scope gpos) 0 (.ref D.it) .none D.X.env)) [] s := by
  intro m
  induction m using Nat.strongRecOn with
  | ind m ih =>
    intro n i s₀ s H hmn w hat
    show Seg _ D.A _ _ _ s₀ _ ((compTurn (.GeneratorExp elt [⟨tg, iter, ifs, 0⟩] scope gpos) 0 (.ref D.it) .none D.X.env).onRaise (leaving D.X.env)) [] s
    rw [compTurn_gen, Sem.onRaise_eq_wrap]
    refine seg_bind_wrap (wpAny_standAt ?_)
    refine seg_bind_wrap ?_
    rw [o.over]
    rcases o.step i m H w with ⟨stop, qs⟩ | ⟨go, hm0, Ny, Nn, hNy, hNn, step⟩
    · refine thnF (o.turn.done D.X rfl rfl rfl o.calm i D.pins s D.σ H (fun _ _ => False) hat.inv (o.fpok hat.inv hat.fpn) hat.st stop) fun r s1 ⟨hr, I1⟩ => ?_
      subst hr
      exact seg_end (.ok .next) ⟨rfl, H, I1, hat.fpn, qs⟩
    · refine thnF (o.turn.item D.X rfl rfl rfl o.calm i D.pins s D.σ H (fun _ _ => False) hat.inv (o.fpok hat.inv hat.fpn) hat.st go) fun r s1 ⟨u, hr, h1⟩ => ?_
      subst hr
      refine seg_bind_wrap ?_
      rw [o.over]
      refine thnF h1 fun _ s2 ⟨x, H2, I2, r2, y2, st2, n2⟩ => ?_
      have I2' := I2.pinned (o.fpok I2 n2) (o.turn.obj _ _ st2)
      have noX : ∀ {α : Type} {t : Sem α} {Q : α → Shared → Prop} {s'} {E : Value → Shared → Prop}, wpAny (model D.X.prog D.X.w) D.X.A t Q D.X.xe s' → wpAny (model D.X.prog D.X.w) D.X.A t Q E s' := fun {α t Q s' E} h =>
        wpAny_mono h (fun _ _ z => z) fun _ _ z => by rw [o.xe] at z; exact z.elim
      refine seg_bind_wrap ?_
      rw [o.over]
      refine thn (noX (o.pg.run _ s2 _ H2 x u _ I2' r2 (step x H2 y2))) fun _ s3 ⟨σ3, H3, I3, hw3, q3⟩ => ?_
      refine seg_bind_wrap ?_
      rw [o.over]
      refine thn (noX (o.pt.run _ s3 σ3 H3 _ I3 q3)) fun b s4 ⟨H4, I4, q4⟩ => ?_
      have fin : ∀ {s' : Shared} {H' : Hp}, Inv D.X (D.pins ++ pinsAt D.fp s2.heap) σ3 H' s' → D.at (i + 1) H' s' := fun {s' H'} I' => by
        have pin' : ∀ b ∈ D.fp, ∀ ob, s2.heap.get? b = some ob → s'.heap.get? b = some ob ∧ H' b = none := fun b hb ob e =>
          let z := I'.pin (b, ob) (List.mem_append_right _ (List.mem_append_right _ (mem_pinsAt hb e)))
          ⟨z.1, z.2.1⟩
        have hl : D.σ.length = σ3.length := by rw [← hw3, wipe_length]
        refine ⟨(I'.unpinned (pins := D.pins)).weak hl (fun j v e => ?_), o.turn.keep _ _ _ st2 fun b hb ob e => (pin' b hb ob e).1, fun b hb => ?_⟩
        · rw [← hw3] at e
          exact (wipe_some e).1
        · obtain ⟨ob, e, _⟩ := o.turn.obj _ _ st2 b hb
          exact (pin' b hb ob e).2
      cases b with
      | false =>
        simp only [Bool.false_eq_true, if_false] at q4 ⊢
        obtain ⟨m', hm, w'⟩ := hNn _ q4
        have hz := ih m' hm n (i + 1) s₀ s4 H4 (by omega) w' (fin I4)
        exact seg_again rfl hz
      | true =>
        simp only [if_true] at q4 ⊢
        have hy : ∀ v, yieldOut D.X.env v = yieldValue v := fun v => by simp only [yieldOut, o.co, Bool.false_eq_true, if_false]
        simp only [hy]
        rw [Sem.bind_eq_wrap', Sem.bind_eq_wrap', Sem.wrap_wrap, Sem.wrap_wrap]
        refine seg_wrap ?_
        rw [o.over]
        refine thn (noX (o.pe.run _ s4 σ3 H4 _ I4 q4)) fun v s5 ⟨yv, H5, I5, r5, yd⟩ => ?_
        obtain ⟨n, rfl⟩ : ∃ k, n = k + 1 := ⟨n - 1, by omega⟩
        have hfin := fin I5
        refine seg_at (seg_yield rfl rfl rfl ⟨i, m, yv, H5, hmn, hfin, r5, hNy _ _ yd, fun s'' hal m' hm' w' => ?_⟩)
        have hz := ih m' hm' n (i + 1) s'' s'' H5 (by omega) w' (hfin.slept o.turn.keep hal)
        exact seg_again rfl hz
theorem seg_first (o : D.Ok elt tg iter ifs scope gpos J g tt te vs) {m n i : Nat} {s₀ s : Shared} {H : Hp} (hmn : m ≤ n) (w : D.W i m H) (hat : D.at i H s) :
    Seg (model D.X.prog D.X.w) D.A D.end D.Y n s₀ (.compStart (.GeneratorExp elt [⟨tg, iter, ifs, 0⟩] scope gpos) 0 (.ref D.it) .none D.X.env) ((model D.X.prog D.X.w).den (.compStart (.GeneratorExp elt [⟨tg, iter, ifs, 0⟩] scope gpos) 0 (.ref D.it) .none D.X.env)) [] s := by
  have loop := seg_turns o m n i s₀ s H hmn w hat
  show Seg _ D.A _ _ _ s₀ _ ((compStart (.GeneratorExp elt [⟨tg, iter, ifs, 0⟩] scope gpos) 0 (.ref D.it) .none D.X.env).onRaise (leaving D.X.env)) [] s
  have hov := o.overS
  unfold compStart
  rw [Sem.onRaise_eq_wrap]
  show Seg _ D.A _ _ _ s₀ _ ((ask >>= _).wrap _ _ _ _) [] s
  refine seg_bind_wrap (wpAny_askSetting ?_)
  have self : ∀ {Q : Value → Shared → Prop} {E : Value → Shared → Prop}, Q (.ref D.it) s → wpAny (model D.X.prog D.X.w) D.X.A (pyIter (.ref D.it)) Q E s := fun hq => o.turn.self D.X.A i s _ _ hat.st hq
  split
  · exact seg_again rfl loop
  · first
      | exact seg_bind_wrap (wpAny_rule (seg_bind_wrap (wpAny_standAt (seg_bind_wrap (by rw [hov]; exact self (seg_again rfl loop))))))
      | (refine seg_bind_wrap (wpAny_rule ?_); show Seg _ D.A _ _ _ s₀ _ ((standAt iter.pos >>= _).wrap _ _ _ _) [] s; exact seg_bind_wrap (wpAny_standAt (seg_bind_wrap (by rw [hov]; exact self (seg_again rfl loop)))))
/-- ready for a next: at most n items more -/
structure GD.Ready (D : GD) (n i m : Nat) (H : Hp) (s : Shared) : Prop where
  at_ : D.at i H s
  le : m ≤ n
  gs : ∃ gs, s.gens[D.g]? = some gs ∧ ∀ s'', Asleep s s'' → gs.Goes (model D.X.prog D.X.w) D.A D.end D.Y n (.send .none) s''
theorem gen_ready (o : D.Ok elt tg iter ifs scope gpos J g tt te vs) {m n i : Nat} {s : Shared} {H : Hp} (hmn : m ≤ n) (w : D.W i m H) (hat : D.at i H s) (hgs : s.gens[D.g]? = some (.fresh (.compStart (.GeneratorExp elt [⟨tg, iter, ifs, 0⟩] scope gpos) 0 (.ref D.it) .none D.X.env))) : D.Ready n i m H s :=
  ⟨hat, hmn, _, hgs, fun s'' z => ⟨rfl, seg_first o hmn w (hat.slept o.turn.keep z)⟩⟩
theorem allBare_set {s : Shared} {g : Nat} {x : GenState} (h : AllBare s.gens) (hx : x.bare = true) : AllBare (s.setGen g x).gens := allBare_setGen h hx
theorem gen_next (o : D.Ok elt tg iter ifs scope gpos J g tt te vs) {A : Around} (hA : A.in1 = D.A) {n i m : Nat} {s : Shared} {H : Hp} {Q : Option Value → Shared → Prop} {E : Value → Shared → Prop} (hd : A.depth < recursionLimit) (hh : A.handled = none)
    (hgen : ∀ h : Heap, h.get? D.a = some D.go → h.IsGen D.a D.g) (r : D.Ready n i m H s)
    (hS : ∀ s' H', Inv D.X D.pins D.σ H' s' → (∀ b ∈ D.fp, H' b = none) → D.Qs H' → Q none s')
    (hI : ∀ v y i' m' H' s', RelV y v → D.at (i' + 1) H' s' → D.Yd i' m' y H' → (∀ m'', m'' < m' → D.W (i' + 1) m'' H' → 0 < n ∧ D.Ready (n - 1) (i' + 1) m'' H' s') → Q (some v) s') :
    wpAny (model D.X.prog D.X.w) A (pyNext (.ref D.a)) Q E s := by
  obtain ⟨hat, hmn, gs, hgs, hgo⟩ := r
  have hgl : D.g < s.gens.size := (Array.getElem?_eq_some_iff.mp hgs).1
  have pinG : ∀ {σ' H' s'}, Inv D.X D.pins σ' H' s' → s'.heap.get? D.a = some D.go := fun {σ' H' s'} I => (I.pin (D.a, D.go) (List.mem_append_right _ (List.mem_singleton.mpr rfl))).1
  refine wpAny_gsz (n := D.g + 1) hgl (wpAny_pyNext_genexpQ (P := D.R) hh hat.inv.nolimit hd (hgen _ (pinG hat.inv)) hgs (by rw [hA]; exact hgo _ ⟨rfl, allBare_set hat.inv.bare rfl, fun _ _ e => e⟩) (fun v s₁ gs' hb hv => ?_) (fun s₁ hp h' hk => ?_))
  · intro hsz
    obtain ⟨i', m', y, H', hm', hat', ry, yd, kap⟩ := hv
    have hsz1 : D.g < s₁.gens.size := by
      have q : (s₁.setGen D.g gs').gens.size = s₁.gens.size := setGen_size _ _ _
      have hsz' : D.g + 1 ≤ (s₁.setGen D.g gs').gens.size := hsz
      omega
    have z1 : Asleep s₁ (s₁.setGen D.g gs') := ⟨rfl, allBare_set hat'.inv.bare hb, fun _ _ e => e⟩
    refine hI v y i' m' H' _ ry (hat'.slept o.turn.keep z1) yd fun m'' hm'' w'' => ?_
    cases n with
    | zero => exact (kap _ z1 m'' hm'' w'').elim
    | succ n =>
      refine ⟨Nat.succ_pos _, hat'.slept o.turn.keep z1, by simp only [Nat.add_sub_cancel] at hm' ⊢; omega, gs', setGen_at hsz1, fun s'' z => ?_⟩
      have z2 : Asleep s₁ s'' := ⟨z.os, z.bare, fun b ob e => z.keep b ob e⟩
      have := kap s'' z2 m'' hm'' w''
      rw [hA] at this
      exact this
  · intro _
    obtain ⟨H', I', fn', q'⟩ := hp
    exact hS _ H' (Inv.slept I' ⟨rfl, allBare_set (s := s₁) I'.bare rfl, hk⟩) fn' q'
end
end Gx

/-! ## GenAll2 -/
set_option Elab.async false
set_option linter.all false
set_option maxRecDepth 100000
set_option maxHeartbeats 2000000
namespace Gx
open PySem PySem.Spec PyProof.Rows L2 GxR GenW

theorem wipe_in {σ : L2.St} {i : Nat} : ∀ {vs : List Nat}, i ∈ vs → (wipe σ vs)[i]? = if i < σ.length then some none else none
  | v :: vs, h => by
    unfold wipe
    by_cases hv : v = i
    · subst hv
      by_cases hl : v < σ.length
      · rw [List.getElem?_set_self (by rw [wipe_length]; exact hl), if_pos hl]
      · rw [List.getElem?_eq_none (by rw [List.length_set, wipe_length]; omega), if_neg hl]
    · rw [List.getElem?_set_ne hv]
      exact wipe_in ((List.mem_cons.mp h).resolve_left fun e => hv e.symm)
theorem wipe_wipe (σ : L2.St) (vs : List Nat) : wipe (wipe σ vs) vs = wipe σ vs := by
  apply List.ext_getElem?
  intro i
  by_cases h : i ∈ vs
  · rw [wipe_in h, wipe_in h, wipe_length]
  · rw [wipe_out h, wipe_out h]
/-- what all and any wish of an item: want is the truth that ends the walk -/
def YdB (W : Nat → Nat → Hp → Prop) (want : Bool) (Qf : Hp → Prop) : Nat → Nat → V → Hp → Prop := fun i m y H => ∃ c, y = .bl c ∧ if c = want then Qf H else ∃ m', m' < m ∧ W (i + 1) m' H
section
variable {D : GD} {elt tg iter : Expr} {ifs : List Expr} {scope : Scope} {gpos : Pos} {J : It} {g : TG} {tt : TT} {te : TE} {vs : List Nat}
theorem all_loop (o : D.Ok elt tg iter ifs scope gpos J g tt te vs) {A : Around} (hA : A.in1.in1 = D.A) (hd : A.depth < recursionLimit) (hh : A.handled = none) (hgen : ∀ h : Heap, h.get? D.a = some D.go → h.IsGen D.a D.g)
    {Qf : Hp → Prop} (hY : D.Yd = YdB D.W false Qf) {R : Result → Shared → Prop} (hT : ∀ s' H', Inv D.X D.pins D.σ H' s' → (∀ b ∈ D.fp, H' b = none) → D.Qs H' → R (.ok (.ret (.bool true))) s') (hF : ∀ s' H', Inv D.X D.pins D.σ H' s' → (∀ b ∈ D.fp, H' b = none) → Qf H' → R (.ok (.ret (.bool false))) s') :
    ∀ (n i m : Nat) (s : Shared) (H : Hp), D.Ready n i m H s → codeAny (model D.X.prog D.X.w) A (.builtin "all.loop" ⟨[.ref D.a], []⟩) R s := by
  intro n
  induction n with
  | zero =>
    intro i m s H r
    refine codeAny_builtin F.entry_all_loop ?_
    rw [Around.under_plainId F.plain_all_loop _]
    show wpAny _ A.in1 (pyNext (.ref D.a) >>= _) _ _ s
    refine wpAny_bind (gen_next o (A := A.in1) hA hd hh hgen r (fun s' H' I' f' q' => ?_) (fun v y i' m' H' s' ry hat yd rd => ?_))
    · exact wpAny_bind (wpAny_rule (wpAny_pure (hT s' H' I' f' q')))
    · rw [hY] at yd
      obtain ⟨c, rfl, q⟩ := yd
      obtain rfl : v = Value.bool c := ry
      refine wpAny_bind (wpAny_holding (wpAny_truthy_bool ?_))
      refine wpAny_bind (wpAny_letGo ?_)
      cases c with
      | true =>
        rw [if_neg (by decide)] at q
        obtain ⟨m'', hm, w⟩ := q
        exact absurd (rd m'' hm w).1 (Nat.lt_irrefl _)
      | false =>
        simp only [Bool.false_eq_true, if_false]
        exact wpAny_bind (wpAny_rule (wpAny_pure (hF s' H' hat.inv hat.fpn (by simpa using q))))
  | succ n ih =>
    intro i m s H r
    refine codeAny_builtin F.entry_all_loop ?_
    rw [Around.under_plainId F.plain_all_loop _]
    show wpAny _ A.in1 (pyNext (.ref D.a) >>= _) _ _ s
    refine wpAny_bind (gen_next o (A := A.in1) hA hd hh hgen r (fun s' H' I' f' q' => ?_) (fun v y i' m' H' s' ry hat yd rd => ?_))
    · exact wpAny_bind (wpAny_rule (wpAny_pure (hT s' H' I' f' q')))
    · rw [hY] at yd
      obtain ⟨c, rfl, q⟩ := yd
      obtain rfl : v = Value.bool c := ry
      refine wpAny_bind (wpAny_holding (wpAny_truthy_bool ?_))
      refine wpAny_bind (wpAny_letGo ?_)
      cases c with
      | true =>
        rw [if_neg (by decide)] at q
        obtain ⟨m'', hm, w⟩ := q
        simp only [if_true]
        exact wpAny_pure ⟨plainId_quiet F.plain_all_loop _, ih _ _ _ _ (rd m'' hm w).2⟩
      | false =>
        simp only [Bool.false_eq_true, if_false]
        exact wpAny_bind (wpAny_rule (wpAny_pure (hF s' H' hat.inv hat.fpn (by simpa using q))))
theorem any_loop (o : D.Ok elt tg iter ifs scope gpos J g tt te vs) {A : Around} (hA : A.in1.in1 = D.A) (hd : A.depth < recursionLimit) (hh : A.handled = none) (hgen : ∀ h : Heap, h.get? D.a = some D.go → h.IsGen D.a D.g)
    {Qf : Hp → Prop} (hY : D.Yd = YdB D.W true Qf) {R : Result → Shared → Prop} (hT : ∀ s' H', Inv D.X D.pins D.σ H' s' → (∀ b ∈ D.fp, H' b = none) → D.Qs H' → R (.ok (.ret (.bool false))) s') (hF : ∀ s' H', Inv D.X D.pins D.σ H' s' → (∀ b ∈ D.fp, H' b = none) → Qf H' → R (.ok (.ret (.bool true))) s') :
    ∀ (n i m : Nat) (s : Shared) (H : Hp), D.Ready n i m H s → codeAny (model D.X.prog D.X.w) A (.builtin "any.loop" ⟨[.ref D.a], []⟩) R s := by
  intro n
  induction n with
  | zero =>
    intro i m s H r
    refine codeAny_builtin F.entry_any_loop ?_
    rw [Around.under_plainId F.plain_any_loop _]
    show wpAny _ A.in1 (pyNext (.ref D.a) >>= _) _ _ s
    refine wpAny_bind (gen_next o (A := A.in1) hA hd hh hgen r (fun s' H' I' f' q' => ?_) (fun v y i' m' H' s' ry hat yd rd => ?_))
    · exact wpAny_bind (wpAny_rule (wpAny_pure (hT s' H' I' f' q')))
    · rw [hY] at yd
      obtain ⟨c, rfl, q⟩ := yd
      obtain rfl : v = Value.bool c := ry
      refine wpAny_bind (wpAny_holding (wpAny_truthy_bool ?_))
      refine wpAny_bind (wpAny_letGo ?_)
      cases c with
      | false =>
        rw [if_neg (by decide)] at q
        obtain ⟨m'', hm, w⟩ := q
        exact absurd (rd m'' hm w).1 (Nat.lt_irrefl _)
      | true =>
        simp only [if_true]
        exact wpAny_bind (wpAny_rule (wpAny_pure (hF s' H' hat.inv hat.fpn (by simpa using q))))
  | succ n ih =>
    intro i m s H r
    refine codeAny_builtin F.entry_any_loop ?_
    rw [Around.under_plainId F.plain_any_loop _]
    show wpAny _ A.in1 (pyNext (.ref D.a) >>= _) _ _ s
    refine wpAny_bind (gen_next o (A := A.in1) hA hd hh hgen r (fun s' H' I' f' q' => ?_) (fun v y i' m' H' s' ry hat yd rd => ?_))
    · exact wpAny_bind (wpAny_rule (wpAny_pure (hT s' H' I' f' q')))
    · rw [hY] at yd
      obtain ⟨c, rfl, q⟩ := yd
      obtain rfl : v = Value.bool c := ry
      refine wpAny_bind (wpAny_holding (wpAny_truthy_bool ?_))
      refine wpAny_bind (wpAny_letGo ?_)
      cases c with
      | false =>
        rw [if_neg (by decide)] at q
        obtain ⟨m'', hm, w⟩ := q
        simp only [Bool.false_eq_true, if_false]
        exact wpAny_pure ⟨plainId_quiet F.plain_any_loop _, ih _ _ _ _ (rd m'' hm w).2⟩
      | true =>
        simp only [if_true]
        exact wpAny_bind (wpAny_rule (wpAny_pure (hF s' H' hat.inv hat.fpn (by simpa using q))))
end

section
variable {X : Cx} {pins : List (Addr × Obj)} {σ : L2.St} {H : Hp} {s : Shared}
/-- the generator's names, its scope -/
structure GScp (X : Cx) (scope : Scope) (own : List (Str × Nat)) : Prop where
  blk : BlkOk X.N X.env.scope scope own
  cell : ∀ y ∈ scope.names, y.2 ≠ .cell
  dot : scope.names.lookup (".0" : Str) = some NameKind.local
  co : scope.isCoroutine = false
def noCells (sc : Scope) : Bool := sc.names.all fun y => match y.2 with | .cell => false | _ => true
theorem noCells_ok {sc : Scope} (h : noCells sc = true) : ∀ y ∈ sc.names, y.2 ≠ .cell := by
  intro y hy e
  have := List.all_eq_true.mp h y hy
  rw [e] at this
  cases this
/-- a generator expression made: D, its description; what stands behind it -/
theorem gen_made {c P : Addr} {elt tg iter : Expr} {ifs : List Expr} {scope : Scope} {own : List (Str × Nat)} {gpos : Pos} {wi : TI} {g : TG} {tt : TT} {te : TE} {k : Nat} {Q' : Value → Shared → Prop}
    (hr : Room (k + 1) X.A) (hc : X.calm = true) (hN : X.N.Nodup) (TB : TabB X.base X.mg c P) (hcode : X.env.code = .ref c) (hi : PI X tg iter wi) (S : GScp X scope own)
    (hg : ∀ (A : Around) (s : Shared) (H : Hp) (C : Addr) (code : Value) (fp : List Addr), PG (Cxg X A s H (genE X scope C code) fp) tg g) (ht : ∀ (A : Around) (s : Shared) (H : Hp) (C : Addr) (code : Value) (fp : List Addr), Room k A → PTs (Cxg X A s H (genE X scope C code) fp) ifs tt)
    (he : ∀ (A : Around) (s : Shared) (H : Hp) (C : Addr) (code : Value) (fp : List Addr), Room k A → PE (Cxg X A s H (genE X scope C code) fp) elt te) (hs : ∀ v, genFold iter X.env v = pure v) (I : Inv X pins σ H s)
    {Wm : It → Hp → Prop} (h : wi σ H fun J H1 => TabG H1 P ∧ ∀ H2, Tabbed P H1 H2 → Wm J H2)
    (hQ : ∀ (J : It) (H2 : Hp), Wm J H2 → ∃ (W : Nat → Nat → Hp → Prop) (Yd : Nat → Nat → V → Hp → Prop) (Qs : Hp → Prop), (∃ m, W 0 m H2) ∧
      (∀ i m H, W i m H → (J.stop i H ∧ Qs H) ∨ (J.go i H ∧ 0 < m ∧ ∃ (Ny : V → Hp → Prop) (Nn : Hp → Prop), (∀ y H', Ny y H' → Yd i m y H') ∧ (∀ H', Nn H' → ∃ m', m' < m ∧ W (i + 1) m' H') ∧ ∀ x H', J.yld i H x H' → g x (wipe σ (own.map (·.2))) H' fun σ2 H2 => wipe σ2 (own.map (·.2)) = wipe σ (own.map (·.2)) ∧ tt σ2 H2 fun b H3 =>
        if b = true then te σ2 H3 Ny else Nn H3)) ∧
      ∀ (D : GD) (s5 : Shared) (m : Nat), D.Ok elt tg iter ifs scope gpos J g tt te (own.map (·.2)) → D.X.prog = X.prog → D.X.w = X.w → D.A = X.A.in1.in1 → D.W = W → D.Yd = Yd → D.Qs = Qs → (∀ h : Heap, h.get? D.a = some D.go → h.IsGen D.a D.g) → D.Ready m 0 m H2 s5 →
        (∀ s' H', Inv D.X D.pins D.σ H' s' → (∀ b ∈ D.fp, H' b = none) → Inv X pins σ H' s') → Q' (.ref D.a) s5) :
    wpAny (model X.prog X.w) X.A (eval (.GeneratorExp elt [⟨tg, iter, ifs, 0⟩] scope gpos) X.env) Q' X.xe s := by
  have hfree : ∀ y ∈ scope.names, y.2 = .free → ∃ c, X.env.cells.lookup y.1 = some c := fun y hy e => by
    rcases S.blk.free y hy e with k | k
    · exact I.ok.has _ (.inl k)
    · exact I.ok.has _ (.inr k)
  refine wpAny_GeneratorExp_make S.co (closure_ok hfree) S.cell S.dot S.blk.kind hr.depth ?_ hs
  refine thn (hi.run pins s σ H _ I h) fun xv s1 hx => thn hx fun itv s2 h2 => ?_
  obtain ⟨it, fp, tn, J, H2, e, I2, T, st2, f2, ⟨ps, hP, htr⟩, q⟩ := h2
  subst e
  refine ⟨I2.nolimit, ?_⟩
  have hPs : s2.heap.get? P = some { cls := .none, data := .fields ps } := I2.hok P _ hP
  have cd : PySem.W.CodeHd s2.heap c P := TB.code.keeps fun b u e => I2.bk b u e
  have cont : ∀ (code : Value) (h3 : Heap) (tk : Nat) (ps' : Array Value), Heap.ExtBut P s2.heap h3 → h3.get? P = some { cls := .none, data := .fields ps' } → (∃ more, ps' = ps ++ more) → TriplesOk ps'.toList →
      wpAny (model X.prog X.w) X.A (builtinsFor X.env.globals X.env.builtins) (fun bi s₄ => ∀ h', h'.Ns s₄.heap.objs.size (fun y => if y = ".0" then some (.ref it) else none) → Heap.SameBut s₄.heap.objs.size (s₄.heap.push { cls := .type "frame", data := .dict #[] }) h' →
          Q' (.ref h'.objs.size) { s₄ with
            gens := s₄.gens.push (.fresh (.compStart (.GeneratorExp elt [⟨tg, iter, ifs, 0⟩] scope gpos) 0 (.ref it) .none (genEnv scope (cloFrom X.env.cells scope.names []) s₄.heap.objs.size code bi X.env))),
            toks := s₄.toks + 1 + 1 + 1,
            heap := h'.push { cls := .type "generator", data := .fields #[.int s₄.gens.size 0, .str "<genexpr>" (s₄.toks + 1), .str (X.env.qual ++ "<genexpr>") (s₄.toks + 1 + 1)] } }) X.xe { s2 with heap := h3, toks := tk } := by
    intro code h3 tk ps' hx hP3 hmore ht3
    obtain ⟨more, em⟩ := hmore
    obtain ⟨bm, ob, e1, e2, e3, e4, e5, e6, e7, e8⟩ := TB.bm
    refine wpAny_builtinsFor (m := X.mg) (by rw [I2.ok.glob]; exact (I2.mod.glob.keeps I2.bk).extBut hx TB.gP) e1 e2 (hx _ _ e4 (I2.bk _ _ e5)) e6 e7 e8 ?_
    have I4 := inv_tab (more := more) (h' := h3) (g' := s2.gens) (d' := s2.drawn) (t' := tk) I2 hP (fun b u hb e => hx b u hb e) (by rw [← em]; exact hP3) I2.bare
    have TG4 : Tabbed P H2 (upd H2 P (.tbl (ps ++ more))) := ⟨⟨ps ++ more, upd_same, by rw [← em]; exact ht3⟩, fun b hb => upd_ne hb⟩
    have wm := q _ TG4
    generalize hH4 : upd H2 P (.tbl (ps ++ more)) = H4 at I4 TG4 wm
    have fpP : ∀ b ∈ fp, b ≠ P := fun b hb z => by
      have := (f2 b hb).1
      rw [z, hP] at this
      cases this
    have sz : ∀ b ∈ fp, b < h3.objs.size := fun b hb => by
      obtain ⟨o, e, _⟩ := T.obj _ _ st2 b hb
      exact Heap.lt_size (hx b o (fpP b hb) e)
    have f4 : ∀ b ∈ fp, FpOk X pins H4 b ∧ b < h3.objs.size := fun b hb => ⟨⟨by rw [TG4.2 b (fpP b hb)]; exact (f2 b hb).1, (f2 b hb).2⟩, sz b hb⟩
    intro h' hn' hs'
    generalize hs4 : ({ s2 with heap := h3, toks := tk } : Shared) = s4 at I4 hn' hs' ⊢
    have hh3 : s4.heap = h3 := by rw [← hs4]
    have f4' : ∀ b ∈ fp, FpOk X pins H4 b ∧ b < s4.heap.objs.size := by rw [hh3]; exact f4
    generalize hgo : ({ cls := .type "generator", data := .fields #[.int s4.gens.size 0, .str "<genexpr>" (s4.toks + 1), .str (X.env.qual ++ "<genexpr>") (s4.toks + 1 + 1)] } : Obj) = go
    have hgoP : (h'.push go).get? h'.objs.size = some go := by rw [← hgo]; exact Heap.get?_push_size _ rfl
    have hsz : h'.objs.size = s4.heap.objs.size + 1 := by rw [hs'.1, Heap.size_push]
    have hAf : (genA X.A (.GeneratorExp elt [⟨tg, iter, ifs, 0⟩] scope gpos) it (genE X scope s4.heap.objs.size code)).frames = some (genE X scope s4.heap.objs.size code :: X.stack) := by
      show pushEnvs [genE X scope s4.heap.objs.size code] X.A.frames = _
      rw [I4.ok.frames]
      rfl
    have hAr : Room k (genA X.A (.GeneratorExp elt [⟨tg, iter, ifs, 0⟩] scope gpos) it (genE X scope s4.heap.objs.size code)) := by
      refine ⟨hr.hd, ?_, ?_⟩
      · have := hr.dp
        show X.A.depth + 1 + 3 * k + 5 < _
        omega
      · have := hr.un
        show X.A.units + 1 + 1 + 3 + 16 * k + 200 < _
        omega
    have bare5 : AllBare (s4.gens.push (.fresh (.compStart (.GeneratorExp elt [⟨tg, iter, ifs, 0⟩] scope gpos) 0 (.ref it) .none (genE X scope s4.heap.objs.size code)))) := AllBare.push I4.bare rfl
    have I5 := gen_start (A := genA X.A (.GeneratorExp elt [⟨tg, iter, ifs, 0⟩] scope gpos) it (genE X scope s4.heap.objs.size code)) (tk := s4.toks + 1 + 1 + 1) (go := go) I4 S.blk S.cell hN f4' hAf (fun _ => hAr.hd) hn' hs' bare5 (fun v z => by rw [← hgo] at z; cases z) hgoP
    have st5 : tn 0 (h'.push go) := T.keep _ _ _ st2 fun b hb o e => Heap.get?_push_of_some _ (hs'.extBut b o (Nat.ne_of_lt (f4' b hb).2) (Heap.get?_push_of_some _ (by rw [hh3]; exact hx b o (fpP b hb) e)))
    obtain ⟨W, Yd, Qs, ⟨m, w0⟩, step, fin⟩ := hQ J H4 wm
    have o : (GD.mk (Cxg X (genA X.A (.GeneratorExp elt [⟨tg, iter, ifs, 0⟩] scope gpos) it (genE X scope s4.heap.objs.size code)) s4 H4 (genE X scope s4.heap.objs.size code) fp) h'.objs.size s4.gens.size go fp it X.A.in1.in1 (wipe σ (own.map (·.2))) tn W Yd Qs).Ok elt tg iter ifs scope gpos J g tt te (own.map (·.2)) := by
      refine ⟨rfl, rfl, rfl, hc, S.co, rfl, rfl, fun b hb => ?_, T, hg _ _ _ _ _ _, ht _ _ _ _ _ _ hAr, he _ _ _ _ _ _ hAr, ?_, step⟩
      · have := (f4' b hb).2
        show b ≠ h'.objs.size
        rw [hsz]
        exact Nat.ne_of_lt (Nat.lt_succ_of_lt this)
      · exact wipe_wipe σ _
    refine fin _ _ m o rfl rfl rfl rfl rfl rfl (fun h e => ?_) (gen_ready o (Nat.le_refl _) w0 ⟨I5, st5, fun b hb => (f4' b hb).1.1⟩ (Array.getElem?_push_size ..)) fun s' H' I' fn' => ?_
    · rw [← hgo] at e
      exact ⟨_, _, _, e, rfl, rfl, rfl⟩
    · exact I4.call' (ch := fp) I'.os I'.base I'.hok I'.bare fun b hb => ⟨(f4' b hb).1.2.2.2.1, (f4' b hb).1.2.1, (f4' b hb).1.2.2.2.2.1, (f4' b hb).1.2.2.2.2.2⟩
  cases hf : codeAmong gpos ps.toList with
  | none =>
    refine wpAny_genexprCodeX hcode (cd.code hPs htr) (cd.tab hPs) hf fun c' h' tk hx hge hlt hco' _ htab' _ => ?_
    obtain ⟨o1, vs, f1, tf, fl, tg, inF, tx, tt, op, _, _, _, _, _, _, _, _, _, htr', _⟩ := hco'
    exact cont _ h' tk _ hx htab'.2 ⟨_, rfl⟩ htr'
  | some cv =>
    refine wpAny_genexprCode_hit hcode (cd.code hPs htr) hf ?_
    exact cont cv s2.heap s2.toks ps (Heap.ExtBut.refl _ _) hPs ⟨#[], by simp⟩ htr
end
end Gx

/-! ## GenAll3 -/
set_option Elab.async false
set_option linter.all false
set_option maxRecDepth 100000
set_option maxHeartbeats 2000000
namespace Gx
open PySem PySem.Spec PyProof.Rows L2 GxR GenW

/-- all(..) | any(..) of a generator expression: P the def's table of code objects; want: the truth that ends the walk -/
def tQuant (want : Bool) (P : Addr) (wi : TI) (g : TG) (tt : TT) (te : TE) (vs : List Nat) : TE := fun σ H Q => wi σ H fun J H1 => TabG H1 P ∧ ∀ H2, Tabbed P H1 H2 → ∃ W : Nat → Nat → Hp → Prop, (∃ m, W 0 m H2) ∧ ∀ i m H, W i m H →
  (J.stop i H ∧ Q (.bl (!want)) H) ∨ (J.go i H ∧ 0 < m ∧ ∃ Nx : Hp → Prop, (∀ H', Nx H' → ∃ m', m' < m ∧ W (i + 1) m' H') ∧ ∀ x H', J.yld i H x H' → g x (wipe σ vs) H' fun σ2 H3 => wipe σ2 vs = wipe σ vs ∧ tt σ2 H3 fun b H4 =>
    if b = true then te σ2 H4 fun y H5 => ∃ c, y = .bl c ∧ if c = want then Q (.bl want) H5 else Nx H5 else Nx H4)
theorem quant_step {want : Bool} {Q : VK} {J : It} {g : TG} {tt : TT} {te : TE} {vs : List Nat} {σ : L2.St} {W : Nat → Nat → Hp → Prop} (step : ∀ i m H, W i m H →
  (J.stop i H ∧ Q (.bl (!want)) H) ∨ (J.go i H ∧ 0 < m ∧ ∃ Nx : Hp → Prop, (∀ H', Nx H' → ∃ m', m' < m ∧ W (i + 1) m' H') ∧ ∀ x H', J.yld i H x H' → g x (wipe σ vs) H' fun σ2 H3 => wipe σ2 vs = wipe σ vs ∧ tt σ2 H3 fun b H4 =>
    if b = true then te σ2 H4 fun y H5 => ∃ c, y = .bl c ∧ if c = want then Q (.bl want) H5 else Nx H5 else Nx H4)) :
    ∀ i m H, W i m H → (J.stop i H ∧ Q (.bl (!want)) H) ∨ (J.go i H ∧ 0 < m ∧ ∃ (Ny : V → Hp → Prop) (Nn : Hp → Prop), (∀ y H', Ny y H' → YdB W want (Q (.bl want)) i m y H') ∧ (∀ H', Nn H' → ∃ m', m' < m ∧ W (i + 1) m' H') ∧ ∀ x H', J.yld i H x H' → g x (wipe σ vs) H' fun σ2 H2 => wipe σ2 vs = wipe σ vs ∧ tt σ2 H2 fun b H3 =>
        if b = true then te σ2 H3 Ny else Nn H3) := by
  intro i m H w
  rcases step i m H w with h | ⟨h1, h2, Nx, hNx, h3⟩
  · exact .inl h
  · refine .inr ⟨h1, h2, _, Nx, fun y H' hy => ?_, hNx, h3⟩
    obtain ⟨c, rfl, q⟩ := hy
    refine ⟨c, rfl, ?_⟩
    by_cases hc : c = want
    · rw [if_pos hc] at q ⊢; exact q
    · rw [if_neg hc] at q ⊢; exact hNx _ q
theorem boot_all : bootBuiltins "all" = some (.builtin "all") := by decide +kernel
section
variable {X : Cx}
theorem pe_allG {c P : Addr} {elt tg iter : Expr} {ifs : List Expr} {scope : Scope} {own : List (Str × Nat)} {p pos gpos : Pos} {wi : TI} {g : TG} {tt : TT} {te : TE} {k : Nat}
    (hr : Room (k + 1) X.A) (hc : X.calm = true) (hN : X.N.Nodup) (hgl : Gl X "all") (hm : X.mg "all" = none) (TB : TabB X.base X.mg c P) (hcode : X.env.code = .ref c) (hi : PI X tg iter wi) (S : GScp X scope own)
    (hg : ∀ (A : Around) (s : Shared) (H : Hp) (C : Addr) (code : Value) (fp : List Addr), PG (Cxg X A s H (genE X scope C code) fp) tg g) (ht : ∀ (A : Around) (s : Shared) (H : Hp) (C : Addr) (code : Value) (fp : List Addr), Room k A → PTs (Cxg X A s H (genE X scope C code) fp) ifs tt)
    (he : ∀ (A : Around) (s : Shared) (H : Hp) (C : Addr) (code : Value) (fp : List Addr), Room k A → PE (Cxg X A s H (genE X scope C code) fp) elt te) (hs : ∀ v, genFold iter X.env v = pure v := by intro _; rfl)
    (hst : starEach [.GeneratorExp elt [⟨tg, iter, ifs, 0⟩] scope gpos] X.env = (false, eval (.GeneratorExp elt [⟨tg, iter, ifs, 0⟩] scope gpos) X.env) :: starEach [] X.env := by rfl) :
    PE X (.Call (.Name "all" p) [.GeneratorExp elt [⟨tg, iter, ifs, 0⟩] scope gpos] [] pos) (tQuant false P wi g tt te (own.map (·.2))) := by
  refine ⟨fun pins s σ H Q I h => ?_⟩
  refine wpAny_Call_Name_kw (ld_blt I hgl hm boot_all ?_)
  refine PyProof.Rows.callWith_builtin1 ?_ hst (by rfl)
  rw [hst]
  show wpAny _ _ (spliced ((false, eval (.GeneratorExp elt [⟨tg, iter, ifs, 0⟩] scope gpos) X.env) :: backTo pos (starEach [] X.env))) _ _ s
  refine Calls.spliced_cons (gen_made hr hc hN TB hcode hi S hg ht he hs I h fun J H2 hW => ?_)
  obtain ⟨W, w0, step⟩ := hW
  refine ⟨W, YdB W false (Q (.bl false)), fun H' => Q (.bl true) H', w0, quant_step step, fun D s5 m o hp hw hA hWe hY hQ hgen rdy back => ?_⟩
  refine Calls.spliced_nil ?_
  refine call_function_tree F.kind_all F.plain_all F.entry_all (F.args_all1 _) ?_
  unfold Builtin.«all»
  refine wpAny_bind (m := oneArg "all" _) (wpAny_pure ?_)
  have pinG := (rdy.at_.inv.pin (D.a, D.go) (List.mem_append_right _ (List.mem_singleton.mpr rfl))).1
  refine wpAny_bind (wpAny_pyIter_gen (hgen _ pinG) ?_)
  refine wpAny_pure ⟨plainId_quiet F.plain_all_loop _, ?_⟩
  rw [← hp, ← hw]
  subst hWe
  refine all_loop o (A := X.A) hA.symm hr.depth hr.hd hgen hY (fun s' H' I' f' q' => ?_) (fun s' H' I' f' q' => ?_) m 0 m s5 H2 rdy
  · rw [hQ] at q'
    exact ⟨.bl true, H', back s' H' I' f', rfl, q'⟩
  · exact ⟨.bl false, H', back s' H' I' f', rfl, q'⟩
theorem pe_anyG {c P : Addr} {elt tg iter : Expr} {ifs : List Expr} {scope : Scope} {own : List (Str × Nat)} {p pos gpos : Pos} {wi : TI} {g : TG} {tt : TT} {te : TE} {k : Nat}
    (hr : Room (k + 1) X.A) (hc : X.calm = true) (hN : X.N.Nodup) (hgl : Gl X "any") (hm : X.mg "any" = none) (TB : TabB X.base X.mg c P) (hcode : X.env.code = .ref c) (hi : PI X tg iter wi) (S : GScp X scope own)
    (hg : ∀ (A : Around) (s : Shared) (H : Hp) (C : Addr) (code : Value) (fp : List Addr), PG (Cxg X A s H (genE X scope C code) fp) tg g) (ht : ∀ (A : Around) (s : Shared) (H : Hp) (C : Addr) (code : Value) (fp : List Addr), Room k A → PTs (Cxg X A s H (genE X scope C code) fp) ifs tt)
    (he : ∀ (A : Around) (s : Shared) (H : Hp) (C : Addr) (code : Value) (fp : List Addr), Room k A → PE (Cxg X A s H (genE X scope C code) fp) elt te) (hs : ∀ v, genFold iter X.env v = pure v := by intro _; rfl)
    (hst : starEach [.GeneratorExp elt [⟨tg, iter, ifs, 0⟩] scope gpos] X.env = (false, eval (.GeneratorExp elt [⟨tg, iter, ifs, 0⟩] scope gpos) X.env) :: starEach [] X.env := by rfl) :
    PE X (.Call (.Name "any" p) [.GeneratorExp elt [⟨tg, iter, ifs, 0⟩] scope gpos] [] pos) (tQuant true P wi g tt te (own.map (·.2))) := by
  refine ⟨fun pins s σ H Q I h => ?_⟩
  refine wpAny_Call_Name_kw (ld_blt I hgl hm boot_any ?_)
  refine PyProof.Rows.callWith_builtin1 ?_ hst (by rfl)
  rw [hst]
  show wpAny _ _ (spliced ((false, eval (.GeneratorExp elt [⟨tg, iter, ifs, 0⟩] scope gpos) X.env) :: backTo pos (starEach [] X.env))) _ _ s
  refine Calls.spliced_cons (gen_made hr hc hN TB hcode hi S hg ht he hs I h fun J H2 hW => ?_)
  obtain ⟨W, w0, step⟩ := hW
  refine ⟨W, YdB W true (Q (.bl true)), fun H' => Q (.bl false) H', w0, quant_step step, fun D s5 m o hp hw hA hWe hY hQ hgen rdy back => ?_⟩
  refine Calls.spliced_nil ?_
  refine call_function_tree F.kind_any F.plain_any F.entry_any (F.args_any1 _) ?_
  unfold Builtin.«any»
  refine wpAny_bind (m := oneArg "any" _) (wpAny_pure ?_)
  have pinG := (rdy.at_.inv.pin (D.a, D.go) (List.mem_append_right _ (List.mem_singleton.mpr rfl))).1
  refine wpAny_bind (wpAny_pyIter_gen (hgen _ pinG) ?_)
  refine wpAny_pure ⟨plainId_quiet F.plain_any_loop _, ?_⟩
  rw [← hp, ← hw]
  subst hWe
  refine any_loop o (A := X.A) hA.symm hr.depth hr.hd hgen hY (fun s' H' I' f' q' => ?_) (fun s' H' I' f' q' => ?_) m 0 m s5 H2 rdy
  · rw [hQ] at q'
    exact ⟨.bl false, H', back s' H' I' f', rfl, q'⟩
  · exact ⟨.bl true, H', back s' H' I' f', rfl, q'⟩
end
/-- over a walk: Pv by the turn and the heap -/
theorem quant_it {want : Bool} {J : It} {n : Nat} {G : Hp → Prop} {Y : Nat → Hp → V → Hp → Prop} (w : Walk J n G Y) {g : TG} {tt : TT} {te : TE} {vs : List Nat} {σ : L2.St} {H2 : Hp} {Q : VK} (Pv : Nat → Hp → Prop) (h0 : Pv 0 H2) (hG : ∀ i H, i ≤ n → Pv i H → G H)
    (hs : ∀ i x H H', i < n → Pv i H → Y i H x H' → g x (wipe σ vs) H' fun σ2 H3 => wipe σ2 vs = wipe σ vs ∧ tt σ2 H3 fun b H4 => if b = true then te σ2 H4 fun y H5 => ∃ c, y = .bl c ∧ if c = want then Q (.bl want) H5 else Pv (i + 1) H5 else Pv (i + 1) H4)
    (hd : ∀ H, Pv n H → Q (.bl (!want)) H) :
    ∃ W : Nat → Nat → Hp → Prop, (∃ m, W 0 m H2) ∧ ∀ i m H, W i m H →
      (J.stop i H ∧ Q (.bl (!want)) H) ∨ (J.go i H ∧ 0 < m ∧ ∃ Nx : Hp → Prop, (∀ H', Nx H' → ∃ m', m' < m ∧ W (i + 1) m' H') ∧ ∀ x H', J.yld i H x H' → g x (wipe σ vs) H' fun σ2 H3 => wipe σ2 vs = wipe σ vs ∧ tt σ2 H3 fun b H4 =>
        if b = true then te σ2 H4 fun y H5 => ∃ c, y = .bl c ∧ if c = want then Q (.bl want) H5 else Nx H5 else Nx H4) := by
  refine ⟨fun i m H => m = n - i ∧ i ≤ n ∧ Pv i H, ⟨n, by simp, Nat.zero_le _, h0⟩, ?_⟩
  rintro i m H ⟨rfl, hi, p⟩
  have q := hG i H hi p
  by_cases hlt : i < n
  · exact .inr ⟨w.goes i H hlt q, by omega, Pv (i + 1), fun H' p' => ⟨n - (i + 1), by omega, rfl, hlt, p'⟩, fun x H' y => hs i x H H' hlt p (w.yields i H x H' hlt q y)⟩
  · have e : i = n := by omega
    subst e
    exact .inl ⟨w.stops H q, hd H p⟩
end Gx

/-! ## Lk -/
set_option Elab.async false
set_option linter.all false
set_option maxRecDepth 100000
set_option maxHeartbeats 2000000
/-! What all defs of the package's laws are told with: tuples of ints, webs; heaps that have grown; callees. -/
namespace Lk
open PySem PySem.Spec PyProof.Rows L2 Gx
open GxR (TabG Tabbed TabB)

/-! ### heaps -/
def isTbl : HO → Bool
  | .tbl _ => true
  | _ => false
/-- tables that no generator of a def writes at -/
class Own where
  own : Addr → Prop
variable [Own]
/-- all that was tracked is as it was, but that tables may have grown -/
structure Ext (H H' : Hp) : Prop where
  keep : ∀ a o, H a = some o → isTbl o = false → H' a = some o
  tab : ∀ P, TabG H P → TabG H' P
  tb : ∀ a o, H a = some o → ∃ o', H' a = some o'
  own : ∀ P ps, Own.own P → H P = some (.tbl ps) → H' P = some (.tbl ps)
theorem Ext.refl (H : Hp) : Ext H H := ⟨fun _ _ h _ => h, fun _ h => h, fun _ _ h => ⟨_, h⟩, fun _ _ _ h => h⟩
theorem Ext.trans {H H1 H2 : Hp} (a : Ext H H1) (b : Ext H1 H2) : Ext H H2 := ⟨fun c o h q => b.keep c o (a.keep c o h q) q, fun P h => b.tab P (a.tab P h), fun c o h => by
  obtain ⟨o', h'⟩ := a.tb c o h
  exact b.tb c o' h', fun P ps o h => b.own P ps o (a.own P ps o h)⟩
theorem Ext.new {H : Hp} {p : Addr} (h : H p = none) (o : HO) : Ext H (upd H p o) := ⟨fun a u e _ => by rw [upd_ne (ne_of_none e h)]; exact e, fun P ⟨ps, e, t⟩ => ⟨ps, by rw [upd_ne (ne_of_none e h)]; exact e, t⟩, fun a u e => ⟨u, by rw [upd_ne (ne_of_none e h)]; exact e⟩, fun P ps _ e => by rw [upd_ne (ne_of_none e h)]; exact e⟩
theorem Ext.tabbed {H H' : Hp} {P : Addr} (hn : ¬ Own.own P) (h : TabG H P) (t : Tabbed P H H') : Ext H H' := by
  obtain ⟨ps, e, ht⟩ := h
  refine ⟨fun a o e' q => ?_, fun P' h' => ?_, fun a o e' => ?_, fun P' qs o e1 => by rw [t.2 P' (fun z => hn (z ▸ o))]; exact e1⟩
  · have : a ≠ P := fun z => by
      rw [z, e] at e'
      cases e'
      cases q
    rw [t.2 a this]; exact e'
  · by_cases z : P' = P
    · rw [z]; exact t.1
    · obtain ⟨qs, e1, t1⟩ := h'
      exact ⟨qs, by rw [t.2 P' z]; exact e1, t1⟩
  · by_cases z : a = P
    · obtain ⟨qs, e1, _⟩ := t.1
      exact ⟨_, by rw [z]; exact e1⟩
    · exact ⟨o, by rw [t.2 a z]; exact e'⟩
theorem Ext.free {H H' : Hp} (e : Ext H H') {l : Addr} (h : H' l = none) : H l = none := by
  cases q : H l with
  | none => rfl
  | some o =>
    obtain ⟨o', h'⟩ := e.tb l o q
    rw [h] at h'
    cases h'
theorem Ext.tup {H H' : Hp} (e : Ext H H') {a : Addr} {xs : List V} (h : H a = some (.tup xs)) : H' a = some (.tup xs) := e.keep _ _ h rfl
theorem Ext.lst {H H' : Hp} (e : Ext H H') {a : Addr} {xs : List V} (h : H a = some (.lst xs)) : H' a = some (.lst xs) := e.keep _ _ h rfl
/-- a list that grows, new behind H0 -/
theorem Ext.put {H0 H : Hp} {p : Addr} (e : Ext H0 H) (h : H0 p = none) (o : HO) : Ext H0 (upd H p o) := ⟨fun a u q t => by rw [upd_ne (ne_of_none q h)]; exact e.keep a u q t, fun P ⟨ps, q, t⟩ => by
  obtain ⟨qs, q', t'⟩ := e.tab P ⟨ps, q, t⟩
  exact ⟨qs, by rw [upd_ne (ne_of_none q h)]; exact q', t'⟩, fun a u q => by
  obtain ⟨o', h'⟩ := e.tb a u q
  exact ⟨o', by rw [upd_ne (ne_of_none q h)]; exact h'⟩, fun P ps o q => by rw [upd_ne (ne_of_none q h)]; exact e.own P ps o q⟩
/-- the tables that the defs have -/
def Tabs (Ps : List Addr) (H : Hp) : Prop := ∀ P ∈ Ps, TabG H P
theorem Tabs.ext {Ps : List Addr} {H H' : Hp} (t : Tabs Ps H) (e : Ext H H') : Tabs Ps H' := fun P h => e.tab P (t P h)

/-! ### tuples of ints, of such -/
theorem paired_mono {α β : Type} {R S : α → β → Prop} (h : ∀ a b, R a b → S a b) : ∀ {l : List α} {m : List β}, Paired R l m → Paired S l m
  | _, _, .nil => .nil
  | _, _, .cons r t => .cons (h _ _ r) (paired_mono h t)
theorem paired_get {α β : Type} {R : α → β → Prop} : ∀ {l : List α} {m : List β} {i : Nat} {b : β}, Paired R l m → m[i]? = some b → ∃ a, l[i]? = some a ∧ R a b
  | _, _, _, _, .nil, e => by simp at e
  | _, _, 0, _, .cons r _, e => by simp at e; subst e; exact ⟨_, rfl, r⟩
  | _, _, i + 1, _, .cons _ t, e => by
    obtain ⟨a, h1, h2⟩ := paired_get (i := i) t (by simpa using e)
    exact ⟨a, by simpa using h1, h2⟩
theorem paired_get' {α β : Type} {R : α → β → Prop} : ∀ {l : List α} {m : List β} {i : Nat} {a : α}, Paired R l m → l[i]? = some a → ∃ b, m[i]? = some b ∧ R a b
  | _, _, _, _, .nil, e => by simp at e
  | _, _, 0, _, .cons r _, e => by simp at e; subst e; exact ⟨_, rfl, r⟩
  | _, _, i + 1, _, .cons _ t, e => by
    obtain ⟨a, h1, h2⟩ := paired_get' (i := i) t (by simpa using e)
    exact ⟨a, by simpa using h1, h2⟩
theorem paired_snoc {α β : Type} {R : α → β → Prop} {a : α} {b : β} (r : R a b) : ∀ {l : List α} {m : List β}, Paired R l m → Paired R (l ++ [a]) (m ++ [b])
  | _, _, .nil => .cons r .nil
  | _, _, .cons q t => .cons q (paired_snoc r t)
theorem paired_len {α β : Type} {R : α → β → Prop} : ∀ {l : List α} {m : List β}, Paired R l m → l.length = m.length
  | _, _, .nil => rfl
  | _, _, .cons _ t => by rw [List.length_cons, List.length_cons, paired_len t]
/-- the ints' values -/
abbrev iv (ns : List Int) : List V := ns.map V.int
theorem iv_get {ns : List Int} {i : Nat} {x : V} (h : (iv ns)[i]? = some x) : ∃ n, ns[i]? = some n ∧ x = .int n := by
  rw [List.getElem?_map] at h
  cases e : ns[i]? with
  | none => rw [e] at h; cases h
  | some n => rw [e] at h; exact ⟨n, rfl, (Option.some.inj h).symm⟩
theorem iv_at {ns : List Int} {i : Nat} {n : Int} (h : ns[i]? = some n) : (iv ns)[i]? = some (.int n) := by rw [List.getElem?_map, h]; rfl
theorem iv_len (ns : List Int) : (iv ns).length = ns.length := List.length_map ..
/-- a tuple of ints -/
def TI (H : Hp) (v : V) (ns : List Int) : Prop := ∃ a, v = .ref a ∧ H a = some (.tup (iv ns))
/-- a tuple of tuples of ints -/
def TT2 (H : Hp) (v : V) (rows : List (List Int)) : Prop := ∃ a vs, v = .ref a ∧ H a = some (.tup vs) ∧ Paired (TI H) vs rows
/-- a list of ints, of tuples of ints -/
def LI (H : Hp) (v : V) (ns : List Int) : Prop := ∃ a, v = .ref a ∧ H a = some (.lst (iv ns))
def LT2 (H : Hp) (v : V) (rows : List (List Int)) : Prop := ∃ a vs, v = .ref a ∧ H a = some (.lst vs) ∧ Paired (TI H) vs rows
theorem TI.ext {H H' : Hp} {v : V} {ns : List Int} (e : Ext H H') (h : TI H v ns) : TI H' v ns := by
  obtain ⟨a, q, h⟩ := h
  exact ⟨a, q, e.tup h⟩
theorem pTI.ext {H H' : Hp} {vs : List V} {rows : List (List Int)} (e : Ext H H') (h : Paired (TI H) vs rows) : Paired (TI H') vs rows := paired_mono (fun _ _ r => r.ext e) h
theorem TT2.ext {H H' : Hp} {v : V} {rows : List (List Int)} (e : Ext H H') (h : TT2 H v rows) : TT2 H' v rows := by
  obtain ⟨a, vs, q, h, p⟩ := h
  exact ⟨a, vs, q, e.tup h, pTI.ext e p⟩
theorem LI.ext {H H' : Hp} {v : V} {ns : List Int} (e : Ext H H') (h : LI H v ns) : LI H' v ns := by
  obtain ⟨a, q, h⟩ := h
  exact ⟨a, q, e.lst h⟩
theorem LT2.ext {H H' : Hp} {v : V} {rows : List (List Int)} (e : Ext H H') (h : LT2 H v rows) : LT2 H' v rows := by
  obtain ⟨a, vs, q, h, p⟩ := h
  exact ⟨a, vs, q, e.lst h, pTI.ext e p⟩

/-! ### webs -/
/-- a look: one, other, sign -/
abbrev Look3 := Int × Int × Int
def row3 (l : Look3) : List Int := [l.1, l.2.1, l.2.2]
structure Web where
  tops : List Int
  looks : List Look3
structure Web.Ok (W : Web) : Prop where
  some_ : 1 ≤ W.tops.length
  few : W.tops.length ≤ 6
  tops : ∀ t ∈ W.tops, 1 ≤ t ∧ t ≤ 3
  most : W.looks.length ≤ 14
  look : ∀ l ∈ W.looks, (0 ≤ l.1 ∧ l.1 < W.tops.length) ∧ (0 ≤ l.2.1 ∧ l.2.1 < W.tops.length) ∧ (l.2.2 = 1 ∨ l.2.2 = -1)
  asc : W.looks.Pairwise fun k l => k.1 < l.1 ∨ k.1 = l.1 ∧ k.2.1 < l.2.1
  four : ∀ f : Int, ((W.looks.map fun l => l.2.1).filter fun o => o == f).length ≤ 4
def WebAt (H : Hp) (v : V) (W : Web) : Prop := ∃ a t l, v = .ref a ∧ H a = some (.tup [t, l]) ∧ TI H t W.tops ∧ TT2 H l (W.looks.map row3)
theorem WebAt.ext {H H' : Hp} {v : V} {W : Web} (e : Ext H H') (h : WebAt H v W) : WebAt H' v W := by
  obtain ⟨a, t, l, q, h, p1, p2⟩ := h
  exact ⟨a, t, l, q, e.tup h, p1.ext e, p2.ext e⟩

/-! ### callees -/
/-- the def of that name, its promise at level k -/
structure Cal (P : Program) (w : World) (K : PySem.W.Frag) (mg : Str → Option Value) (base : Heap) (CX : CXT) (k : Nat) (x : Str) (ps : List Str) (sp : Sp) : Prop where
  ex : ∃ f fd, mg x = some (.ref f) ∧ PySem.W.keepIn K (.ref f) = true ∧ Binds K fd ps [] ∧ FnOk P w K mg base CX k f fd ps sp
section
variable {X : Cx} {CX : CXT} {k : Nat} {ps : List Str} {sp : Sp} {E : XK} {x : Str} {p pos : Pos} {e : Expr} {es : List Expr} {t : TA}
theorem pe_cal (F : Cal X.prog X.w X.K X.mg X.base CX k x ps sp) (hr : Room k X.A) (hg : Gl X x) (hx : Passes CX X E)
    (ha : PA X (e :: es) t) (hdb : (x == ("__debug__" : Str)) = false := by decide) (he : starEach (e :: es) X.env = (false, eval e X.env) :: starEach es X.env := by rfl) (hpl : (backTo pos (starEach es X.env)).any (·.1) = false := by rfl) :
    PE X (.Call (.Name x p) (e :: es) [] pos) (tCall sp [] E t) := by
  obtain ⟨f, fd, hm, hk, hb, G⟩ := F.ex
  exact pe_call G hr hg hm hk hb .nil hx ha hdb he hpl
/-- .. that raises nothing -/
theorem pe_c0 (F : Cal X.prog X.w X.K X.mg X.base CX0 k x ps sp) (hr : Room k X.A) (hg : Gl X x)
    (ha : PA X (e :: es) t) (hdb : (x == ("__debug__" : Str)) = false := by decide) (he : starEach (e :: es) X.env = (false, eval e X.env) :: starEach es X.env := by rfl) (hpl : (backTo pos (starEach es X.env)).any (·.1) = false := by rfl) :
    PE X (.Call (.Name x p) (e :: es) [] pos) (tCall sp [] E0 t) := pe_cal F hr hg pass0 ha hdb he hpl
end
/-- a def with a table of code objects of its own: its code object's address, its table's -/
structure FunT (K : PySem.W.Frag) (mg : Str → Option Value) (base : Heap) (Ps : List Addr) (x : Str) (st : Stmt) (f : Addr) (fd : FuncData) (P : Addr) : Prop where
  ex : ∃ (oc : Value) (od : Option Addr) (kV doc pm : Value) (an : Option Addr) (c : Addr) (ct : Value) (osl : Array (Option Value)),
    fd = PySem.W.fnOf x x (defArgs st) (defBody st) (defScope st) .none kV doc pm an (.ref c) ct ∧ K.lookup f = some ⟨oc, od, .func fd, osl⟩ ∧ PySem.W.codeIn K (.ref c) x = true ∧ TabB base mg c P
  mem : P ∈ Ps
  nown : ¬ Own.own P
section
variable {P : Program} {w : World} {K : PySem.W.Frag} {mg : Str → Option Value} {base : Heap}
theorem FunT.ok {Ps : List Addr} {x : Str} {st : Stmt} {f : Addr} {fd : FuncData} {T : Addr} {N ps : List Str} {k : Nat} {sp : Sp} (F : FunT K mg base Ps x st f fd T) (S : FnScope N ps (defScope st)) (len : ∀ vs H Q E, sp vs H Q E → vs.length = ps.length)
    (hbody : ∀ (c : Addr) (A : Around) (outer : List Env) (s : Shared) (H : Hp) (vs : List V) (Q : VK) (E : XK), TabB base mg c T → Room k (A.deeper (envOfC x (defScope st) s.heap.objs.size f (.ref c))) → sp vs H Q E →
      ∃ t, PSs (cxOf CX0 P w K mg base N x (defScope st) f (.ref c) A outer s H E).nox (defBody st) t ∧ t { nx := fun _ H' => Q .non H', rt := Q } (start N vs) H) : FnOk P w K mg base CX0 (k + 1) f fd ps sp := by
  obtain ⟨oc, od, kV, doc, pm, an, c, ct, osl, rfl, lk, hcd, tb⟩ := F.ex
  refine fn_of lk hcd S len fun A outer s H vs Q E hr hsp => ?_
  obtain ⟨t, h, q⟩ := hbody c A outer s H vs Q E tb hr hsp
  exact ⟨t, h.nox, q⟩
end
/-- a value is an int: isinstance by the built-in class -/
theorem isi_int {K : PySem.W.Frag} {H : Hp} (i : Int) : TyX K H (.int i) (.type "int") := .base (.int i)
end Lk

/-! ## Top -/
set_option Elab.async false
set_option maxRecDepth 100000
namespace Lk
open PySem
/-- the i-th statement of the program -/
def top (i : Nat) : Stmt := PySem.Challenge.pw_likespite_k02_whole_rules.main.body.getD i (.Pass ⟨0, 0, 0, 0⟩)
end Lk

/-! ## D01 -/
set_option Elab.async false
set_option linter.all false
set_option maxRecDepth 100000
set_option maxHeartbeats 2000000
namespace Lk
open PySem PySem.Spec PyProof.Rows L2 Gx
open GxR (TabG Tabbed TabB)
variable [Own]
abbrev sIsWhole : Stmt := top 12
def isWhole (i lo hi : Int) : Bool := decide (lo ≤ i) && decide (i ≤ hi)
def spIsWhole : Sp := fun vs H Q _ => ∃ i lo hi : Int, vs = [.int i, .int lo, .int hi] ∧ Q (.bl (isWhole i lo hi)) H
section
variable {P : Program} {w : World} {K : PySem.W.Frag} {mg : Str → Option Value} {base : Heap}
theorem scIsWhole : FnScope ["value", "least", "most"] ["value", "least", "most"] (defScope sIsWhole) := ⟨rfl, rfl, rfl, by decide +kernel, rfl, by decide +kernel, by decide +kernel⟩
theorem boot_isinstance : bootBuiltins "isinstance" = some (.builtin "isinstance") := by decide +kernel
theorem boot_tyInt : bootBuiltins "int" = some (.type "int") := by decide +kernel
theorem boot_tyBool : bootBuiltins "bool" = some (.type "bool") := by decide +kernel
theorem ok_is_whole {f : Addr} {fd : FuncData} (F : Fun K "is_whole" "is_whole" sIsWhole f fd) (ni : mg "isinstance" = none) (nI : mg "int" = none) (nB : mg "bool" = none) : FnOk P w K mg base CX0 1 f fd ["value", "least", "most"] spIsWhole := by
  refine F.ok scIsWhole (fun vs H Q E h => ?_) (fun cdv A outer s H vs Q E hr h => ?_)
  · obtain ⟨i, lo, hi, rfl, _⟩ := h
    rfl
  · obtain ⟨i, lo, hi, rfl, k⟩ := h
    refine ⟨_, pss_one (ps_ret (pe_and (pe_callB call_isi (by rfl) ni boot_isinstance (pa_cons (pv 0) (pa_cons (pe_bltn (v := .ty "int") (by rfl) nI boot_tyInt rfl) pa_nil)))
      (pe_and (pe_not (pe_callB call_isi (by rfl) ni boot_isinstance (pa_cons (pv 0) (pa_cons (pe_bltn (v := .ty "bool") (by rfl) nB boot_tyBool rfl) pa_nil))))
      (pe_one (pe_chain op_le op_le (pv 1) (pv 0) (pv 2)))))), ?_⟩
    refine ⟨_, rfl, _, _, _, _, true, rfl, .ty "int", isi_int i, kit_ty (by decide +kernel), _, rfl, iteT ?_⟩
    refine ⟨_, rfl, _, _, _, _, false, rfl, .ty "bool", isi_int i, kit_ty (by decide +kernel), _, rfl, _, rfl, iteT ?_⟩
    refine ⟨_, rfl, _, rfl, _, _, rfl, rfl, _, rfl, ?_⟩
    unfold isWhole at k
    by_cases h : lo ≤ i
    · rw [decide_eq_true h, Bool.true_and] at k
      rw [decide_eq_true h]
      refine iteT ?_
      refine ⟨_, rfl, _, _, rfl, rfl, ?_⟩
      exact k
    · rw [decide_eq_false h, Bool.false_and] at k
      rw [decide_eq_false h]
      exact iteF k
end
end Lk

/-! ## D02 -/
set_option Elab.async false
set_option linter.all false
set_option maxRecDepth 100000
set_option maxHeartbeats 2000000
namespace Lk
open PySem PySem.Spec PyProof.Rows L2 Gx
open GxR (TabG Tabbed TabB)
variable [Own]
theorem iteTF {A B : Prop} (h : B) : if true = false then A else B := by
  rw [if_neg (by decide)]
  exact h
theorem iteFF {A B : Prop} (h : A) : if false = false then A else B := by
  rw [if_pos rfl]
  exact h
theorem ite_of {c : Bool} {A B : Prop} (h1 : c = true → A) (h2 : c = false → B) : if c = true then A else B := by
  cases c with
  | true => exact iteT (h1 rfl)
  | false => exact iteF (h2 rfl)
theorem iteb {c : Bool} {A B : Prop} (hc : c = true) (h : A) : if c = true then A else B := by rw [hc]; exact iteT h
theorem itebf {c : Bool} {A B : Prop} (hc : c = false) (h : B) : if c = true then A else B := by rw [hc]; exact iteF h
theorem yes {σ : L2.St} {H : Hp} {A B : Hp → Prop} (h : A H) : tYes σ H fun b H' => if b = true then A H' else B H' := by
  show if true = true then A H else B H
  exact iteT h
theorem boot_tyTuple : bootBuiltins "tuple" = some (.type "tuple") := by decide +kernel
theorem boot_tyList : bootBuiltins "list" = some (.type "list") := by decide +kernel
theorem boot_tyStr : bootBuiltins "str" = some (.type "str") := by decide +kernel
theorem boot_set : bootBuiltins "set" = some (.type "set") := by decide +kernel
theorem boot_max : bootBuiltins "max" = some (.builtin "max") := by decide +kernel
theorem boot_sorted : bootBuiltins "sorted" = some (.builtin "sorted") := by decide +kernel
theorem isi_tup {K : PySem.W.Frag} {H : Hp} {a : Addr} {xs : List V} (h : H a = some (.tup xs)) : TyX K H (.ref a) (.type "tuple") := .base (.tup h)
/-- a written number of the module -/
def Num (mg : Str → Option Value) (x : Str) (n : Int) : Prop := ∃ t, mg x = some (.int n t)
theorem pe_num {X : Cx} {x : Str} {n : Int} {pos : Pos} (h : Num X.mg x n) (hg : Gl X x) (hd : (x == ("__debug__" : Str)) = false := by decide) : PE X (.Name x pos) (tC (.int n)) := by
  obtain ⟨t, h⟩ := h
  exact pe_glob hg h ⟨t, rfl⟩ hd
/-- the names of the built-ins that the module has not made its own -/
structure Blt (mg : Str → Option Value) : Prop where
  isi : mg "isinstance" = none
  int : mg "int" = none
  bool : mg "bool" = none
  tuple : mg "tuple" = none
  list : mg "list" = none
  set : mg "set" = none
  len : mg "len" = none
  all : mg "all" = none
  range : mg "range" = none
  sorted : mg "sorted" = none
  enum : mg "enumerate" = none
  zip : mg "zip" = none
  max : mg "max" = none
  str : mg "str" = none
  sup : mg "super" = none
structure Nums (mg : Str → Option Value) : Prop where
  MOST_FOLK : Num mg "MOST_FOLK" 6
  MOST_TOP : Num mg "MOST_TOP" 3
  MOST_LOOKS : Num mg "MOST_LOOKS" 14
  MOST_LOOKS_OF_ONE : Num mg "MOST_LOOKS_OF_ONE" 4
  MOST_TICKS : Num mg "MOST_TICKS" 200
end Lk

/-! ## Dat -/
set_option Elab.async false
set_option linter.all false
set_option maxRecDepth 100000
set_option maxHeartbeats 2000000
/-! Tuples and lists of ints as data: when two are equal. -/
namespace Lk
open PySem PySem.Spec PyProof.Rows L2 Gx
variable [Own]
abbrev dI (ns : List Int) : PyData := .tuple (ns.map .int)
theorem eqv_ii (a b : Int) : PyData.eqv (.int a) (.int b) = decide (a = b) := by
  simp only [PyData.eqv]
  first | rfl | exact Bool.beq_eq_decide_eq .. | (by_cases h : a = b <;> simp [h])
theorem eqvAll_ints : ∀ a b : List Int, PyData.eqvAll (a.map .int) (b.map .int) = decide (a = b)
  | [], [] => by simp [PyData.eqvAll]
  | [], _ :: _ => by simp [PyData.eqvAll]
  | _ :: _, [] => by simp [PyData.eqvAll]
  | x :: xs, y :: ys => by
    rw [List.map_cons, List.map_cons]
    simp only [PyData.eqvAll]
    rw [eqv_ii, eqvAll_ints xs ys]
    by_cases h1 : x = y <;> by_cases h2 : xs = ys <;> simp [h1, h2]
theorem eqv_tt (a b : List Int) : PyData.eqv (dI a) (dI b) = decide (a = b) := by
  show PyData.eqv (.tuple _) (.tuple _) = _
  simp only [PyData.eqv]
  exact eqvAll_ints a b
theorem eqvAll_rows : ∀ a b : List (List Int), PyData.eqvAll (a.map dI) (b.map dI) = decide (a = b)
  | [], [] => by simp [PyData.eqvAll]
  | [], _ :: _ => by simp [PyData.eqvAll]
  | _ :: _, [] => by simp [PyData.eqvAll]
  | x :: xs, y :: ys => by
    rw [List.map_cons, List.map_cons]
    simp only [PyData.eqvAll]
    rw [eqv_tt, eqvAll_rows xs ys]
    by_cases h1 : x = y <;> by_cases h2 : xs = ys <;> simp [h1, h2]
theorem eqv_ll (a b : List (List Int)) : PyData.eqv (.list (a.map dI)) (.list (b.map dI)) = decide (a = b) := by
  simp only [PyData.eqv]
  exact eqvAll_rows a b
theorem canLay_ints : ∀ a : List Int, PyData.canLayAll0 (a.map .int) = true
  | [] => by simp [PyData.canLayAll0]
  | x :: xs => by
    rw [List.map_cons]
    simp only [PyData.canLayAll0, PyData.canLay0, canLay_ints xs, Bool.and_self]
theorem canLay_rows : ∀ a : List (List Int), PyData.canLayAll0 (a.map dI) = true
  | [] => by simp [PyData.canLayAll0]
  | x :: xs => by
    rw [List.map_cons]
    simp only [PyData.canLayAll0, PyData.canLay0, canLay_ints x, canLay_rows xs, Bool.and_self]
theorem depth_ints : ∀ a : List Int, PyData.depthAll (a.map .int) = 0
  | [] => by simp [PyData.depthAll]
  | x :: xs => by
    rw [List.map_cons]
    simp only [PyData.depthAll, PyData.depth, depth_ints xs, Nat.max_self]
theorem depth_rows : ∀ a : List (List Int), PyData.depthAll (a.map dI) ≤ 1
  | [] => by simp [PyData.depthAll]
  | x :: xs => by
    rw [List.map_cons]
    have h := depth_rows xs
    simp only [PyData.depthAll, PyData.depth, depth_ints x]
    omega
theorem shaped_t (a : List Int) : SeqAt.shaped (dI a) = true := by
  unfold SeqAt.shaped
  simp only [PyData.canLay0, canLay_ints a, PyData.depth, depth_ints a, Bool.true_and]
  decide
theorem shaped_l (a : List (List Int)) : SeqAt.shaped (.list (a.map dI)) = true := by
  unfold SeqAt.shaped
  have h := depth_rows a
  simp only [PyData.canLay0, canLay_rows a, PyData.depth, Bool.true_and]
  exact decide_eq_true (by omega)
theorem shaped_tl (a : List (List Int)) : SeqAt.shaped (.tuple (a.map dI)) = true := by
  unfold SeqAt.shaped
  have h := depth_rows a
  simp only [PyData.canLay0, canLay_rows a, PyData.depth, Bool.true_and]
  exact decide_eq_true (by omega)
section
variable {K : PySem.W.Frag} {H : Hp}
theorem dpAll_ints : ∀ ns : List Int, DpAll K H (iv ns) (ns.map .int)
  | [] => .nil
  | n :: ns => .cons (.int n) (dpAll_ints ns)
theorem TI.dp {v : V} {ns : List Int} (h : TI H v ns) : Dp K H v (dI ns) := by
  obtain ⟨a, rfl, h⟩ := h
  exact .tup (SqT.of h) (dpAll_ints ns)
theorem pTI.dp : ∀ {vs : List V} {rows : List (List Int)}, Paired (TI H) vs rows → DpAll K H vs (rows.map dI)
  | _, _, .nil => .nil
  | _, _, .cons r t => .cons r.dp (pTI.dp t)
theorem LT2.dp {v : V} {rows : List (List Int)} (h : LT2 H v rows) : Dp K H v (.list (rows.map dI)) := by
  obtain ⟨a, vs, rfl, h, p⟩ := h
  exact .lst (SqL.of h) (pTI.dp p)
theorem TT2.dp {v : V} {rows : List (List Int)} (h : TT2 H v rows) : Dp K H v (.tuple (rows.map dI)) := by
  obtain ⟨a, vs, rfl, h, p⟩ := h
  exact .tup (SqT.of h) (pTI.dp p)
end
end Lk

/-! ## LkT -/
set_option Elab.async false
set_option linter.all false
set_option maxRecDepth 100000
set_option maxHeartbeats 2000000
/-! Rules over what is tracked alone (no word of the written part): for comprehensions and generators, too. -/
namespace Lk
open PySem PySem.Spec PyProof.Rows L2 Gx
variable [Own]
section
variable {X : Cx} {pos : Pos}
def gTupT (n : Nat) (t : TGs) : TG := fun v σ H Q => ∃ a xs, v = .ref a ∧ H a = some (.tup xs) ∧ xs.length = n ∧ t xs σ H Q
theorem pg_tupT {es : List Expr} {k : Nat} {t : TGs} {n : Nat} (hc : X.calm = true) (h : PGs X es t)
    (hn : (assignEach es X.env).length = n := by rfl) (hst : (assignEach es X.env).findIdx? (·.1) = none := by rfl) : PG X (.Tuple es k pos) (gTupT n t) := by
  refine ⟨fun pins s σ H v u Q I r hw => ?_⟩
  obtain ⟨a, xs, e1, hq, hl, hw⟩ := hw
  exact (pg_tup hc h hn hst).run pins s σ H v u Q I r ⟨a, xs, e1, SqT.of hq, hl, hw⟩
/-- t[i], of a tuple; xs[i], of a list -/
def rIxTT : R2 := fun x y H Q => ∃ p xs i v, x = .ref p ∧ y = .int i ∧ H p = some (.tup xs) ∧ atI xs i = some v ∧ Q v H
def rIxLT : R2 := fun x y H Q => ∃ p xs i v, x = .ref p ∧ y = .int i ∧ H p = some (.lst xs) ∧ atI xs i = some v ∧ Q v H
theorem ix_tT : IxR X rIxTT := by
  intro value slice pins s σ H x y v u Q I rx ry h hs
  obtain ⟨p, xs, i, z, e1, e2, hq, he, q⟩ := h
  exact ix_tup value slice pins s σ H x y v u Q I rx ry ⟨p, xs, i, z, e1, e2, SqT.of hq, he, q⟩ hs
theorem ix_lT : IxR X rIxLT := by
  intro value slice pins s σ H x y v u Q I rx ry h hs
  obtain ⟨p, xs, i, z, e1, e2, hq, he, q⟩ := h
  exact ix_list value slice pins s σ H x y v u Q I rx ry ⟨p, xs, i, z, e1, e2, SqL.of hq, he, q⟩ hs
/-- len of a tuple or a list -/
def rLenT : List V → Hp → VK → Prop := fun xs H Q => ∃ p ys, xs = [.ref p] ∧ (H p = some (.lst ys) ∨ H p = some (.tup ys)) ∧ Q (.int ys.length) H
theorem call_lenT : CallR X (.builtin "len") rLenT := by
  intro pins s σ H xs us Q I r h
  obtain ⟨p, ys, e, hq, q⟩ := h
  exact call_len_seq pins s σ H xs us Q I r ⟨p, ys, e, hq.imp SqL.of SqT.of, q⟩
/-- tuple + tuple -/
def rCatT : R2 := fun x y H Q => ∃ a b xs ys, x = .ref a ∧ y = .ref b ∧ H a = some (.tup xs) ∧ H b = some (.tup ys) ∧ xs.length + ys.length ≤ sizeLine ∧
  (xs = [] → Q (.ref b) H) ∧ (xs ≠ [] → ys = [] → Q (.ref a) H) ∧ (xs ≠ [] → ys ≠ [] → ∀ p, H p = none → Q (.ref p) (upd H p (.tup (xs ++ ys))))
theorem op_catTT : OpR X (binaryOp .Add) rCatT := by
  intro pins s σ H x y v u Q I rx ry h
  obtain ⟨a, b, xs, ys, e1, e2, h1, h2, q⟩ := h
  exact op_catA pins s σ H x y v u Q I rx ry ⟨a, b, xs, ys, e1, e2, SqT.of h1, SqT.of h2, q⟩
/-- tuple(list) -/
def kTupL : V → Hp → VK → Prop := fun x H Q => ∃ p xs, x = .ref p ∧ H p = some (.lst xs) ∧ ∀ q, H q = none → Q (.ref q) (upd H q (.tup xs))
def tTupleL (ta : TE) : TE := fun σ H Q => ta σ H fun x H1 => kTupL x H1 Q
theorem pe_tupleL {p : Pos} {a : Expr} {ta : TE} (hg : Gl X "tuple") (hm : X.mg "tuple" = none) (ha : PE X a ta) (hs : starEach [a] X.env = (false, eval a X.env) :: starEach [] X.env := by rfl) : PE X (.Call (.Name "tuple" p) [a] [] pos) (tTupleL ta) := by
  refine ⟨fun pins s σ H Q I h => ?_⟩
  exact Call_ (ld_blt I hg hm boot_tuple (PyProof.Rows.callWith_type1 (one_arg ha I h (fun v s2 x H2 I2 r q => by
    obtain ⟨p, xs, e, hp, q⟩ := q
    exact rl_tuple pins s2 σ H2 x v Q I2 r (.inl ⟨p, xs, e, SqL.of hp, q⟩)) hs) hs))
/-- two tuples of ints, two lists or tuples of such -/
def rEqTI : R2 := fun x y H Q => ∃ a b : List Int, TI H x a ∧ TI H y b ∧ Q (.bl (decide (a = b))) H
def rNeTI : R2 := fun x y H Q => ∃ a b : List Int, TI H x a ∧ TI H y b ∧ Q (.bl (!decide (a = b))) H
theorem op_eqTI (hu : X.A.units + 64 < cLine) : OpR X (compareOp .Eq) rEqTI := by
  intro pins s σ H x y v u Q I rx ry h
  obtain ⟨a, b, h1, h2, q⟩ := h
  exact op_eqD hu pins s σ H x y v u Q I rx ry ⟨_, _, h1.dp, h2.dp, shaped_t a, shaped_t b, by rw [eqv_tt]; exact q⟩
theorem op_neTI (hu : X.A.units + 64 < cLine) : OpR X (compareOp .NotEq) rNeTI := by
  intro pins s σ H x y v u Q I rx ry h
  obtain ⟨a, b, h1, h2, q⟩ := h
  exact op_neD hu pins s σ H x y v u Q I rx ry ⟨_, _, h1.dp, h2.dp, shaped_t a, shaped_t b, by rw [eqv_tt]; exact q⟩
def rNeLT2 : R2 := fun x y H Q => ∃ a b : List (List Int), LT2 H x a ∧ LT2 H y b ∧ Q (.bl (!decide (a = b))) H
theorem op_neLT2 (hu : X.A.units + 64 < cLine) : OpR X (compareOp .NotEq) rNeLT2 := by
  intro pins s σ H x y v u Q I rx ry h
  obtain ⟨a, b, h1, h2, q⟩ := h
  exact op_neD hu pins s σ H x y v u Q I rx ry ⟨_, _, h1.dp, h2.dp, shaped_l a, shaped_l b, by rw [eqv_ll]; exact q⟩
/-- state in a list of such -/
def rInTI : R2 := fun x y H Q => ∃ (a : List Int) (b : List (List Int)), TI H x a ∧ LT2 H y b ∧ Q (.bl (decide (a ∈ b))) H
theorem any_rows (a : List Int) : ∀ b : List (List Int), ((b.map dI).any fun z => PyData.eqv z (dI a)) = decide (a ∈ b)
  | [] => by simp
  | x :: xs => by
    rw [List.map_cons, List.any_cons, eqv_tt, any_rows a xs]
    by_cases h : x = a
    · simp [h]
    · have : ¬ a = x := fun z => h z.symm
      simp [h, this]
theorem op_inTI (hu : X.A.units + 65 < cLine) : OpR X (compareOp .In) rInTI := by
  intro pins s σ H x y v u Q I rx ry h
  obtain ⟨a, b, h1, h2, q⟩ := h
  exact op_inD hu pins s σ H x y v u Q I rx ry ⟨_, _, h1.dp, h2.dp, shaped_t a, shaped_l b, by rw [any_rows]; exact q⟩
/-- rows.index(row) -/
def rIndexTI : V → List V → Hp → VK → Prop := fun x xs H Q => ∃ (y : V) (a : List Int) (b : List (List Int)) (j : Nat), xs = [y] ∧ TI H y a ∧ LT2 H x b ∧ b[j]? = some a ∧ (∀ m, m < j → b[m]? ≠ some a) ∧ Q (.int (j : Nat)) H
theorem mt_indexTI (hu : X.A.units + 65 < cLine) : MtR X "list.index" rIndexTI := by
  intro pins s σ H x xs v us Q I rx ry h
  obtain ⟨y, a, b, j, e, h1, h2, hj, hm, q⟩ := h
  obtain ⟨p, vs, e2, h3, h4⟩ := id h2
  refine mt_indexD hu pins s σ H x xs v us Q I rx ry ⟨p, y, dI a, b.map dI, j, dI a, e2, e, by rw [← e2]; exact h2.dp, h1.dp, shaped_l b, shaped_t a, by rw [List.getElem?_map, hj]; rfl, by rw [eqv_tt]; simp, fun m z' hlt hz => ?_, q⟩
  rw [List.getElem?_map] at hz
  cases e3 : b[m]? with
  | none => rw [e3] at hz; cases hz
  | some r =>
    rw [e3] at hz
    cases hz
    rw [eqv_tt]
    refine decide_eq_false fun z => hm m hlt ?_
    rw [e3, z]
end
end Lk
namespace Lk
open PySem PySem.Spec PyProof.Rows L2 Gx
variable [Own]
/-- quant_it where the answer is a test's -/
theorem quant_test {want : Bool} {J : It} {n : Nat} {G : Hp → Prop} {Y : Nat → Hp → V → Hp → Prop} (w : Walk J n G Y) {g : TG} {tt : TT} {te : TE} {vs : List Nat} {σ : L2.St} {H2 : Hp} {R : Bool → Hp → Prop} (Pv : Nat → Hp → Prop) (h0 : Pv 0 H2) (hG : ∀ i H, i ≤ n → Pv i H → G H)
    (hs : ∀ i x H H', i < n → Pv i H → Y i H x H' → g x (wipe σ vs) H' fun σ2 H3 => wipe σ2 vs = wipe σ vs ∧ tt σ2 H3 fun b H4 => if b = true then te σ2 H4 fun y H5 => ∃ c, y = .bl c ∧ if c = want then (∃ d, V.bl want = .bl d ∧ R d H5) else Pv (i + 1) H5 else Pv (i + 1) H4)
    (hd : ∀ H, Pv n H → R (!want) H) :
    ∃ W : Nat → Nat → Hp → Prop, (∃ m, W 0 m H2) ∧ ∀ i m H, W i m H →
      (J.stop i H ∧ ∃ d, V.bl (!want) = .bl d ∧ R d H) ∨ (J.go i H ∧ 0 < m ∧ ∃ Nx : Hp → Prop, (∀ H', Nx H' → ∃ m', m' < m ∧ W (i + 1) m' H') ∧ ∀ x H', J.yld i H x H' → g x (wipe σ vs) H' fun σ2 H3 => wipe σ2 vs = wipe σ vs ∧ tt σ2 H3 fun b H4 =>
        if b = true then te σ2 H4 fun y H5 => ∃ c, y = .bl c ∧ if c = want then (∃ d, V.bl want = .bl d ∧ R d H5) else Nx H5 else Nx H4) :=
  quant_it (Q := fun x H => ∃ d, x = .bl d ∧ R d H) w Pv h0 hG hs fun H p => ⟨_, rfl, hd H p⟩
end Lk
namespace Lk
open PySem PySem.Spec PyProof.Rows L2 Gx
variable [Own]
section
variable {X : Cx}
/-- a list's method, called: the list is tracked -/
def tBML (r : V → List V → Hp → VK → Prop) (to : TE) (t : TA) : TE := fun σ H Q => to σ H fun x H1 => (∃ p xs, x = .ref p ∧ H1 p = some (.lst xs)) ∧ t σ H1 fun vs H2 => r x vs H2 Q
variable {o e : Expr} {es : List Expr} {to : TE} {t : TA} {name : Str} {apos cpos : Pos} {id : String} {r : V → List V → Hp → VK → Prop}
theorem pe_bmL (pa : PlainAttrs "list") (slot : Slot "list" name id) (hty : typeOf (.builtin id) = pure (.type "method_descriptor")) (hm : MtR X id r) (ho : PE X o to) (ha : PA X (e :: es) t)
    (hbase : attributeBase o name X.env (eval o X.env) = eval o X.env := by rfl)
    (hfew : ((backTo cpos (starEach (e :: es) X.env)).all (fun x => !x.1) && (backToKw cpos (keywordEach [] X.env)).all (fun x => x.1.isSome)
      && decide ((e :: es).length + ([] : List Keyword).length + (if ([] : List Keyword).isEmpty then 0 else 1) < 30)) = true := by rfl)
    (hline : (apos.endLine == cpos.line) = true := by rfl) (hs : starEach (e :: es) X.env = (false, eval e X.env) :: starEach es X.env := by rfl) (hplain : (backTo cpos (starEach es X.env)).any (·.1) = false := by rfl) :
    PE X (.Call (.Attribute o name apos) (e :: es) [] cpos) (tBML r to t) := by
  refine ⟨fun pins s σ H Q I h => ?_⟩
  refine wpAny_Call_method_late hbase hfew hline rfl (thn (ho.run pins s σ H _ I h) fun v s1 ⟨x, H1, I1, r1, ⟨p, xs, ex, hp⟩, q1⟩ => ?_)
  obtain ⟨h1, h2⟩ := tyV_is (T := "list") I1 r1 (by rw [ex]; exact .inl ⟨rfl, _, SqL.of hp⟩)
  refine ⟨"list", id, pa, slot, hty, h1, h2, ?_⟩
  have hA := ha.run cpos pins s1 σ H1 _ I1 q1
  rw [hs] at hA ⊢
  refine Calls.callWith_builtin (by show (false || (backTo cpos (starEach es X.env)).any (·.1)) = false; rw [hplain] <;> rfl) (Calls.evalArgs_plain ?_)
  exact thn hA fun us s2 ⟨vs, H2, I2, r2, q2⟩ => hm pins s2 σ H2 x vs v us Q I2 r1 r2 q2
def rCntL : V → List V → Hp → VK → Prop := fun x xs H Q => ∃ (p : Addr) (ns : List Int) (k : Int), x = .ref p ∧ xs = [.int k] ∧ H p = some (.lst (iv ns)) ∧ Q (.int (ns.count k : Nat)) H
theorem mt_cntL : MtR X "list.count" rCntL := by
  intro pins s σ H x xs v us Q I rx ry h
  obtain ⟨p, ns, k, e1, e2, h1, q⟩ := h
  exact mt_lcount pins s σ H x xs v us Q I rx ry ⟨p, ns, k, e1, e2, SqL.of h1, q⟩
end
/-- a range's turns -/
theorem rng_len {i : Nat} {H : Hp} {x : V} {H' : Hp} (y : YFn (fun i => V.int (0 + (i : Int))) i H x H') : H' = H ∧ x = .int (i : Int) := by
  obtain ⟨e, ex⟩ := y
  exact ⟨e, ex.trans (by show V.int (0 + ((i : Nat) : Int)) = _; rw [Int.zero_add])⟩
/-- two ascending lists of the same things -/
theorem asc_eq {α : Type} {f : α → Int} : ∀ {l m : List α}, l.Pairwise (fun x y => f x < f y) → m.Pairwise (fun x y => f x < f y) → (∀ x, x ∈ l ↔ x ∈ m) → l = m
  | [], [], _, _, _ => rfl
  | [], b :: m, _, _, h => by have := (h b).mpr (List.mem_cons_self ..); simp at this
  | a :: l, [], _, _, h => by have := (h a).mp (List.mem_cons_self ..); simp at this
  | a :: l, b :: m, hl, hm, h => by
    obtain ⟨hl1, hl2⟩ := List.pairwise_cons.mp hl
    obtain ⟨hm1, hm2⟩ := List.pairwise_cons.mp hm
    have hab : a = b := by
      rcases List.mem_cons.mp ((h a).mp (List.mem_cons_self ..)) with e | ha
      · exact e
      · rcases List.mem_cons.mp ((h b).mpr (List.mem_cons_self ..)) with e | hb
        · exact e.symm
        · have := hm1 a ha
          have := hl1 b hb
          omega
    subst hab
    congr 1
    refine asc_eq hl2 hm2 fun x => ⟨fun hx => ?_, fun hx => ?_⟩
    · rcases List.mem_cons.mp ((h x).mp (List.mem_cons_of_mem _ hx)) with e | h1
      · have := hl1 x hx
        rw [e] at this
        omega
      · exact h1
    · rcases List.mem_cons.mp ((h x).mpr (List.mem_cons_of_mem _ hx)) with e | h1
      · have := hm1 x hx
        rw [e] at this
        omega
      · exact h1
/-- addresses and rows -/
theorem paired_ks {H : Hp} : ∀ {vs : List V} {rows : List (List Int)}, Paired (TI H) vs rows → ∃ ks : List (Addr × List Int), vs = ks.map (fun p => V.ref p.1) ∧ rows = ks.map (·.2) ∧ ∀ p ∈ ks, H p.1 = some (.tup (iv p.2))
  | _, _, .nil => ⟨[], rfl, rfl, fun p h => by simp at h⟩
  | v :: vs, r :: rows, .cons ⟨a, e, h⟩ t => by
    obtain ⟨ks, e1, e2, e3⟩ := paired_ks t
    subst e e1 e2
    refine ⟨(a, r) :: ks, rfl, rfl, fun p hp => ?_⟩
    rcases List.mem_cons.mp hp with e | hp
    · rw [e]; exact h
    · exact e3 p hp
theorem ks_paired {H : Hp} : ∀ {ks : List (Addr × List Int)}, (∀ p ∈ ks, H p.1 = some (.tup (iv p.2))) → Paired (TI H) (ks.map fun p => V.ref p.1) (ks.map (·.2))
  | [], _ => .nil
  | k :: ks, h => .cons ⟨k.1, rfl, h k (List.mem_cons_self ..)⟩ (ks_paired fun p hp => h p (List.mem_cons_of_mem _ hp))
end Lk

/-! ## Lc2 -/
set_option Elab.async false
set_option linter.all false
set_option maxRecDepth 100000
set_option maxHeartbeats 2000000
namespace Lk
open PySem PySem.Spec PyProof.Rows L2 Gx
variable [Own]
/-- the outer walk of a comprehension of two clauses -/
theorem lc2_out {J : It} {n : Nat} {G : Hp → Prop} {Y : Nat → Hp → V → Hp → Prop} (w : Walk J n G Y) {g g1 : TG} {tt tt1 : TT} {wi1 : L2.TI} {te : TE} {vs vs1 : List Nat} {σ : L2.St} {H1 : Hp} {D : Addr} {Qd : Hp → Prop} (Pv : Nat → Hp → Prop) (h0 : Pv 0 (upd H1 D (.lst []))) (hG : ∀ i H, i ≤ n → Pv i H → G H)
    (hs : ∀ i x H H', i < n → Pv i H → Y i H x H' → g x (wipe σ vs) H' fun σ2 H2 => wipe σ2 vs = wipe σ vs ∧ tt σ2 H2 fun b H3 =>
      if b = true then wi1 σ2 H3 fun J1 H4 => ∃ W1 : Nat → Nat → Hp → Prop, (∃ m, W1 0 m H4) ∧ ∀ j k H, W1 j k H →
        (J1.stop j H ∧ Pv (i + 1) H) ∨ (J1.go j H ∧ ∃ Nx1 : Hp → Prop, (∀ H', Nx1 H' → ∃ k', k' < k ∧ W1 (j + 1) k' H') ∧ ∀ x H', J1.yld j H x H' → g1 x (wipe σ2 vs1) H' fun σ3 H5 => wipe σ3 vs1 = wipe σ2 vs1 ∧ tt1 σ3 H5 fun b H6 =>
          if b = true then te σ3 H6 fun y H7 => ∃ acc, H7 D = some (.lst acc) ∧ acc.length < sizeLine ∧ Nx1 (upd H7 D (.lst (acc ++ [y]))) else Nx1 H6)
      else Pv (i + 1) H3) (hd : ∀ H, Pv n H → Qd H) :
    ∃ W : Nat → Nat → Hp → Prop, (∃ m, W 0 m (upd H1 D (.lst []))) ∧ ∀ i m H, W i m H →
      (J.stop i H ∧ Qd H) ∨ (J.go i H ∧ ∃ Nx : Hp → Prop, (∀ H', Nx H' → ∃ m', m' < m ∧ W (i + 1) m' H') ∧ ∀ x H', J.yld i H x H' → g x (wipe σ vs) H' fun σ2 H2 => wipe σ2 vs = wipe σ vs ∧ tt σ2 H2 fun b H3 =>
        if b = true then wi1 σ2 H3 fun J1 H4 => ∃ W1 : Nat → Nat → Hp → Prop, (∃ m, W1 0 m H4) ∧ ∀ j k H, W1 j k H →
          (J1.stop j H ∧ Nx H) ∨ (J1.go j H ∧ ∃ Nx1 : Hp → Prop, (∀ H', Nx1 H' → ∃ k', k' < k ∧ W1 (j + 1) k' H') ∧ ∀ x H', J1.yld j H x H' → g1 x (wipe σ2 vs1) H' fun σ3 H5 => wipe σ3 vs1 = wipe σ2 vs1 ∧ tt1 σ3 H5 fun b H6 =>
            if b = true then te σ3 H6 fun y H7 => ∃ acc, H7 D = some (.lst acc) ∧ acc.length < sizeLine ∧ Nx1 (upd H7 D (.lst (acc ++ [y]))) else Nx1 H6)
        else Nx H3) := by
  refine ⟨fun i m H => m = n - i ∧ i ≤ n ∧ Pv i H, ⟨n, by simp, Nat.zero_le _, h0⟩, ?_⟩
  rintro i m H ⟨rfl, hi, p⟩
  have q := hG i H hi p
  by_cases hlt : i < n
  · exact .inr ⟨w.goes i H hlt q, Pv (i + 1), fun H' p' => ⟨n - (i + 1), by omega, rfl, hlt, p'⟩, fun x H' y => hs i x H H' hlt p (w.yields i H x H' hlt q y)⟩
  · have e : i = n := by omega
    subst e
    exact .inl ⟨w.stops H q, hd H p⟩
/-- the inner one -/
theorem lc2_in {J : It} {n : Nat} {G : Hp → Prop} {Y : Nat → Hp → V → Hp → Prop} (w : Walk J n G Y) {g : TG} {tt : TT} {te : TE} {vs : List Nat} {σ : L2.St} {H4 : Hp} {D : Addr} {Qd : Hp → Prop} (Pv : Nat → Hp → Prop) (h0 : Pv 0 H4) (hG : ∀ i H, i ≤ n → Pv i H → G H)
    (hs : ∀ i x H H', i < n → Pv i H → Y i H x H' → g x (wipe σ vs) H' fun σ2 H2 => wipe σ2 vs = wipe σ vs ∧ tt σ2 H2 fun b H3 =>
      if b = true then te σ2 H3 fun y H4 => ∃ acc, H4 D = some (.lst acc) ∧ acc.length < sizeLine ∧ Pv (i + 1) (upd H4 D (.lst (acc ++ [y]))) else Pv (i + 1) H3) (hd : ∀ H, Pv n H → Qd H) :
    ∃ W : Nat → Nat → Hp → Prop, (∃ m, W 0 m H4) ∧ ∀ i m H, W i m H →
      (J.stop i H ∧ Qd H) ∨ (J.go i H ∧ ∃ Nx : Hp → Prop, (∀ H', Nx H' → ∃ m', m' < m ∧ W (i + 1) m' H') ∧ ∀ x H', J.yld i H x H' → g x (wipe σ vs) H' fun σ2 H2 => wipe σ2 vs = wipe σ vs ∧ tt σ2 H2 fun b H3 =>
        if b = true then te σ2 H3 fun y H4 => ∃ acc, H4 D = some (.lst acc) ∧ acc.length < sizeLine ∧ Nx (upd H4 D (.lst (acc ++ [y]))) else Nx H3) := by
  refine ⟨fun i m H => m = n - i ∧ i ≤ n ∧ Pv i H, ⟨n, by simp, Nat.zero_le _, h0⟩, ?_⟩
  rintro i m H ⟨rfl, hi, p⟩
  have q := hG i H hi p
  by_cases hlt : i < n
  · exact .inr ⟨w.goes i H hlt q, Pv (i + 1), fun H' p' => ⟨n - (i + 1), by omega, rfl, hlt, p'⟩, fun x H' y => hs i x H H' hlt p (w.yields i H x H' hlt q y)⟩
  · have e : i = n := by omega
    subst e
    exact .inl ⟨w.stops H q, hd H p⟩
/-- a new list's pairs, told anew behind growth -/
theorem pTI.put {H H' : Hp} {D : Addr} {acc : List V} {rows : List (List Int)} {o : HO} (hD : H D = some (.lst acc)) (e : ∀ a xs, H a = some (.tup xs) → H' a = some (.tup xs)) {vs : List V} (p : Paired (TI H) vs rows) : Paired (TI (upd H' D o)) vs rows :=
  paired_mono (fun x r h => by
    obtain ⟨z, rfl, hz⟩ := h
    exact ⟨z, rfl, by rw [upd_ne (ne_of hD hz (by intro q; cases q)).symm]; exact e _ _ hz⟩) p
end Lk

/-! ## LkR -/
set_option Elab.async false
set_option linter.all false
set_option maxRecDepth 100000
set_option maxHeartbeats 2000000
/-! The laws' draws: a row of four, the script first. -/
namespace Lk
open PySem PySem.Spec PyProof.Rows L2 Gx
open GxR (TabG Tabbed TabB)
variable [Own]
/-- as Ext, but for the list at r -/
structure ExtB (r : Addr) (H H' : Hp) : Prop where
  keep : ∀ a o, a ≠ r → H a = some o → isTbl o = false → H' a = some o
  tab : ∀ P, TabG H P → TabG H' P
  tb : ∀ a o, H a = some o → ∃ o', H' a = some o'
  own : ∀ P ps, Own.own P → H P = some (.tbl ps) → H' P = some (.tbl ps)
theorem Ext.b {r : Addr} {H H' : Hp} (e : Ext H H') : ExtB r H H' := ⟨fun a o _ h q => e.keep a o h q, e.tab, e.tb, e.own⟩
theorem ExtB.refl (r : Addr) (H : Hp) : ExtB r H H := (Ext.refl H).b
theorem ExtB.trans {r : Addr} {H H1 H2 : Hp} (a : ExtB r H H1) (b : ExtB r H1 H2) : ExtB r H H2 := ⟨fun c o n h q => b.keep c o n (a.keep c o n h q) q, fun P h => b.tab P (a.tab P h), fun c o h => by
  obtain ⟨o', h'⟩ := a.tb c o h
  exact b.tb c o' h', fun P ps o h => b.own P ps o (a.own P ps o h)⟩
theorem ExtB.upd {r : Addr} {H : Hp} {xs ys : List V} (h : H r = some (.lst xs)) : ExtB r H (upd H r (.lst ys)) := ⟨fun a o n e _ => by rw [upd_ne n]; exact e, fun P ⟨ps, e, t⟩ => ⟨ps, by rw [upd_ne (ne_of h e (by intro z; cases z)).symm]; exact e, t⟩, fun a o e => by
  by_cases z : a = r
  · exact ⟨_, by rw [z]; exact upd_same⟩
  · exact ⟨o, by rw [upd_ne z]; exact e⟩, fun P ps _ e => by rw [upd_ne (ne_of h e (by intro z; cases z)).symm]; exact e⟩
theorem ExtB.free {r : Addr} {H H' : Hp} (e : ExtB r H H') {l : Addr} (h : H' l = none) : H l = none := by
  cases q : H l with
  | none => rfl
  | some o =>
    obtain ⟨o', h'⟩ := e.tb l o q
    rw [h] at h'
    cases h'
section
variable {r : Addr} {H H' : Hp} {rs : List V}
theorem ExtB.tup (e : ExtB r H H') (hr : H r = some (.lst rs)) {a : Addr} {xs : List V} (h : H a = some (.tup xs)) : H' a = some (.tup xs) := e.keep _ _ (ne_of hr h (by intro z; cases z)).symm h rfl
theorem ExtB.lst (e : ExtB r H H') {a : Addr} {xs : List V} (n : a ≠ r) (h : H a = some (.lst xs)) : H' a = some (.lst xs) := e.keep _ _ n h rfl
theorem TI.extB (e : ExtB r H H') (hr : H r = some (.lst rs)) {v : V} {ns : List Int} (h : TI H v ns) : TI H' v ns := by
  obtain ⟨a, q, h⟩ := h
  exact ⟨a, q, e.tup hr h⟩
theorem pTI.extB (e : ExtB r H H') (hr : H r = some (.lst rs)) {vs : List V} {rows : List (List Int)} (h : Paired (TI H) vs rows) : Paired (TI H') vs rows := paired_mono (fun _ _ h => h.extB e hr) h
theorem TT2.extB (e : ExtB r H H') (hr : H r = some (.lst rs)) {v : V} {rows : List (List Int)} (h : TT2 H v rows) : TT2 H' v rows := by
  obtain ⟨a, vs, q, h, p⟩ := h
  exact ⟨a, vs, q, e.tup hr h, pTI.extB e hr p⟩
theorem WebAt.extB (e : ExtB r H H') (hr : H r = some (.lst rs)) {v : V} {W : Web} (h : WebAt H v W) : WebAt H' v W := by
  obtain ⟨a, t, l, q, h, p1, p2⟩ := h
  exact ⟨a, t, l, q, e.tup hr h, p1.extB e hr, p2.extB e hr⟩
theorem Tabs.extB {Ps : List Addr} (t : Tabs Ps H) (e : ExtB r H H') : Tabs Ps H' := fun P h => e.tab P (t P h)
end
/-- the rest of a row of draws -/
structure Dr where
  pos : Nat
  rest : Int
  cell : Int
structure Dr.Ok (d : Dr) : Prop where
  r0 : 0 ≤ d.rest
  r1 : d.rest < 2147483647
  c0 : 0 ≤ d.cell
theorem SqL.extB {K : PySem.W.Frag} {r : Addr} {H H' : Hp} (e : ExtB r H H') {a : Addr} {xs : List V} (n : a ≠ r) (h : SqL K H a xs) : SqL K H' a xs := by
  rcases h with (h | ⟨o, h⟩) | h
  · exact .inl (.inl (e.keep _ _ n h rfl))
  · exact .inl (.inr ⟨o, e.keep _ _ n h rfl⟩)
  · exact .inr h
theorem SqL.ext {K : PySem.W.Frag} {H H' : Hp} (e : Ext H H') {a : Addr} {xs : List V} (h : SqL K H a xs) : SqL K H' a xs := by
  rcases h with (h | ⟨o, h⟩) | h
  · exact .inl (.inl (e.keep _ _ h rfl))
  · exact .inl (.inr ⟨o, e.keep _ _ h rfl⟩)
  · exact .inr h
/-- the script, that is no row -/
def ScrAt (K : PySem.W.Frag) (H : Hp) (r sc : Addr) (xs : List V) : Prop := (SqL K H sc xs ∧ sc ≠ r) ∨ ∀ H' : Hp, SqL K H' sc xs
theorem ScrAt.sql {K : PySem.W.Frag} {H : Hp} {r sc : Addr} {xs : List V} (h : ScrAt K H r sc xs) : SqL K H sc xs := by
  rcases h with h | h
  · exact h.1
  · exact h H
theorem ScrAt.extB {K : PySem.W.Frag} {H H' : Hp} {r sc : Addr} {xs : List V} (h : ScrAt K H r sc xs) (e : ExtB r H H') : ScrAt K H' r sc xs := by
  rcases h with ⟨h, n⟩ | h
  · exact .inl ⟨SqL.extB e n h, n⟩
  · exact .inr h
theorem ScrAt.new {K : PySem.W.Frag} {H : Hp} {r sc : Addr} {xs : List V} (h : SqL K H sc xs) (hr : H r = none) (o : HO) : ScrAt K (L2.upd H r o) r sc xs := by
  rcases h with (h | ⟨o', h⟩) | h
  · have n := ne_of_none h hr
    exact .inl ⟨.inl (.inl (by rw [upd_ne n]; exact h)), n⟩
  · have n := ne_of_none h hr
    exact .inl ⟨.inl (.inr ⟨o', by rw [upd_ne n]; exact h⟩), n⟩
  · exact .inr fun _ => .inr h
/-- at a list that stands not in H0 -/
theorem ScrAt.put {K : PySem.W.Frag} {H H0 : Hp} {r sc D : Addr} {xs : List V} (h : ScrAt K H r sc xs) (h0 : ScrAt K H0 r sc xs) (q : H0 D = none) (o : HO) : ScrAt K (L2.upd H D o) r sc xs := by
  rcases h0 with ⟨h0, n0⟩ | h0
  · rcases h0 with (h1 | ⟨o1, h1⟩) | h1
    · have n := ne_of_none h1 q
      refine .inl ⟨?_, n0⟩
      rcases h.sql with (h2 | ⟨o2, h2⟩) | h2
      · exact .inl (.inl (by rw [upd_ne n]; exact h2))
      · exact .inl (.inr ⟨o2, by rw [upd_ne n]; exact h2⟩)
      · exact .inr h2
    · have n := ne_of_none h1 q
      refine .inl ⟨?_, n0⟩
      rcases h.sql with (h2 | ⟨o2, h2⟩) | h2
      · exact .inl (.inl (by rw [upd_ne n]; exact h2))
      · exact .inl (.inr ⟨o2, by rw [upd_ne n]; exact h2⟩)
      · exact .inr h2
    · exact .inr fun _ => .inr h1
  · exact .inr h0
/-- the row stands -/
structure RowAt (K : PySem.W.Frag) (H : Hp) (r sc : Addr) (ns : List Int) (d : Dr) : Prop where
  row : H r = some (.lst [.ref sc, .int d.pos, .int d.rest, .int d.cell])
  scr : ScrAt K H r sc (iv ns)
  len : ns.length ≤ 63
  ok : d.Ok
theorem RowAt.ext {K : PySem.W.Frag} {H H' : Hp} {r sc : Addr} {ns : List Int} {d : Dr} (h : RowAt K H r sc ns d) (e : Ext H H') : RowAt K H' r sc ns d := ⟨e.lst h.row, h.scr.extB e.b, h.len, h.ok⟩
theorem RowAt.extB {K : PySem.W.Frag} {H H' : Hp} {r sc : Addr} {ns : List Int} {d d' : Dr} (h : RowAt K H r sc ns d) (e : ExtB r H H') (hr : H' r = some (.lst [.ref sc, .int d'.pos, .int d'.rest, .int d'.cell])) (ok : d'.Ok) : RowAt K H' r sc ns d' := ⟨hr, h.scr.extB e, h.len, ok⟩
/-- one draw -/
def drawn (ns : List Int) (d : Dr) (m : Int) : Int × Dr :=
  if 0 < d.cell then (d.cell % m, { d with cell := d.cell / m })
  else if ns.length < d.pos + 1 then ((d.rest * 48271 + 11) % 2147483647 / 7 % m, { d with pos := d.pos + 1, rest := (d.rest * 48271 + 11) % 2147483647 })
  else ((ns.getD d.pos 0) % m, { pos := d.pos + 1, rest := (d.rest * 48271 + ns.getD d.pos 0 + 11) % 2147483647, cell := if 10 ^ 18 ≤ ns.getD d.pos 0 then ns.getD d.pos 0 / m else d.cell })
theorem drawn_bd {ns : List Int} {d : Dr} {m : Int} (h : 0 < m) : 0 ≤ (drawn ns d m).1 ∧ (drawn ns d m).1 < m := by
  unfold drawn
  split
  · exact ⟨Int.emod_nonneg _ (by omega), Int.emod_lt_of_pos _ h⟩
  · split
    · exact ⟨Int.emod_nonneg _ (by omega), Int.emod_lt_of_pos _ h⟩
    · exact ⟨Int.emod_nonneg _ (by omega), Int.emod_lt_of_pos _ h⟩
theorem drawn_ok {ns : List Int} {d : Dr} {m : Int} (h : 0 < m) (ok : d.Ok) : (drawn ns d m).2.Ok := by
  have h1 := ok.r0
  have h2 := ok.r1
  have h3 := ok.c0
  unfold drawn
  split
  · exact ⟨h1, h2, Int.ediv_nonneg h3 (by omega)⟩
  · split
    · exact ⟨Int.emod_nonneg _ (by omega), Int.emod_lt_of_pos _ (by omega), h3⟩
    · refine ⟨Int.emod_nonneg _ (by omega), Int.emod_lt_of_pos _ (by omega), ?_⟩
      show 0 ≤ (if 10 ^ 18 ≤ ns.getD d.pos 0 then ns.getD d.pos 0 / m else d.cell)
      split
      · rename_i hh
        exact Int.ediv_nonneg (by omega) (by omega)
      · exact h3
end Lk

/-! ## D20 -/
set_option Elab.async false
set_option linter.all false
set_option maxRecDepth 100000
set_option maxHeartbeats 2000000
namespace Lk
open PySem PySem.Spec PyProof.Rows L2 Gx
open GxR (TabG Tabbed TabB)
variable [Own]
abbrev s__law_taken : Stmt := top 41
theorem sc__law_taken : FnScope ["row", "many", "found", "cell"] ["row", "many"] (defScope s__law_taken) := ⟨rfl, rfl, rfl, by decide +kernel, rfl, by decide +kernel, by decide +kernel⟩
/-- a row of draws stands -/
def Rw (K : PySem.W.Frag) (H : Hp) (r sc : Addr) (ns : List Int) : Prop := ∃ d, RowAt K H r sc ns d
theorem Rw.lst {K : PySem.W.Frag} {H : Hp} {r sc : Addr} {ns : List Int} (h : Rw K H r sc ns) : ∃ rs, H r = some (.lst rs) := by
  obtain ⟨_, h⟩ := h
  exact ⟨_, h.row⟩
theorem Rw.ext {K : PySem.W.Frag} {H H' : Hp} {r sc : Addr} {ns : List Int} (h : Rw K H r sc ns) (e : Ext H H') : Rw K H' r sc ns := by
  obtain ⟨_, h⟩ := h
  exact ⟨_, h.ext e⟩
def spTaken (K : PySem.W.Frag) : Sp := fun vs H Q _ => ∃ (r sc : Addr) (ns : List Int) (m : Int), vs = [.ref r, .int m] ∧ Rw K H r sc ns ∧ (0 < m ∧ m < 1000000) ∧
  ∀ H' i, ExtB r H H' → Rw K H' r sc ns → (∀ a, a ≠ r → H' a = H a) → (0 ≤ i ∧ i < m) → Q (.int i) H'
section
variable {P : Program} {w : World} {K : PySem.W.Frag} {mg : Str → Option Value} {base : Heap} {Ps : List Addr}
theorem ok_taken {f : Addr} {fd : FuncData} (F : Fun K "_law_taken" "_law_taken" s__law_taken f fd) (B : Blt mg) : FnOk P w K mg base CX0 1 f fd ["row", "many"] (spTaken K) := by
  refine F.ok sc__law_taken (fun vs H Q E h => ?_) (fun cdv A outer s0 H vs Q E hr h => ?_)
  · obtain ⟨r, sc, ns, m, rfl, _⟩ := h
    rfl
  · obtain ⟨r, sc, ns, m, rfl, ⟨d, hR⟩, hm, k0⟩ := h
    have k : ∀ H', ExtB r H H' → RowAt K H' r sc ns (drawn ns d m).2 → (∀ a, a ≠ r → H' a = H a) → Q (.int (drawn ns d m).1) H' := fun H' e q t => k0 H' _ e ⟨_, q⟩ t (drawn_bd hm.1)
    refine ⟨_, (pss_cons (ps_if (pt_cmpR op_gt (pe_ix ix_lT (pv 0) pe_int (fun _ _ => rfl)) pe_int (nomark _))
        (pss_cons (ps_set (i := 2) sc__law_taken.nd rfl (by first | exact Or.inl rfl | exact Or.inr rfl) (pe_op op_mod (pe_callTy call_int1 (by rfl) B.int boot_tyInt (pa_cons (pe_ix ix_lT (pv 0) pe_int (fun _ _ => rfl)) pa_nil)) (pv 1)))
        (pss_cons (ps_asg (pe_op op_fdiv (pe_ix ix_lT (pv 0) pe_int (fun _ _ => rfl)) (pv 1)) (pg_sub (pv 0) pe_int set_list))
        (pss_one (ps_ret (pv 2))))) pss_nil)
      (pss_cons (ps_asg (pe_op op_add (pe_ix ix_lT (pv 0) pe_int (fun _ _ => rfl)) pe_int) (pg_sub (pv 0) pe_int set_list))
      (pss_cons (ps_if (pt_cmpR op_gt (pe_ix ix_lT (pv 0) pe_int (fun _ _ => rfl)) (pe_callB call_len_seq (by rfl) B.len PySem.boot_len (pa_cons (pe_ix ix_lT (pv 0) pe_int (fun _ _ => rfl)) pa_nil)) (nomark _))
        (pss_cons (ps_asg (pe_op op_mod (pe_callTy call_int1 (by rfl) B.int boot_tyInt (pa_cons (pe_op op_add (pe_op op_mul (pe_ix ix_lT (pv 0) pe_int (fun _ _ => rfl)) pe_int) pe_int) pa_nil)) pe_int) (pg_sub (pv 0) pe_int set_list))
        (pss_one (ps_ret (pe_op op_mod (pe_callTy call_int1 (by rfl) B.int boot_tyInt (pa_cons (pe_op op_fdiv (pe_ix ix_lT (pv 0) pe_int (fun _ _ => rfl)) pe_int) pa_nil)) (pv 1))))) pss_nil)
      (pss_cons (ps_set (i := 3) sc__law_taken.nd rfl (by first | exact Or.inl rfl | exact Or.inr rfl) (pe_ix ix_list (pe_ix ix_lT (pv 0) pe_int (fun _ _ => rfl)) (pe_op op_sub (pe_ix ix_lT (pv 0) pe_int (fun _ _ => rfl)) pe_int) (fun _ _ => rfl)))
      (pss_cons (ps_asg (pe_op op_mod (pe_callTy call_int1 (by rfl) B.int boot_tyInt (pa_cons (pe_op op_add (pe_op op_add (pe_op op_mul (pe_ix ix_lT (pv 0) pe_int (fun _ _ => rfl)) pe_int) (pv 3)) pe_int) pa_nil)) pe_int) (pg_sub (pv 0) pe_int set_list))
      (pss_cons (ps_if (pt_cmpR op_ge (pv 3) (pe_op op_pow pe_int pe_int) (nomark _))
        (pss_one (ps_asg (pe_op op_fdiv (pv 3) (pv 1)) (pg_sub (pv 0) pe_int set_list))) pss_nil)
      (pss_one (ps_ret (pe_op op_mod (pe_callTy call_int1 (by rfl) B.int boot_tyInt (pa_cons (pv 3) pa_nil)) (pv 1)))))))))), ?_⟩
    have h1 := hR.ok.r0
    have h2 := hR.ok.r1
    have h3 := hR.ok.c0
    have k1 := k
    refine ⟨_, rfl, r, _, _, _, rfl, rfl, hR.row, rfl, _, _, rfl, rfl, _, rfl, ?_⟩
    unfold drawn at k1
    by_cases hc : 0 < d.cell
    · rw [if_pos hc] at k1
      rw [decide_eq_true hc]
      refine iteT ?_
      refine ⟨_, rfl, r, _, _, _, rfl, rfl, hR.row, rfl, .inl ⟨_, rfl, _, rfl, _, _, rfl, rfl, hm.1, ?_⟩⟩
      refine ⟨_, rfl, r, _, _, _, rfl, rfl, hR.row, rfl, _, rfl, _, _, rfl, rfl, ⟨hm.1, by omega⟩, _, rfl, r, _, _, _, rfl, rfl, hR.row, rfl, _, rfl, ?_⟩
      exact k1 _ (ExtB.upd hR.row) (hR.extB (ExtB.upd hR.row) upd_same ⟨h1, h2, Int.ediv_nonneg h3 (by omega)⟩) fun a ha => upd_ne ha
    · rw [if_neg hc] at k1
      rw [decide_eq_false hc]
      refine iteF ?_
      refine ⟨_, rfl, r, _, _, _, rfl, rfl, hR.row, rfl, _, _, rfl, rfl, _, rfl, r, _, _, _, rfl, rfl, hR.row, rfl, ?_⟩
      have b1 := ExtB.upd (ys := [V.ref sc, .int ((d.pos : Int) + 1), .int d.rest, .int d.cell]) hR.row
      have r1 : (upd H r (.lst [V.ref sc, .int ((d.pos : Int) + 1), .int d.rest, .int d.cell])) r = some (.lst [V.ref sc, .int ((d.pos : Int) + 1), .int d.rest, .int d.cell]) := upd_same
      have s1 := (hR.scr.extB b1).sql
      refine ⟨_, rfl, r, _, _, _, rfl, rfl, r1, rfl, _, rfl, r, _, _, _, rfl, rfl, r1, rfl, sc, _, rfl, .inl s1, _, _, rfl, rfl, _, rfl, ?_⟩
      have eL : decide (((iv ns).length : Int) < (d.pos : Int) + 1) = decide (ns.length < d.pos + 1) := by
        rw [iv_len]
        exact decide_eq_decide.mpr (by omega)
      rw [eL]
      by_cases hL : ns.length < d.pos + 1
      · rw [if_pos hL] at k1
        rw [decide_eq_true hL]
        refine iteT ?_
        refine ⟨_, rfl, r, _, _, _, rfl, rfl, r1, rfl, _, _, rfl, rfl, .inl ⟨by omega, by omega⟩, _, _, rfl, rfl, .inl ⟨_, rfl, _, _, rfl, rfl, (show (0 : Int) < 2147483647 by decide), ?_⟩⟩
        refine ⟨_, rfl, r, _, _, _, rfl, rfl, r1, rfl, ?_⟩
        have eu : ∀ z w : HO, upd (upd H r z) r w = upd H r w := fun z w => upd_upd
        rw [eu]
        refine ⟨_, rfl, r, _, _, _, rfl, rfl, upd_same, rfl, _, _, rfl, rfl, ⟨by decide, by decide⟩, .inl ⟨_, rfl, _, rfl, _, _, rfl, rfl, hm.1, ?_⟩⟩
        exact k1 _ (ExtB.upd hR.row) (hR.extB (ExtB.upd hR.row) upd_same ⟨Int.emod_nonneg _ (by omega), Int.emod_lt_of_pos _ (by omega), h3⟩) fun a ha => upd_ne ha
      · rw [if_neg hL] at k1
        rw [decide_eq_false hL]
        refine iteF ?_
        have hp : ns[d.pos]? = some (ns.getD d.pos 0) := by rw [List.getD_eq_getElem?_getD, List.getElem?_eq_getElem (by omega)]; rfl
        generalize ns.getD d.pos 0 = cell at hp k1
        refine ⟨_, rfl, r, _, _, _, rfl, rfl, r1, rfl, _, rfl, r, _, _, _, rfl, rfl, r1, rfl, _, _, rfl, rfl, sc, _, _, _, rfl, rfl, s1, at_of (j := d.pos) (by omega) (iv_at hp), ?_⟩
        refine ⟨_, rfl, r, _, _, _, rfl, rfl, r1, rfl, _, _, rfl, rfl, .inl ⟨by omega, by omega⟩, _, rfl, _, _, rfl, rfl, _, _, rfl, rfl, .inl ⟨_, rfl, _, _, rfl, rfl, (show (0 : Int) < 2147483647 by decide), ?_⟩⟩
        refine ⟨_, rfl, r, _, _, _, rfl, rfl, r1, rfl, ?_⟩
        have eu : ∀ z w : HO, upd (upd H r z) r w = upd H r w := fun z w => upd_upd
        rw [eu]
        refine ⟨_, rfl, _, _, rfl, rfl, ⟨by decide, by decide, by decide⟩, _, _, rfl, rfl, _, rfl, ?_⟩
        have e18 : (10 : Int) ^ (18 : Int).toNat = 10 ^ 18 := rfl
        rw [e18]
        have i1 : 0 ≤ (d.rest * 48271 + cell + 11) % 2147483647 := Int.emod_nonneg _ (by omega)
        have i2 : (d.rest * 48271 + cell + 11) % 2147483647 < 2147483647 := Int.emod_lt_of_pos _ (by omega)
        by_cases h18 : 10 ^ 18 ≤ cell
        · rw [if_pos h18] at k1
          rw [decide_eq_true h18]
          refine iteT ?_
          refine ⟨_, rfl, _, rfl, _, _, rfl, rfl, ⟨hm.1, by omega⟩, _, rfl, r, _, _, _, rfl, rfl, upd_same, rfl, ?_⟩
          rw [eu]
          refine ⟨_, rfl, .inl ⟨_, rfl, _, rfl, _, _, rfl, rfl, hm.1, ?_⟩⟩
          exact k1 _ (ExtB.upd hR.row) (hR.extB (ExtB.upd hR.row) upd_same ⟨i1, i2, Int.ediv_nonneg (by omega) (by omega)⟩) fun a ha => upd_ne ha
        · rw [if_neg h18] at k1
          rw [decide_eq_false h18]
          refine iteF ?_
          refine ⟨_, rfl, .inl ⟨_, rfl, _, rfl, _, _, rfl, rfl, hm.1, ?_⟩⟩
          exact k1 _ (ExtB.upd hR.row) (hR.extB (ExtB.upd hR.row) upd_same ⟨i1, i2, h3⟩) fun a ha => upd_ne ha
end
end Lk

/-! ## D05 -/
set_option Elab.async false
set_option linter.all false
set_option maxRecDepth 100000
set_option maxHeartbeats 2000000
namespace Lk
open PySem PySem.Spec PyProof.Rows L2 Gx
open GxR (TabG Tabbed TabB)
variable [Own]
/-- the moods up to a top -/
def moods (t : Int) : List Int := (List.range (t + 1).toNat).map fun k : Nat => (k : Int)
def rowsStep (rows : List (List Int)) (t : Int) : List (List Int) := rows.flatMap fun r => (moods t).map fun m => r ++ [m]
/-- all rows of moods up to these tops -/
def rowsOf (tops : List Int) : List (List Int) := tops.foldl rowsStep [[]]
theorem moods_len (t : Int) : (moods t).length = (t + 1).toNat := by unfold moods; rw [List.length_map, List.length_range]
theorem rowsStep_len (rows : List (List Int)) (t : Int) : (rowsStep rows t).length = rows.length * (t + 1).toNat := by
  unfold rowsStep
  induction rows with
  | nil => simp
  | cons r rs ih =>
    rw [List.flatMap_cons, List.length_append, ih, List.length_map, moods_len, List.length_cons, Nat.add_mul, Nat.one_mul, Nat.add_comm]
theorem rows_len4 {tops : List Int} (h : ∀ t ∈ tops, t ≤ 3) : ∀ rows : List (List Int), (tops.foldl rowsStep rows).length ≤ rows.length * 4 ^ tops.length := by
  induction tops with
  | nil => intro rows; simp
  | cons t ts ih =>
    intro rows
    have h1 := ih (fun u hu => h u (List.mem_cons_of_mem _ hu)) (rowsStep rows t)
    rw [rowsStep_len] at h1
    have h2 : (t + 1).toNat ≤ 4 := by
      have := h t (List.mem_cons_self ..)
      omega
    rw [List.foldl_cons, List.length_cons, Nat.pow_succ]
    refine Nat.le_trans h1 ?_
    have h3 : rows.length * (t + 1).toNat ≤ rows.length * 4 := Nat.mul_le_mul_left _ h2
    calc rows.length * (t + 1).toNat * 4 ^ ts.length ≤ rows.length * 4 * 4 ^ ts.length := Nat.mul_le_mul_right _ h3
      _ = rows.length * (4 ^ ts.length * 4) := by rw [Nat.mul_assoc, Nat.mul_comm 4]
theorem rows_row {tops : List Int} : ∀ {rows : List (List Int)} {n : Nat}, (∀ r ∈ rows, r.length = n) → ∀ r ∈ tops.foldl rowsStep rows, r.length = n + tops.length := by
  induction tops with
  | nil => intro rows n h r hr; simpa using h r hr
  | cons t ts ih =>
    intro rows n h r hr
    rw [List.foldl_cons] at hr
    have := ih (rows := rowsStep rows t) (n := n + 1) (fun q hq => by
      unfold rowsStep at hq
      obtain ⟨z, hz, hq⟩ := List.mem_flatMap.mp hq
      obtain ⟨m, _, rfl⟩ := List.mem_map.mp hq
      rw [List.length_append, h z hz]
      rfl) r hr
    rw [this, List.length_cons]
    omega
abbrev s_rows_of : Stmt := top 22
theorem sc_rows_of : FnScope ["tops", "rows", "top", "row", "mood"] ["tops"] (defScope s_rows_of) := ⟨rfl, rfl, rfl, by decide +kernel, rfl, by decide +kernel, by decide +kernel⟩
def spRowsOf : Sp := fun vs H Q _ => ∃ (v : V) (tops : List Int), vs = [v] ∧ TI H v tops ∧ tops.length ≤ 6 ∧ (∀ t ∈ tops, 0 ≤ t ∧ t ≤ 3) ∧ ∀ H' p vs, Ext H H' → H p = none → H' p = some (.lst vs) → Paired (TI H') vs (rowsOf tops) → Q (.ref p) H'
theorem foldl_take {α β : Type} {f : α → β → α} {a : α} {l : List β} {i : Nat} {x : β} (h : l[i]? = some x) : (l.take (i + 1)).foldl f a = f ((l.take i).foldl f a) x := by
  rw [List.take_add_one, h]
  simp
theorem flatMap_take {α β : Type} {f : α → List β} {l : List α} {i : Nat} {x : α} (h : l[i]? = some x) : (l.take (i + 1)).flatMap f = (l.take i).flatMap f ++ f x := by
  rw [List.take_add_one, h]
  simp
section
variable {P : Program} {w : World} {K : PySem.W.Frag} {mg : Str → Option Value} {base : Heap} {Ps : List Addr}
theorem ok_rows_of {f : Addr} {fd : FuncData} (F : Fun K "rows_of" "rows_of" s_rows_of f fd) (B : Blt mg) : FnOk P w K mg base CX0 1 f fd ["tops"] spRowsOf := by
  refine F.ok sc_rows_of (fun vs H Q E h => ?_) (fun cdv A outer s H vs Q E hr h => ?_)
  · obtain ⟨v, W, rfl, _⟩ := h
    rfl
  · obtain ⟨v, tops, rfl, ⟨a, rfl, ha⟩, h6, hT, k⟩ := h
    refine ⟨_, (pss_cons (ps_set (i := 1) sc_rows_of.nd rfl (by first | exact Or.inl rfl | exact Or.inr rfl) (pe_lst (pa_cons (pe_tup pa_nil) pa_nil)))
      (pss_cons (ps_for PassesOwn.never rfl (pi_tup (pv 0)) (pg_name (i := 2) sc_rows_of.nd rfl (by first | exact Or.inl rfl | exact Or.inr rfl))
        (pss_one (ps_setLc2 (i := 1) (own := [("row", 3), ("mood", 4)]) (vs1 := [4]) rfl sc_rows_of.nd rfl rfl (sw_true rfl rfl rfl (by decide +kernel)) (pi_list (pv 1)) (blkOk_by (N := ["tops", "rows", "top", "row", "mood"]) (sc := defScope s_rows_of) (by decide +kernel)) (by decide) (fun _ _ _ _ _ => (pg_name (i := 3) sc_rows_of.nd rfl (by first | exact Or.inl rfl | exact Or.inr rfl))) (fun _ _ _ _ _ => pts_nil) (fun _ _ _ _ _ => (pi_range1 (by rfl) B.range (pa_cons (pe_op op_add (pv 2) pe_int) pa_nil))) (fun _ _ _ _ _ => (pg_name (i := 4) sc_rows_of.nd rfl (by first | exact Or.inl rfl | exact Or.inr rfl))) (fun _ _ _ _ _ => pts_nil) (fun _ _ _ _ _ => (pe_op op_catTT (pv 3) (pe_tup (pa_cons (pv 4) pa_nil)))))))
      (pss_one (ps_ret (pv 1))))), ?_⟩
    have rl : ∀ i, ((tops.take i).foldl rowsStep [[]]).length ≤ 4096 := fun i => by
      have h1 := rows_len4 (tops := tops.take i) (fun t ht => (hT t (List.mem_of_mem_take ht)).2) [[]]
      have h2 : 4 ^ (tops.take i).length ≤ 4 ^ 6 := Nat.pow_le_pow_right (by decide) (by rw [List.length_take]; omega)
      simp only [List.length_singleton, Nat.one_mul] at h1
      exact Nat.le_trans h1 h2
    refine ⟨(by show 0 ≤ sizeLine; decide), fun q hq => ⟨(by show 1 ≤ sizeLine; decide), fun p hp => ?_⟩⟩
    have hpq : p ≠ q := fun z => by rw [z, upd_same] at hp; cases hp
    have hp0 : H p = none := by rw [upd_ne hpq] at hp; exact hp
    have E1 : Ext H (upd (upd H q (.tup [])) p (.lst [.ref q])) := (Ext.new hq _).trans (Ext.new hp _)
    refine ⟨_, rfl, a, rfl, ⟨_, SqT.of (E1.tup ha)⟩, for_tup (K := K) (a := a) (xs := iv tops) (fun i σ H' => ∃ (r : Addr) (vs : List V) (o2 o3 o4 : Option V), σ = [some (.ref a), some (.ref r), o2, o3, o4] ∧ Ext H H' ∧ H r = none ∧ H' r = some (.lst vs) ∧ Paired (TI H') vs ((tops.take i).foldl rowsStep [[]]))
      ⟨p, _, none, none, none, rfl, E1, hp0, upd_same, .cons ⟨q, rfl, by rw [upd_ne hpq.symm]; exact upd_same⟩ .nil⟩ (fun i σ H' _ ⟨_, _, _, _, _, _, e, _⟩ => SqT.of (e.tup ha)) ?_ ?_⟩
    · rintro i x σ H' hi ⟨r, vs, o2, o3, o4, rfl, e, hr0, hvs, hpv⟩
      obtain ⟨t, ht, rfl⟩ := iv_get hi
      have hb := hT t (List.mem_of_getElem? ht)
      have lvs : vs.length ≤ 4096 := by rw [paired_len hpv]; exact rl i
      refine ⟨_, rfl, r, rfl, ⟨_, SqL.of hvs⟩, fun D hD => ?_⟩
      have hDr : D ≠ r := fun z => by rw [z, hvs] at hD; cases hD
      have D0 : H D = none := e.free hD
      refine lc2_out (walk_list (K := K) (a := r) (xs := vs)) (fun j H2 => ∃ acc, H2 D = some (.lst acc) ∧ Ext H' H2 ∧ acc.length = j * (t + 1).toNat ∧ Paired (TI H2) acc ((((tops.take i).foldl rowsStep [[]]).take j).flatMap fun r => (moods t).map fun m => r ++ [m])) ⟨[], upd_same, Ext.new hD _, by simp, .nil⟩ (fun j H2 _ ⟨_, _, e2, _⟩ => SqL.of (e2.lst hvs)) (fun j x H2 H3 hj ⟨acc, hacc, e2, hl, hp2⟩ y => ?_) fun H2 ⟨acc, hacc, e2, hl, hp2⟩ => ?_
      · obtain ⟨e3, hx⟩ := y
        subst e3
        obtain ⟨row, hrow, hx2⟩ := paired_get' (pTI.ext e2 hpv) hx
        obtain ⟨z, rfl, hz⟩ := hx2
        refine ⟨rfl, yes ?_⟩
        refine ⟨_, rfl, _, _, rfl, rfl, t + 1, rfl, by omega, by omega, ?_⟩
        refine lc2_in (walk_range (lo := 0) (n := (t + 1).toNat)) (fun m H4 => ∃ acc2, H4 D = some (.lst acc2) ∧ Ext H' H4 ∧ acc2.length = j * (t + 1).toNat + m ∧ Paired (TI H4) acc2 (((((tops.take i).foldl rowsStep [[]]).take j).flatMap fun r => (moods t).map fun m => r ++ [m]) ++ ((moods t).take m).map fun m => row ++ [m])) ⟨acc, hacc, e2, by omega, by simpa using hp2⟩ (fun _ _ _ _ => trivial) (fun m x H4 H5 hm ⟨acc2, hacc2, e4, hl2, hp4⟩ y => ?_) fun H4 ⟨acc2, hacc2, e4, hl2, hp4⟩ => ?_
        · obtain ⟨e5, ex⟩ := y
          subst e5
          have ex' : x = V.int (m : Int) := ex.trans (by show V.int (0 + ((m : Nat) : Int)) = _; rw [Int.zero_add])
          subst ex'
          have hz4 : H5 z = some (.tup (iv row)) := by
            obtain ⟨row', hrow', z', ez, hz'⟩ := paired_get' (pTI.ext e4 hpv) hx
            cases ez
            rw [hrow] at hrow'
            cases hrow'
            exact hz'
          have rowlen : row.length ≤ 6 := by
            have h1 := rows_row (tops := tops.take i) (rows := [[]]) (n := 0) (fun r hr => by rw [List.mem_singleton.mp hr]; rfl) row (List.mem_of_getElem? hrow)
            rw [h1, List.length_take]
            omega
          have hm' : m < (t + 1).toNat := hm
          have hjv : j < vs.length := hj
          have lb : acc2.length < 20000 := by
            rw [hl2]
            have h3 : (t + 1).toNat ≤ 4 := by omega
            have h4 : j * (t + 1).toNat ≤ j * 4 := Nat.mul_le_mul_left _ h3
            omega
          have fin : ∀ (H7 : Hp) (y : V), Ext H5 H7 → H7 D = some (.lst acc2) → TI H7 y (row ++ [(m : Int)]) → ∃ acc, H7 D = some (.lst acc) ∧ acc.length < sizeLine ∧ ∃ acc3, (upd H7 D (.lst (acc ++ [y]))) D = some (.lst acc3) ∧ Ext H' (upd H7 D (.lst (acc ++ [y]))) ∧ acc3.length = j * (t + 1).toNat + (m + 1) ∧
              Paired (TI (upd H7 D (.lst (acc ++ [y])))) acc3 (((((tops.take i).foldl rowsStep [[]]).take j).flatMap fun r => (moods t).map fun m => r ++ [m]) ++ ((moods t).take (m + 1)).map fun m => row ++ [m]) := by
            intro H7 y e7 h7 hy
            refine ⟨acc2, h7, Nat.lt_of_lt_of_le lb (by decide), acc2 ++ [y], upd_same, (e4.trans e7).put hD _, by rw [List.length_append, hl2]; simp; omega, ?_⟩
            have em : (moods t)[m]? = some (m : Int) := by
              unfold moods
              rw [List.getElem?_map, List.getElem?_range hm']
              rfl
            rw [List.take_add_one, em, List.map_append, ← List.append_assoc]
            refine pTI.put (H := H7) h7 (fun _ _ h => h) (paired_snoc hy (pTI.ext e7 hp4))
          refine ⟨rfl, yes ?_⟩
          refine ⟨_, rfl, _, rfl, (by show 1 ≤ sizeLine; decide), fun u hu => ?_⟩
          have hzu : z ≠ u := ne_of_none hz4 hu
          have hDu : D ≠ u := ne_of_none hacc2 hu
          refine ⟨z, u, iv row, _, rfl, rfl, by rw [upd_ne hzu]; exact hz4, upd_same, by rw [iv_len]; show row.length + 1 ≤ sizeLine; exact Nat.le_of_lt (small1000 (by omega)), fun e0 => ?_, (fun _ e0 => by cases e0), fun e0 _ v hv => ?_⟩
          · refine fin _ _ (Ext.new hu _) (by rw [upd_ne hDu]; exact hacc2) ⟨u, rfl, ?_⟩
            have r0 : row = [] := by
              cases row with
              | nil => rfl
              | cons a b => cases e0
            rw [upd_same, r0]
            rfl
          · have hDv : D ≠ v := fun z => by rw [z] at hDu hacc2; rw [upd_ne hDu, hacc2] at hv; cases hv
            refine fin _ _ ((Ext.new hu _).trans (Ext.new hv _)) (by rw [upd_ne hDv, upd_ne hDu]; exact hacc2) ⟨v, rfl, ?_⟩
            rw [upd_same]
            show some (HO.tup (iv row ++ [V.int (m : Int)])) = _
            unfold iv
            rw [List.map_append]
            rfl
        · refine ⟨acc2, hacc2, e4, by rw [hl2, Nat.add_mul, Nat.one_mul], ?_⟩
          have hm2 : (moods t).take (t + 1).toNat = moods t := List.take_of_length_le (by rw [moods_len]; exact Nat.le_refl _)
          rw [hm2] at hp4
          rw [flatMap_take hrow]
          exact hp4
      · refine ⟨D, acc, _, _, _, rfl, e.trans e2, D0, hacc, ?_⟩
        have hj2 : ((tops.take i).foldl rowsStep [[]]).take vs.length = (tops.take i).foldl rowsStep [[]] := List.take_of_length_le (by rw [paired_len hpv]; exact Nat.le_refl _)
        rw [hj2] at hp2
        rw [foldl_take ht]
        exact hp2
    · rintro σ H' ⟨r, vs, o2, o3, o4, rfl, e, hr0, hvs, hpv⟩
      rw [iv_len, List.take_length] at hpv
      exact ⟨_, rfl, k H' r vs e hr0 hvs hpv⟩
end
end Lk

/-! ## D04 -/
set_option Elab.async false
set_option linter.all false
set_option maxRecDepth 100000
set_option maxHeartbeats 2000000
namespace Lk
open PySem PySem.Spec PyProof.Rows L2 Gx
open GxR (TabG Tabbed TabB)
variable [Own]
/-- at whom one looks, with which sign -/
def looksOf (W : Web) (f : Int) : List (Int × Int) := (W.looks.filter fun l => l.2.1 == f).map fun l => (l.1, l.2.2)
def row2 (p : Int × Int) : List Int := [p.1, p.2]
abbrev s_looks_of : Stmt := top 19
theorem sc_looks_of : FnScope ["web", "folk", "_", "looks", "one", "other", "sign"] ["web", "folk"] (defScope s_looks_of) := ⟨rfl, rfl, rfl, by decide +kernel, rfl, by decide +kernel, by decide +kernel⟩
def spLooksOf : Sp := fun vs H Q _ => ∃ (v : V) (W : Web) (f : Int), vs = [v, .int f] ∧ WebAt H v W ∧ W.looks.length ≤ 14 ∧ ∀ H' p vs, Ext H H' → H p = none → H' p = some (.lst vs) → Paired (TI H') vs ((looksOf W f).map row2) → Q (.ref p) H'
theorem take_snoc {α : Type} {l : List α} {i : Nat} {x : α} (h : l[i]? = some x) : l.take (i + 1) = l.take i ++ [x] := by
  rw [List.take_add_one, h]; rfl
section
variable {P : Program} {w : World} {K : PySem.W.Frag} {mg : Str → Option Value} {base : Heap} {Ps : List Addr}
theorem ok_looks_of {f : Addr} {fd : FuncData} (F : Fun K "looks_of" "looks_of" s_looks_of f fd) : FnOk P w K mg base CX0 1 f fd ["web", "folk"] spLooksOf := by
  refine F.ok sc_looks_of (fun vs H Q E h => ?_) (fun cdv A outer s H vs Q E hr h => ?_)
  · obtain ⟨v, W, n, rfl, _⟩ := h
    rfl
  · obtain ⟨v, W, n, rfl, ⟨a, t, l, rfl, ha, ht, ⟨b, ls, rfl, hb, hls⟩⟩, h14, k⟩ := h
    refine ⟨_, (pss_cons (ps_asg (pv 0) (pg_tupT (n := 2) rfl (pgs_cons (pg_name (i := 2) sc_looks_of.nd rfl (by first | exact Or.inl rfl | exact Or.inr rfl)) (pgs_cons (pg_name (i := 3) sc_looks_of.nd rfl (by first | exact Or.inl rfl | exact Or.inr rfl)) pgs_nil))))
      (pss_one (ps_ret (pe_lc (own := [("one", 4), ("other", 5), ("sign", 6)]) rfl sc_looks_of.nd (pi_tup (pv 3)) (blkOk_by (N := ["web", "folk", "_", "looks", "one", "other", "sign"]) (sc := defScope s_looks_of) (by decide +kernel)) (fun _ _ _ _ _ => (pg_tupT (n := 3) rfl (pgs_cons (pg_name (i := 4) sc_looks_of.nd rfl (by first | exact Or.inl rfl | exact Or.inr rfl)) (pgs_cons (pg_name (i := 5) sc_looks_of.nd rfl (by first | exact Or.inl rfl | exact Or.inr rfl)) (pgs_cons (pg_name (i := 6) sc_looks_of.nd rfl (by first | exact Or.inl rfl | exact Or.inr rfl)) pgs_nil))))) (fun _ _ _ _ _ => (pts_one (pt_cmpR op_eq (pv 5) (pv 1) (nomark _)))) (fun _ _ _ _ _ => (pe_tup (pa_cons (pv 4) (pa_cons (pv 6) pa_nil)))))))), ?_⟩
    refine ⟨_, rfl, a, _, rfl, ha, rfl, _, _, rfl, _, _, rfl, rfl, ?_⟩
    refine ⟨_, rfl, b, rfl, ⟨_, SqT.of hb⟩, fun D hD => ?_⟩
    have llen : ls.length = W.looks.length := by rw [paired_len hls, List.length_map]
    refine lc_tup (xs := ls) (fun i H' => ∃ acc, H' D = some (.lst acc) ∧ Ext H H' ∧ acc.length ≤ i ∧ Paired (TI H') acc ((((W.looks.take i).filter fun l => l.2.1 == n).map fun l => (l.1, l.2.2)).map row2)) ⟨[], upd_same, Ext.new hD _, Nat.le_refl _, .nil⟩ (fun i H' _ ⟨_, _, e, _⟩ => SqT.of (e.tup hb)) (fun i x H' hi ⟨acc, hacc, e, hl, hp⟩ => ?_) fun H' ⟨acc, hacc, e, hl, hp⟩ => ?_
    · obtain ⟨row, hrow, hx⟩ := paired_get' (pTI.ext e hls) hi
      obtain ⟨lk, hlk, rfl⟩ : ∃ lk, W.looks[i]? = some lk ∧ row = row3 lk := by
        rw [List.getElem?_map] at hrow
        cases q : W.looks[i]? with
        | none => rw [q] at hrow; cases hrow
        | some lk => rw [q] at hrow; exact ⟨lk, rfl, (Option.some.inj hrow).symm⟩
      obtain ⟨p, rfl, hp1⟩ := hx
      have hi14 : i < 14 := by
        have := (List.getElem?_eq_some_iff.mp hlk).1
        omega
      refine ⟨p, _, rfl, hp1, rfl, _, _, rfl, _, _, rfl, _, _, rfl, rfl, rfl, ?_⟩
      refine ⟨_, rfl, _, rfl, rfl, _, rfl, ?_⟩
      rw [take_snoc hlk, List.filter_append]
      by_cases hf : lk.2.1 = n
      · have e1 : decide (V.int lk.2.1 = V.int n) = true := decide_eq_true (by rw [hf])
        have e2 : (lk.2.1 == n) = true := by rw [hf]; exact beq_self_eq_true n
        rw [e1]
        refine iteT ⟨_, rfl, _, rfl, (by show 2 ≤ sizeLine; decide), fun q hq => ?_⟩
        have dq : D ≠ q := ne_of_none hacc hq
        refine ⟨acc, by rw [upd_ne dq]; exact hacc, small1000 (by omega), acc ++ [.ref q], upd_same, (e.trans (Ext.new hq _)).put hD _, by rw [List.length_append]; simp; omega, ?_⟩
        have F1 : [lk].filter (fun l => l.2.1 == n) = [lk] := by rw [List.filter_cons, if_pos e2]; rfl
        rw [F1, List.map_append, List.map_append]
        refine paired_snoc ⟨q, rfl, by rw [upd_ne dq.symm]; exact upd_same⟩ ?_
        refine paired_mono (fun x r h => ?_) hp
        obtain ⟨z, rfl, hz⟩ := h
        exact ⟨z, rfl, by rw [upd_ne (ne_of hacc hz (by intro q; cases q)).symm, upd_ne (ne_of_none hz hq)]; exact hz⟩
      · have e1 : decide (V.int lk.2.1 = V.int n) = false := decide_eq_false (fun z => hf (by cases z; rfl))
        have e2 : (lk.2.1 == n) = false := by simpa using hf
        rw [e1]
        have F1 : [lk].filter (fun l => l.2.1 == n) = [] := by rw [List.filter_cons, e2]; rfl
        rw [F1, List.append_nil]
        exact iteF ⟨acc, hacc, e, by omega, hp⟩
    · rw [llen, List.take_length] at hp
      exact k H' D acc e hD hacc hp
end
end Lk

/-! ## Seq2 -/
set_option Elab.async false
set_option linter.all false
set_option maxRecDepth 100000
set_option maxHeartbeats 2000000
/-! Walks over a list or a tuple. -/
namespace Lk
open PySem PySem.Spec PyProof.Rows L2 Gx
variable [Own]
/-- a list (true) or a tuple of these -/
def SqB (k : Bool) (H : Hp) (a : Addr) (xs : List V) : Prop := if k = true then H a = some (.lst xs) else H a = some (.tup xs)
theorem SqB.ext {k : Bool} {H H' : Hp} {a : Addr} {xs : List V} (e : Ext H H') (h : SqB k H a xs) : SqB k H' a xs := by
  cases k with
  | true => exact e.lst h
  | false => exact e.tup h
def itB (K : PySem.W.Frag) (k : Bool) (a : Addr) : It := if k = true then Itl K a else Itt K a
def iSeqV (K : PySem.W.Frag) (i : Nat) : L2.TI := fun σ H R => ∃ a, σ[i]? = some (some (.ref a)) ∧ ∃ (k : Bool) (xs : List V), SqB k H a xs ∧ R (itB K k a) H
section
variable {X : Cx} {tg l : Expr}
theorem pi_seqV {i : Nat} (hv : PE X l (tVar i)) : PI X tg l (iSeqV X.K i) := by
  refine ⟨fun pins s σ H R I h => ?_⟩
  obtain ⟨a, e, k, xs, h, r⟩ := h
  cases k with
  | true => exact (pi_list hv).run pins s σ H R I ⟨_, e, a, rfl, ⟨xs, SqL.of h⟩, r⟩
  | false => exact (pi_tup hv).run pins s σ H R I ⟨_, e, a, rfl, ⟨xs, SqT.of h⟩, r⟩
end
theorem for_seq {K : PySem.W.Frag} {k : Bool} {a : Addr} {xs : List V} {g : TG} {tb : TS} {D : Ends} {σ : L2.St} {H : Hp} (Pv : Nat → L2.St → Hp → Prop) (h0 : Pv 0 σ H) (hl : ∀ i σ H, i ≤ xs.length → Pv i σ H → SqB k H a xs)
    (hs : ∀ i x σ H, xs[i]? = some x → Pv i σ H → g x σ H fun σ2 H2 => tb { nx := Pv (i + 1), rt := D.rt, bk := D.nx, ct := Pv (i + 1) } σ2 H2) (hd : ∀ σ H, Pv xs.length σ H → D.nx σ H) :
    ∃ W : Nat → Nat → L2.St → Hp → Prop, (∃ m, W 0 m σ H) ∧ ∀ i m σ H, W i m σ H → (itB K k a).stop i H ∧ D.nx σ H ∨ (itB K k a).go i H ∧
      ∃ N : L2.St → Hp → Prop, (∀ σ' H', N σ' H' → ∃ m', m' < m ∧ W (i + 1) m' σ' H') ∧ ∀ x H', (itB K k a).yld i H x H' → g x σ H' fun σ2 H2 => tb { nx := N, rt := D.rt, bk := D.nx, ct := N } σ2 H2 := by
  cases k with
  | true => exact for_list (K := K) (a := a) (xs := xs) Pv h0 (fun i σ H hi p => SqL.of (hl i σ H hi p)) hs hd
  | false => exact for_tup (K := K) (a := a) (xs := xs) Pv h0 (fun i σ H hi p => SqT.of (hl i σ H hi p)) hs hd
theorem paired_app {α β : Type} {R : α → β → Prop} : ∀ {l l' : List α} {m m' : List β}, Paired R l m → Paired R l' m' → Paired R (l ++ l') (m ++ m')
  | _, _, _, _, .nil, q => q
  | _, _, _, _, .cons r t, q => .cons r (paired_app t q)
end Lk

/-! ## Zip3 -/
set_option Elab.async false
set_option linter.all false
set_option maxRecDepth 100000
set_option maxHeartbeats 2000000
/-! zip of a list and two tuples of one length. -/
namespace Lk
open PySem PySem.Spec PyProof.Rows L2 Gx
variable [Own]
/-- what stands at the three -/
def At3 (a b c : Addr) (H : Hp) (xs ys zs : List V) : Prop := (H a = some (.lst xs) ∧ H b = some (.tup ys) ∧ H c = some (.tup zs)) ∧ ys.length = xs.length ∧ zs.length = xs.length
def Itz3 (a b c : Addr) : It where
  go i H := ∃ xs ys zs, At3 a b c H xs ys zs ∧ i < xs.length
  yld i H v H' := ∃ T x y u, v = .ref T ∧ H T = none ∧ H' = upd H T (.tup [x, y, u]) ∧ ∀ xs ys zs, At3 a b c H xs ys zs → xs[i]? = some x ∧ ys[i]? = some y ∧ zs[i]? = some u
  stop i H := ∃ xs ys zs, At3 a b c H xs ys zs ∧ i = xs.length
theorem vals_arr {xs : List V} {its : List Value} (v : Vals xs its) {i : Nat} {u : Value} (h : its.toArray[i]? = some u) : ∃ x, xs[i]? = some x ∧ L2.RelV x u := by
  have h2 : its[i]? = some u := by simpa using h
  exact paired_get v h2
theorem istup_is {h : Heap} {a : Addr} {arr : Array Value} (q : IsTup h a arr) : h.IsTuple a arr := by
  first
  | exact q
  | (obtain ⟨n, q⟩ := q; exact ⟨_, q, rfl, n, rfl⟩)
  | exact ⟨_, q, rfl, _, rfl⟩
theorem is_istup {h : Heap} {a : Addr} {arr : Array Value} (q : h.IsTuple a arr) (h0 : ∀ o, h.get? a = some o → o.cls = .type "tuple" → True) : IsTup h a arr := by
  first
  | exact q
  | exact ⟨_, q⟩
theorem get_lt {h : Heap} {a : Addr} {o : Obj} (e : h.get? a = some o) : a < h.objs.size := by
  rcases Nat.lt_or_ge a h.objs.size with q | q
  · exact q
  · exfalso
    unfold Heap.get? at e
    rw [Array.getElem?_eq_none q] at e
    cases e
abbrev tn3 (z TI TO i1 i2 i3 a b c : Addr) : Nat → Heap → Prop := fun i h => IsZip h z TI TO .none ∧ IsTupOf3 h TI (.ref i1) (.ref i2) (.ref i3) ∧ (∃ a1 a2 a3, IsTupOf3 h TO a1 a2 a3) ∧ h.IsListIter i1 a i ∧ h.IsTupleIter i2 b i ∧ h.IsTupleIter i3 c i
section
variable {P : Program} {w : World} {K : PySem.W.Frag}
theorem turn_zip3 {elts : List Expr} {kk : Nat} {tpos : Pos} {a b c z TI TO i1 i2 i3 : Addr} (sep : ZipSep3 z TI TO i1 i2 i3 [i1, a] [i2, b] [i3, c]) (n1 : a ≠ i1) (n2 : b ≠ i2) (n3 : c ≠ i3) :
    Turn P w K (.Tuple elts kk tpos) (Itz3 a b c) [z, TI, TO, i1, i2, i3] z (tn3 z TI TO i1 i2 i3 a b c) := by
  refine ⟨List.mem_cons_self .., ?_, ?_, ?_, ?_, ?_⟩
  · rintro i h ⟨hz, hti, ⟨a1, a2, a3, hto⟩, ⟨o1, h1, c1, d1⟩, ⟨o2, h2, c2, d2⟩, ⟨o3, h3, c3, d3⟩⟩ q hq
    simp only [List.mem_cons, List.mem_nil_iff, or_false] at hq
    rcases hq with rfl | rfl | rfl | rfl | rfl | rfl
    · exact ⟨_, hz, fun v e => by cases e⟩
    · exact ⟨_, hti, fun v e => by cases e⟩
    · exact ⟨_, hto, fun v e => by cases e⟩
    · exact ⟨_, h1, fun v e => by rw [d1] at e; cases e⟩
    · exact ⟨_, h2, fun v e => by rw [d2] at e; cases e⟩
    · exact ⟨_, h3, fun v e => by rw [d3] at e; cases e⟩
  · rintro i h h' ⟨hz, hti, ⟨a1, a2, a3, hto⟩, ⟨o1, h1, c1, d1⟩, ⟨o2, h2, c2, d2⟩, ⟨o3, h3, c3, d3⟩⟩ kp
    exact ⟨kp z (by simp) _ hz, kp TI (by simp) _ hti, ⟨a1, a2, a3, kp TO (by simp) _ hto⟩, ⟨o1, kp i1 (by simp) _ h1, c1, d1⟩, ⟨o2, kp i2 (by simp) _ h2, c2, d2⟩, ⟨o3, kp i3 (by simp) _ h3, c3, d3⟩⟩
  · rintro X rfl rfl rfl calm i pins s σ H E I hfp ⟨hz, hti, hto, h1, h2, h3⟩ ⟨xs, ys, zs, ⟨⟨ea, eb, ec⟩, ly, lz⟩, hi⟩
    obtain ⟨its1, m1, v1, g1, s1⟩ := I.lst ea
    obtain ⟨its2, v2, g2, s2⟩ := I.tuple (SqT.of eb)
    obtain ⟨its3, v3, g3, s3⟩ := I.tuple (SqT.of ec)
    have hA : X.A.in1.handled = none := I.ok.hd calm
    have G := GoesN.zip3 (prog := X.prog) (w := X.w) (A := X.A) (elts := elts) (x1 := kk) (pos := tpos) sep (Draws.list hA i1 a n1 its1.toArray) (Draws.tuple hA i2 b n2 its2.toArray) (Draws.tuple hA i3 c n3 its3.toArray)
    have l1 := paired_len v1
    have l2 := paired_len v2
    have l3 := paired_len v3
    refine G.goes i s _ E (by simp only [List.size_toArray]; omega) ⟨hz, hti, hto, ⟨h1, ⟨_, g1, rfl, _, rfl⟩⟩, ⟨h2, istup_is g2⟩, ⟨h3, istup_is g3⟩⟩ ?_
    rintro v h' tk ⟨T, x, y, u, rfl, hT, p1, p2, p3, hI⟩ ⟨qz, qti, qto, ⟨q1, _⟩, ⟨q2, _⟩, ⟨q3, _⟩⟩ kp ht
    obtain ⟨x', e1, r1⟩ := vals_arr v1 p1
    obtain ⟨y', e2, r2⟩ := vals_arr v2 p2
    obtain ⟨u', e3, r3⟩ := vals_arr v3 p3
    have hT0 : H T = none := I.hok.fresh hT
    have I2 := I.turnedNew (h' := h') (t' := tk) (ch := [z, TO, i1, i2, i3]) (T := T) (ob := .tup [x', y', u']) kp (fun q hq => hfp q (by
      simp only [List.mem_cons, List.mem_nil_iff, or_false] at hq ⊢
      rcases hq with h | h | h | h | h <;> simp [h])) hT (by
        unfold ObjOk
        exact ⟨by show 3 ≤ sizeLine; decide, [x, y, u], .cons r1 (.cons r2 (.cons r3 .nil)), hI⟩)
    refine ⟨.ref T, _, I2, rfl, ⟨T, x', y', u', rfl, hT0, rfl, ?_⟩, ⟨qz, qti, qto, q1, q2, q3⟩, fun q hq => ?_⟩
    · rintro xs' ys' zs' ⟨⟨fa, fb, fc⟩, _, _⟩
      rw [ea] at fa
      rw [eb] at fb
      rw [ec] at fc
      cases fa
      cases fb
      cases fc
      exact ⟨e1, e2, e3⟩
    · obtain ⟨hn, _⟩ := hfp q hq
      obtain ⟨o, ho, _⟩ : ∃ o, s.heap.get? q = some o ∧ True := by
        obtain ⟨a1, a2, a3, hto⟩ := hto
        obtain ⟨o1, h1, _⟩ := h1
        obtain ⟨o2, h2, _⟩ := h2
        obtain ⟨o3, h3, _⟩ := h3
        simp only [List.mem_cons, List.mem_nil_iff, or_false] at hq
        rcases hq with rfl | rfl | rfl | rfl | rfl | rfl
        · exact ⟨_, hz, trivial⟩
        · exact ⟨_, hti, trivial⟩
        · exact ⟨_, hto, trivial⟩
        · exact ⟨_, h1, trivial⟩
        · exact ⟨_, h2, trivial⟩
        · exact ⟨_, h3, trivial⟩
      have : q ≠ T := fun e => by
        rw [e] at ho
        exact absurd (get_lt ho) (Nat.not_lt.mpr hT)
      rw [upd_ne this]
      exact hn
  · rintro X rfl rfl rfl calm i pins s σ H E I hfp ⟨hz, hti, hto, h1, h2, h3⟩ ⟨xs, ys, zs, ⟨⟨ea, eb, ec⟩, ly, lz⟩, hi⟩
    obtain ⟨its1, m1, v1, g1, s1⟩ := I.lst ea
    obtain ⟨its2, v2, g2, s2⟩ := I.tuple (SqT.of eb)
    obtain ⟨its3, v3, g3, s3⟩ := I.tuple (SqT.of ec)
    have hA : X.A.in1.handled = none := I.ok.hd calm
    have G := GoesN.zip3 (prog := X.prog) (w := X.w) (A := X.A) (elts := elts) (x1 := kk) (pos := tpos) sep (Draws.list hA i1 a n1 its1.toArray) (Draws.tuple hA i2 b n2 its2.toArray) (Draws.tuple hA i3 c n3 its3.toArray)
    have l1 := paired_len v1
    have l2 := paired_len v2
    have l3 := paired_len v3
    have en : min (min its1.toArray.size its2.toArray.size) its3.toArray.size = i := by simp only [List.size_toArray]; omega
    refine G.stops s _ E (by rw [en]; exact ⟨hz, hti, hto, ⟨h1, ⟨_, g1, rfl, _, rfl⟩⟩, ⟨h2, istup_is g2⟩, ⟨h3, istup_is g3⟩⟩) ?_
    intro h' tk kp ht
    exact I.turnedL (h' := h') (t' := tk) (ch := [z, TO, i1, i2, i3]) kp (fun q hq => hfp q (by
      simp only [List.mem_cons, List.mem_nil_iff, or_false] at hq ⊢
      rcases hq with h | h | h | h | h <;> simp [h]))
  · rintro A i s Q E ⟨hz, _⟩ q
    exact wpAny_pyIter_zip hz q
def iZip3 (ta : TA) : L2.TI := fun σ H R => ta σ H fun vs H1 => ∃ (a b c : Addr) (xs ys zs : List V), vs = [.ref a, .ref b, .ref c] ∧ At3 a b c H1 xs ys zs ∧ R (Itz3 a b c) H1
theorem pi_zip3 {X : Cx} {e e2 e3 : Expr} {ta : TA} {p pos tpos : Pos} {elts : List Expr} {kk : Nat} (hg : Gl X "zip") (hm : X.mg "zip" = none) (ha : PA X [e, e2, e3] ta)
    (hs : starEach [e, e2, e3] X.env = (false, eval e X.env) :: starEach [e2, e3] X.env := by rfl) (hpl : (backTo pos (starEach [e2, e3] X.env)).any (·.1) = false := by rfl) :
    PI X (.Tuple elts kk tpos) (.Call (.Name "zip" p) [e, e2, e3] [] pos) (iZip3 ta) := by
  refine ⟨fun pins s σ H R I h => ?_⟩
  refine Call_ (ld_blt I hg hm boot_zip (PyProof.Rows.callWith_type1 (thn (ha.run pos pins s σ H _ I h) fun us s2 q => ?_) hs hpl))
  obtain ⟨vs, H2, I2, rv, a, b, c, xs, ys, zs, rfl, hat, r⟩ := q
  obtain ⟨⟨ea, eb, ec⟩, ly, lz⟩ := id hat
  cases rv with
  | cons r1 rv =>
  cases rv with
  | cons r2 rv =>
  cases rv with
  | cons r3 rv =>
  cases rv
  cases r1
  cases r2
  cases r3
  obtain ⟨its1, m1, v1, g1, s1⟩ := I2.lst ea
  obtain ⟨its2, v2, g2, s2'⟩ := I2.tuple (SqT.of eb)
  obtain ⟨its3, v3, g3, s3⟩ := I2.tuple (SqT.of ec)
  have la := get_lt g1
  have lb : b < s2.heap.objs.size := by obtain ⟨o, g, _⟩ := g2; exact get_lt g
  have lc : c < s2.heap.objs.size := by obtain ⟨o, g, _⟩ := g3; exact get_lt g
  refine zip_begins3 (begins_list a its1.toArray) (begins_tuple b its2.toArray) (begins_tuple c its3.toArray) ⟨_, g1, rfl, _, rfl⟩ (istup_is g2) (istup_is g3) ?_
  intro h' hz hti hto e1 e2 e3 hsz kp
  refine wpAny_pyIter_zip hz ?_
  have sep := zip_sep3 (N := s2.heap.objs.size) (fp1 := [a]) (fp2 := [b]) (fp3 := [c]) (by simpa using la) (by simpa using lb) (by simpa using lc)
  have I3 : L2.Inv X pins σ H2 { heap := h', gens := s2.gens, drawn := s2.drawn, toks := s2.toks, os := s2.os } := I2.kept kp
  refine ⟨_, _, _, _, H2, rfl, I3, turn_zip3 sep (Nat.ne_of_lt la) (Nat.ne_of_lt (Nat.lt_succ_of_lt lb)) (Nat.ne_of_lt (Nat.lt_succ_of_lt (Nat.lt_succ_of_lt lc))), ⟨hz, hti, ⟨_, _, _, hto⟩, ⟨_, e1, rfl, rfl⟩, ⟨_, e2, rfl, rfl⟩, ⟨_, e3, rfl, rfl⟩⟩, fun q hq => ?_, r⟩
  have hq2 : s2.heap.objs.size ≤ q := by
    simp only [List.mem_cons, List.mem_nil_iff, or_false] at hq
    rcases hq with h | h | h | h | h | h <;> (rw [h]; simp)
  exact I2.fpOk hq2 (I2.hok.fresh hq2)
theorem walk_zip3 {a b c : Addr} {xs ys zs : List V} : Walk (Itz3 a b c) xs.length (fun H => At3 a b c H xs ys zs) (fun i H v H' => ∃ T x y u, v = .ref T ∧ H T = none ∧ H' = upd H T (.tup [x, y, u]) ∧ xs[i]? = some x ∧ ys[i]? = some y ∧ zs[i]? = some u) := by
  refine ⟨fun i H hi h => ⟨xs, ys, zs, h, hi⟩, fun H h => ⟨xs, ys, zs, h, rfl⟩, fun i H x H' hi h y => ?_⟩
  obtain ⟨T, x', y', u, e, h0, e2, q⟩ := y
  exact ⟨T, x', y', u, e, h0, e2, q xs ys zs h⟩
end
end Lk

/-! ## D24 -/
set_option Elab.async false
set_option linter.all false
set_option maxRecDepth 100000
set_option maxHeartbeats 2000000
namespace Lk
open PySem PySem.Spec PyProof.Rows L2 Gx
open GxR (TabG Tabbed TabB)
variable [Own]
/-- a comprehension over any walk -/
theorem lc_walk {J : It} {n : Nat} {G : Hp → Prop} {Y : Nat → Hp → V → Hp → Prop} (w : Walk J n G Y) {g : TG} {tt : TT} {te : TE} {vs : List Nat} {σ : L2.St} {H1 : Hp} {D : Addr} {Qd : Hp → Prop} (Pv : Nat → Hp → Prop) (h0 : Pv 0 (upd H1 D (.lst []))) (hG : ∀ i H, i ≤ n → Pv i H → G H)
    (hs : ∀ i x H H', i < n → Pv i H → Y i H x H' → g x (wipe σ vs) H' fun σ2 H2 => wipe σ2 vs = wipe σ vs ∧ tt σ2 H2 fun b H3 =>
      if b = true then te σ2 H3 fun y H4 => ∃ acc, H4 D = some (.lst acc) ∧ acc.length < sizeLine ∧ Pv (i + 1) (upd H4 D (.lst (acc ++ [y]))) else Pv (i + 1) H3) (hd : ∀ H, Pv n H → Qd H) :
    ∃ W : Nat → Nat → Hp → Prop, (∃ m, W 0 m (upd H1 D (.lst []))) ∧ ∀ i m H, W i m H →
      (J.stop i H ∧ Qd H) ∨ (J.go i H ∧ ∃ Nx : Hp → Prop, (∀ H', Nx H' → ∃ m', m' < m ∧ W (i + 1) m' H') ∧ ∀ x H', J.yld i H x H' → g x (wipe σ vs) H' fun σ2 H2 => wipe σ2 vs = wipe σ vs ∧ tt σ2 H2 fun b H3 =>
        if b = true then te σ2 H3 fun y H4 => ∃ acc, H4 D = some (.lst acc) ∧ acc.length < sizeLine ∧ Nx (upd H4 D (.lst (acc ++ [y]))) else Nx H3) := by
  refine ⟨fun i m H => m = n - i ∧ i ≤ n ∧ Pv i H, ⟨n, by simp, Nat.zero_le _, h0⟩, ?_⟩
  rintro i m H ⟨rfl, hi, p⟩
  have q := hG i H hi p
  by_cases hlt : i < n
  · exact .inr ⟨w.goes i H hlt q, Pv (i + 1), fun H' p' => ⟨n - (i + 1), by omega, rfl, hlt, p'⟩, fun x H' y => hs i x H H' hlt p (w.yields i H x H' hlt q y)⟩
  · have e : i = n := by omega
    subst e
    exact .inl ⟨w.stops H q, hd H p⟩
/-- an empty list, told of any -/
def rEqLn : R2 := fun x y H Q => ∃ (a b : Addr) (n : Nat), x = .ref a ∧ y = .ref b ∧ H a = some (.lst (List.replicate n (.int 1))) ∧ H b = some (.lst []) ∧ Q (.bl (decide (n = 0))) H
abbrev s__law_goes : Stmt := top 46
theorem sc__law_goes : FnScope ["signs", "one", "other", "sign", "left", "right"] ["signs", "one", "other"] (defScope s__law_goes) := ⟨rfl, rfl, rfl, by decide +kernel, rfl, by decide +kernel, by decide +kernel⟩
/-- nowhere worse, by signs -/
def lawGoes : List Int → List Int → List Int → Bool
  | s :: ss, x :: xs, y :: ys => !decide (s * (y - x) < 0) && lawGoes ss xs ys
  | _, _, _ => true
def spLawGoes : Sp := fun vs H Q _ => ∃ (a : Addr) (x y : V) (ss xs ys : List Int), vs = [.ref a, x, y] ∧ H a = some (.lst (iv ss)) ∧ TI H x xs ∧ TI H y ys ∧ xs.length = ss.length ∧ ys.length = ss.length ∧ ss.length ≤ 1000 ∧ (∀ s ∈ ss, s = 1 ∨ s = -1) ∧ (∀ x ∈ xs, 0 ≤ x ∧ x ≤ 1000) ∧ (∀ x ∈ ys, 0 ≤ x ∧ x ≤ 1000) ∧
  ∀ H', Ext H H' → Q (.bl (lawGoes ss xs ys)) H'
def worse (ss xs ys : List Int) : Nat → Nat
  | 0 => 0
  | n + 1 => worse ss xs ys n + if ss.getD n 0 * (ys.getD n 0 - xs.getD n 0) < 0 then 1 else 0
theorem worse_le (ss xs ys : List Int) : ∀ n, worse ss xs ys n ≤ n
  | 0 => Nat.le_refl _
  | n + 1 => by
    have := worse_le ss xs ys n
    unfold worse
    split <;> omega
theorem worse_cons (s x y : Int) (ss xs ys : List Int) : ∀ n, worse (s :: ss) (x :: xs) (y :: ys) (n + 1) = (if s * (y - x) < 0 then 1 else 0) + worse ss xs ys n
  | 0 => by simp [worse]
  | n + 1 => by
    have := worse_cons s x y ss xs ys n
    rw [worse, this, worse]
    simp only [List.getD_cons_succ]
    omega
theorem worse_goes : ∀ (ss xs ys : List Int), xs.length = ss.length → ys.length = ss.length → decide (worse ss xs ys ss.length = 0) = lawGoes ss xs ys
  | [], [], [], _, _ => by simp [worse, lawGoes]
  | s :: ss, x :: xs, y :: ys, h1, h2 => by
    rw [List.length_cons, worse_cons, lawGoes, ← worse_goes ss xs ys (by simpa using h1) (by simpa using h2)]
    by_cases h : s * (y - x) < 0
    · rw [if_pos h, decide_eq_true h]
      simp
    · rw [if_neg h, decide_eq_false h]
      simp
section
variable {P : Program} {w : World} {K : PySem.W.Frag} {mg : Str → Option Value} {base : Heap} {Ps : List Addr}
theorem eqv_reps (n : Nat) : PyData.eqv (.list ((List.replicate n 1).map .int)) (.list ([].map .int)) = decide (n = 0) := by
  cases n with
  | zero => simp [PyData.eqv, PyData.eqvAll]
  | succ n => simp [PyData.eqv, PyData.eqvAll, List.replicate_succ]
theorem shaped_li (a : List Int) : SeqAt.shaped (.list (a.map .int)) = true := by
  unfold SeqAt.shaped
  simp only [PyData.canLay0, canLay_ints a, PyData.depth, depth_ints a, Bool.true_and]
  decide
theorem op_eqLn {X : Cx} (hu : X.A.units + 64 < cLine) : OpR X (compareOp .Eq) rEqLn := by
  intro pins s σ H x y v u Q I rx ry h
  obtain ⟨a, b, n, rfl, rfl, h1, h2, q⟩ := h
  refine op_eqD hu pins s σ H _ _ v u Q I rx ry ⟨_, _, .lst (SqL.of h1) (by
    have := dpAll_ints (K := X.K) (H := H) (List.replicate n 1)
    unfold iv at this
    rw [List.map_replicate] at this
    exact this), .lst (SqL.of h2) .nil, shaped_li _, shaped_li [], ?_⟩
  rw [show ([] : List PyData) = ([] : List Int).map .int from rfl, eqv_reps]
  exact q
theorem ok_law_goes {f : Addr} {fd : FuncData} (F : Fun K "_law_goes" "_law_goes" s__law_goes f fd) (B : Blt mg) : FnOk P w K mg base CX0 1 f fd ["signs", "one", "other"] spLawGoes := by
  refine F.ok sc__law_goes (fun vs H Q E h => ?_) (fun cdv A outer s H vs Q E hr h => ?_)
  · obtain ⟨a, x, y, ss, xs, ys, rfl, _⟩ := h
    rfl
  · obtain ⟨a, x, y, ss, xs, ys, rfl, ha, ⟨b, rfl, hb⟩, ⟨c, rfl, hc⟩, lx, ly, hl, hS, hX, hY, k⟩ := h
    refine ⟨_, (pss_one (ps_ret (pe_cmpR (op_eqLn hr.units) (pe_lc (own := [("sign", 3), ("left", 4), ("right", 5)]) rfl sc__law_goes.nd (pi_zip3 (by rfl) B.zip (pa_cons (pv 0) (pa_cons (pv 1) (pa_cons (pv 2) pa_nil)))) (blkOk_by (N := ["signs", "one", "other", "sign", "left", "right"]) (sc := defScope s__law_goes) (by decide +kernel)) (fun _ _ _ _ _ => (pg_tupT (n := 3) rfl (pgs_cons (pg_name (i := 3) sc__law_goes.nd rfl (by first | exact Or.inl rfl | exact Or.inr rfl)) (pgs_cons (pg_name (i := 4) sc__law_goes.nd rfl (by first | exact Or.inl rfl | exact Or.inr rfl)) (pgs_cons (pg_name (i := 5) sc__law_goes.nd rfl (by first | exact Or.inl rfl | exact Or.inr rfl)) pgs_nil))))) (fun _ _ _ _ _ => (pts_one (pt_cmpR op_lt (pe_op op_mul (pv 3) (pe_op op_sub (pv 5) (pv 4))) pe_int (nomark _)))) (fun _ _ _ _ _ => pe_int)) (pe_lst pa_nil) (nomark _)))), ?_⟩
    refine ⟨_, rfl, _, rfl, _, rfl, a, b, c, iv ss, iv xs, iv ys, rfl, ⟨⟨ha, hb, hc⟩, by rw [iv_len, iv_len, lx], by rw [iv_len, iv_len, ly]⟩, fun D hD => ?_⟩
    refine lc_walk (walk_zip3 (a := a) (b := b) (c := c) (xs := iv ss) (ys := iv xs) (zs := iv ys)) (fun i H' => H' D = some (.lst (List.replicate (worse ss xs ys i) (.int 1))) ∧ Ext H H') ⟨upd_same, Ext.new hD _⟩ (fun i H' _ ⟨h, e⟩ => ⟨⟨e.lst ha, e.tup hb, e.tup hc⟩, by rw [iv_len, iv_len, lx], by rw [iv_len, iv_len, ly]⟩) (fun i v H1 H2 hi ⟨h1, e1⟩ y => ?_) fun H1 ⟨h1, e1⟩ => ?_
    · obtain ⟨T, x, y, u, rfl, hT, rfl, g1, g2, g3⟩ := y
      obtain ⟨s1, e1', rfl⟩ := iv_get g1
      obtain ⟨x1, e2', rfl⟩ := iv_get g2
      obtain ⟨y1, e3', rfl⟩ := iv_get g3
      have hDT : D ≠ T := ne_of_none h1 hT
      have sb := hS _ (List.mem_of_getElem? e1')
      have xb := hX _ (List.mem_of_getElem? e2')
      have yb := hY _ (List.mem_of_getElem? e3')
      refine ⟨T, _, rfl, upd_same, rfl, _, _, rfl, _, _, rfl, _, _, rfl, rfl, rfl, ?_⟩
      refine ⟨_, rfl, _, rfl, _, rfl, _, _, rfl, rfl, _, _, rfl, rfl, .inl ⟨by omega, by omega⟩, _, _, rfl, rfl, _, rfl, ?_⟩
      have G1 : ss.getD i 0 = s1 := by rw [List.getD_eq_getElem?_getD, e1']; rfl
      have G2 : xs.getD i 0 = x1 := by rw [List.getD_eq_getElem?_getD, e2']; rfl
      have G3 : ys.getD i 0 = y1 := by rw [List.getD_eq_getElem?_getD, e3']; rfl
      by_cases hw : s1 * (y1 - x1) < 0
      · rw [decide_eq_true hw]
        refine iteT ⟨_, by rw [upd_ne hDT]; exact h1, ?_, ?_, (e1.trans (Ext.new hT _)).put hD _⟩
        · rw [List.length_replicate]
          have := worse_le ss xs ys i
          have : i < ss.length := by rw [← iv_len]; exact hi
          exact small1000 (by omega)
        · rw [upd_same, worse, G1, G2, G3, if_pos hw, ← List.replicate_succ']
      · rw [decide_eq_false hw]
        refine iteF ⟨?_, e1.trans (Ext.new hT _)⟩
        rw [upd_ne hDT, h1, worse, G1, G2, G3, if_neg hw]
        rfl
    · refine ⟨(by show 0 ≤ sizeLine; decide), fun u hu => ?_⟩
      refine ⟨D, u, _, rfl, rfl, by rw [upd_ne (ne_of_none h1 hu)]; exact h1, upd_same, ?_⟩
      rw [iv_len, worse_goes ss xs ys lx ly]
      exact k _ (e1.trans (Ext.new hu _))
end
end Lk

/-! ## D23 -/
set_option Elab.async false
set_option linter.all false
set_option maxRecDepth 100000
set_option maxHeartbeats 2000000
namespace Lk
open PySem PySem.Spec PyProof.Rows L2 Gx
open GxR (TabG Tabbed TabB)
variable [Own]
abbrev s__law_pick : Stmt := top 45
theorem sc__law_pick : FnScope ["row", "things"] ["row", "things"] (defScope s__law_pick) := ⟨rfl, rfl, rfl, by decide +kernel, rfl, by decide +kernel, by decide +kernel⟩
def spLawPick (K : PySem.W.Frag) : Sp := fun vs H Q _ => ∃ (r sc a : Addr) (ns : List Int) (xs : List V), vs = [.ref r, .ref a] ∧ Rw K H r sc ns ∧ H a = some (.lst xs) ∧ a ≠ r ∧ (0 < xs.length ∧ xs.length < 1000000) ∧
  ∀ H' v (j : Nat), ExtB r H H' → Rw K H' r sc ns → (∀ a, a ≠ r → H' a = H a) → xs[j]? = some v → Q v H'
section
variable {P : Program} {w : World} {K : PySem.W.Frag} {mg : Str → Option Value} {base : Heap} {Ps : List Addr}
theorem ok_law_pick {f : Addr} {fd : FuncData} (F : Fun K "_law_pick" "_law_pick" s__law_pick f fd) (B : Blt mg) (c__law_taken : Cal P w K mg base CX0 1 "_law_taken" ["row", "many"] (spTaken K)) : FnOk P w K mg base CX0 2 f fd ["row", "things"] (spLawPick K) := by
  refine F.ok sc__law_pick (fun vs H Q E h => ?_) (fun cdv A outer s0 H vs Q E hr h => ?_)
  · obtain ⟨r, sc, a, ns, xs, rfl, _⟩ := h
    rfl
  · obtain ⟨r, sc, a, ns, xs, rfl, hR, ha, har, hl, k⟩ := h
    refine ⟨_, (pss_one (ps_ret (pe_ix ix_lT (pv 1) (pe_c0 c__law_taken (hr.mono (by decide)) (by rfl) (pa_cons (pv 0) (pa_cons (pe_callB call_lenT (by rfl) B.len PySem.boot_len (pa_cons (pv 1) pa_nil)) pa_nil))) (fun _ _ => rfl)))), ?_⟩
    have hm : (0 : Int) < (xs.length : Int) ∧ (xs.length : Int) < 1000000 := ⟨by omega, by omega⟩
    refine ⟨_, rfl, _, rfl, _, rfl, a, xs, rfl, .inl ha, r, sc, ns, _, rfl, hR, hm, fun H1 i e1 hR1 same hi => ?_⟩
    have hlt : i.toNat < xs.length := by omega
    have hx : xs[i.toNat]? = some xs[i.toNat] := List.getElem?_eq_getElem hlt
    exact ⟨a, xs, _, _, rfl, rfl, e1.lst har ha, at_of (j := i.toNat) (by omega) hx, k H1 _ _ e1 hR1 same hx⟩
end
end Lk

/-! ## D22 -/
set_option Elab.async false
set_option linter.all false
set_option maxRecDepth 100000
set_option maxHeartbeats 2000000
namespace Lk
open PySem PySem.Spec PyProof.Rows L2 Gx
open GxR (TabG Tabbed TabB)
variable [Own]
abbrev s__law_seen : Stmt := top 43
theorem sc__law_seen : FnScope ["web", "folk", "one", "other", "sign"] ["web", "folk"] (defScope s__law_seen) := ⟨rfl, rfl, rfl, by decide +kernel, rfl, by decide +kernel, by decide +kernel⟩
abbrev spLawSeen : Sp := spLooksOf
section
variable {P : Program} {w : World} {K : PySem.W.Frag} {mg : Str → Option Value} {base : Heap} {Ps : List Addr}
theorem ok_law_seen {f : Addr} {fd : FuncData} (F : Fun K "_law_seen" "_law_seen" s__law_seen f fd) : FnOk P w K mg base CX0 1 f fd ["web", "folk"] spLawSeen := by
  refine F.ok sc__law_seen (fun vs H Q E h => ?_) (fun cdv A outer s H vs Q E hr h => ?_)
  · obtain ⟨v, W, n, rfl, _⟩ := h
    rfl
  · obtain ⟨v, W, n, rfl, ⟨a, t, l, rfl, ha, ht, ⟨b, ls, rfl, hb, hls⟩⟩, h14, k⟩ := h
    refine ⟨_, (pss_one (ps_ret (pe_lc (own := [("one", 2), ("other", 3), ("sign", 4)]) rfl sc__law_seen.nd (pi_tup (pe_ix ix_tT (pv 0) pe_int (fun _ _ => rfl))) (blkOk_by (N := ["web", "folk", "one", "other", "sign"]) (sc := defScope s__law_seen) (by decide +kernel)) (fun _ _ _ _ _ => (pg_tupT (n := 3) rfl (pgs_cons (pg_name (i := 2) sc__law_seen.nd rfl (by first | exact Or.inl rfl | exact Or.inr rfl)) (pgs_cons (pg_name (i := 3) sc__law_seen.nd rfl (by first | exact Or.inl rfl | exact Or.inr rfl)) (pgs_cons (pg_name (i := 4) sc__law_seen.nd rfl (by first | exact Or.inl rfl | exact Or.inr rfl)) pgs_nil))))) (fun _ _ _ _ _ => (pts_one (pt_cmpR op_eq (pv 3) (pv 1) (nomark _)))) (fun _ _ _ _ _ => (pe_tup (pa_cons (pv 2) (pa_cons (pv 4) pa_nil))))))), ?_⟩
    refine ⟨_, rfl, a, _, _, _, rfl, rfl, ha, rfl, b, rfl, ⟨_, SqT.of hb⟩, fun D hD => ?_⟩
    have llen : ls.length = W.looks.length := by rw [paired_len hls, List.length_map]
    refine lc_tup (xs := ls) (fun i H' => ∃ acc, H' D = some (.lst acc) ∧ Ext H H' ∧ acc.length ≤ i ∧ Paired (TI H') acc ((((W.looks.take i).filter fun l => l.2.1 == n).map fun l => (l.1, l.2.2)).map row2)) ⟨[], upd_same, Ext.new hD _, Nat.le_refl _, .nil⟩ (fun i H' _ ⟨_, _, e, _⟩ => SqT.of (e.tup hb)) (fun i x H' hi ⟨acc, hacc, e, hl, hp⟩ => ?_) fun H' ⟨acc, hacc, e, hl, hp⟩ => ?_
    · obtain ⟨row, hrow, hx⟩ := paired_get' (pTI.ext e hls) hi
      obtain ⟨lk, hlk, rfl⟩ : ∃ lk, W.looks[i]? = some lk ∧ row = row3 lk := by
        rw [List.getElem?_map] at hrow
        cases q : W.looks[i]? with
        | none => rw [q] at hrow; cases hrow
        | some lk => rw [q] at hrow; exact ⟨lk, rfl, (Option.some.inj hrow).symm⟩
      obtain ⟨p, rfl, hp1⟩ := hx
      have hi14 : i < 14 := by
        have := (List.getElem?_eq_some_iff.mp hlk).1
        omega
      refine ⟨p, _, rfl, hp1, rfl, _, _, rfl, _, _, rfl, _, _, rfl, rfl, rfl, ?_⟩
      refine ⟨_, rfl, _, rfl, rfl, _, rfl, ?_⟩
      rw [take_snoc hlk, List.filter_append]
      by_cases hf : lk.2.1 = n
      · have e1 : decide (V.int lk.2.1 = V.int n) = true := decide_eq_true (by rw [hf])
        have e2 : (lk.2.1 == n) = true := by rw [hf]; exact beq_self_eq_true n
        rw [e1]
        refine iteT ⟨_, rfl, _, rfl, (by show 2 ≤ sizeLine; decide), fun q hq => ?_⟩
        have dq : D ≠ q := ne_of_none hacc hq
        refine ⟨acc, by rw [upd_ne dq]; exact hacc, small1000 (by omega), acc ++ [.ref q], upd_same, (e.trans (Ext.new hq _)).put hD _, by rw [List.length_append]; simp; omega, ?_⟩
        have F1 : [lk].filter (fun l => l.2.1 == n) = [lk] := by rw [List.filter_cons, if_pos e2]; rfl
        rw [F1, List.map_append, List.map_append]
        refine paired_snoc ⟨q, rfl, by rw [upd_ne dq.symm]; exact upd_same⟩ ?_
        refine paired_mono (fun x r h => ?_) hp
        obtain ⟨z, rfl, hz⟩ := h
        exact ⟨z, rfl, by rw [upd_ne (ne_of hacc hz (by intro q; cases q)).symm, upd_ne (ne_of_none hz hq)]; exact hz⟩
      · have e1 : decide (V.int lk.2.1 = V.int n) = false := decide_eq_false (fun z => hf (by cases z; rfl))
        have e2 : (lk.2.1 == n) = false := by simpa using hf
        rw [e1]
        have F1 : [lk].filter (fun l => l.2.1 == n) = [] := by rw [List.filter_cons, e2]; rfl
        rw [F1, List.append_nil]
        exact iteF ⟨acc, hacc, e, by omega, hp⟩
    · rw [llen, List.take_length] at hp
      exact k H' D acc e hD hacc hp
end
end Lk

/-! ## D21 -/
set_option Elab.async false
set_option linter.all false
set_option maxRecDepth 100000
set_option maxHeartbeats 2000000
namespace Lk
open PySem PySem.Spec PyProof.Rows L2 Gx
open GxR (TabG Tabbed TabB)
variable [Own]
abbrev s__law_moods : Stmt := top 44
theorem sc__law_moods : FnScope ["tops", "found", "top", "longer", "row", "mood"] ["tops"] (defScope s__law_moods) := ⟨rfl, rfl, rfl, by decide +kernel, rfl, by decide +kernel, by decide +kernel⟩
def spLawMoods : Sp := fun vs H Q _ => ∃ (a : Addr) (k : Bool) (tops : List Int), vs = [.ref a] ∧ SqB k H a (iv tops) ∧ tops.length ≤ 6 ∧ (∀ t ∈ tops, 0 ≤ t ∧ t ≤ 3) ∧ ∀ H' p, Ext H H' → H p = none → LT2 H' (.ref p) (rowsOf tops) → Q (.ref p) H'
section
variable {P : Program} {w : World} {K : PySem.W.Frag} {mg : Str → Option Value} {base : Heap} {Ps : List Addr}
theorem ok_law_moods {f : Addr} {fd : FuncData} (F : Fun K "_law_moods" "_law_moods" s__law_moods f fd) (B : Blt mg) : FnOk P w K mg base CX0 1 f fd ["tops"] spLawMoods := by
  refine F.ok sc__law_moods (fun vs H Q E h => ?_) (fun cdv A outer s H vs Q E hr h => ?_)
  · obtain ⟨v, k, W, rfl, _⟩ := h
    rfl
  · obtain ⟨a, kk, tops, rfl, ha, h6, hT, k⟩ := h
    refine ⟨_, (pss_cons (ps_set (i := 1) sc__law_moods.nd rfl (by first | exact Or.inl rfl | exact Or.inr rfl) (pe_lst (pa_cons (pe_tup pa_nil) pa_nil)))
      (pss_cons (ps_for PassesOwn.never rfl (pi_seqV (pv 0)) (pg_name (i := 2) sc__law_moods.nd rfl (by first | exact Or.inl rfl | exact Or.inr rfl))
        (pss_cons (ps_set (i := 3) sc__law_moods.nd rfl (by first | exact Or.inl rfl | exact Or.inr rfl) (pe_lst pa_nil))
        (pss_cons (ps_for PassesOwn.never rfl (pi_list (pv 1)) (pg_name (i := 4) sc__law_moods.nd rfl (by first | exact Or.inl rfl | exact Or.inr rfl))
          (pss_one (ps_set (i := 3) sc__law_moods.nd rfl (by first | exact Or.inl rfl | exact Or.inr rfl) (pe_op op_cat (pv 3) (pe_lc (own := [("mood", 5)]) rfl sc__law_moods.nd (pi_range1 (by rfl) B.range (pa_cons (pe_op op_add (pv 2) pe_int) pa_nil)) (blkOk_by (N := ["tops", "found", "top", "longer", "row", "mood"]) (sc := defScope s__law_moods) (by decide +kernel)) (fun _ _ _ _ _ => (pg_name (i := 5) sc__law_moods.nd rfl (by first | exact Or.inl rfl | exact Or.inr rfl))) (fun _ _ _ _ _ => pts_nil) (fun _ _ _ _ _ => (pe_op op_catTT (pv 4) (pe_tup (pa_cons (pv 5) pa_nil)))))))))
        (pss_one (ps_set (i := 1) sc__law_moods.nd rfl (by first | exact Or.inl rfl | exact Or.inr rfl) (pv 3))))))
      (pss_one (ps_ret (pv 1))))), ?_⟩
    have rl : ∀ i, ((tops.take i).foldl rowsStep [[]]).length ≤ 4096 := fun i => by
      have h1 := rows_len4 (tops := tops.take i) (fun t ht => (hT t (List.mem_of_mem_take ht)).2) [[]]
      have h2 : 4 ^ (tops.take i).length ≤ 4 ^ 6 := Nat.pow_le_pow_right (by decide) (by rw [List.length_take]; omega)
      simp only [List.length_singleton, Nat.one_mul] at h1
      exact Nat.le_trans h1 h2
    refine ⟨(by show 0 ≤ sizeLine; decide), fun q hq => ⟨(by show 1 ≤ sizeLine; decide), fun p hp => ?_⟩⟩
    have hpq : p ≠ q := fun z => by rw [z, upd_same] at hp; cases hp
    have hp0 : H p = none := by rw [upd_ne hpq] at hp; exact hp
    have E1 : Ext H (upd (upd H q (.tup [])) p (.lst [.ref q])) := (Ext.new hq _).trans (Ext.new hp _)
    refine ⟨a, rfl, kk, iv tops, ha.ext E1, for_seq (K := K) (k := kk) (a := a) (xs := iv tops) (fun i σ H' => ∃ (r : Addr) (vs : List V) (o2 o3 o4 o5 : Option V), σ = [some (.ref a), some (.ref r), o2, o3, o4, o5] ∧ Ext H H' ∧ H r = none ∧ H' r = some (.lst vs) ∧ Paired (TI H') vs ((tops.take i).foldl rowsStep [[]]))
      ⟨p, _, none, none, none, none, rfl, E1, hp0, upd_same, .cons ⟨q, rfl, by rw [upd_ne hpq.symm]; exact upd_same⟩ .nil⟩ (fun i σ H' _ ⟨_, _, _, _, _, _, _, e, _⟩ => ha.ext e) ?_ ?_⟩
    · rintro i x σ H' hi ⟨r, vs, o2, o3, o4, o5, rfl, e, hr0, hvs, hpv⟩
      obtain ⟨t, ht, rfl⟩ := iv_get hi
      have hb := hT t (List.mem_of_getElem? ht)
      have lvs : vs.length ≤ 4096 := by rw [paired_len hpv]; exact rl i
      refine ⟨(by show 0 ≤ sizeLine; decide), fun L hL => ?_⟩
      have hLr : r ≠ L := ne_of_none hvs hL
      have EL : Ext H' (upd H' L (.lst [])) := Ext.new hL _
      refine ⟨_, rfl, r, rfl, ⟨_, SqL.of (EL.lst hvs)⟩, for_list (K := K) (a := r) (xs := vs) (fun j σ H2 => ∃ (L : Addr) (acc : List V) (o4 o5 : Option V), σ = [some (.ref a), some (.ref r), some (.int t), some (.ref L), o4, o5] ∧ Ext H' H2 ∧ H' L = none ∧ H2 L = some (.lst acc) ∧ acc.length = j * (t + 1).toNat ∧ Paired (TI H2) acc ((((tops.take i).foldl rowsStep [[]]).take j).flatMap fun r => (moods t).map fun m => r ++ [m]))
        ⟨L, [], _, _, rfl, EL, hL, upd_same, by simp, .nil⟩ (fun j σ H2 _ ⟨_, _, _, _, _, e2, _⟩ => SqL.of (e2.lst hvs)) ?_ ?_⟩
      · rintro j x σ H2 hj ⟨L, acc, o4, o5, rfl, e2, hL0, hacc, hl, hp2⟩
        obtain ⟨row, hrow, z, rfl, hz⟩ := paired_get' (pTI.ext e2 hpv) hj
        have hjv : j < vs.length := (List.getElem?_eq_some_iff.mp hj).1
        have rowlen : row.length ≤ 6 := by
          have h1 := rows_row (tops := tops.take i) (rows := [[]]) (n := 0) (fun r hr => by rw [List.mem_singleton.mp hr]; rfl) row (List.mem_of_getElem? hrow)
          rw [h1, List.length_take]
          omega
        refine ⟨_, rfl, _, rfl, _, _, rfl, rfl, t + 1, rfl, by omega, by omega, fun D hD => ?_⟩
        have hDL : L ≠ D := ne_of_none hacc hD
        refine lc_range (lo := 0) (n := (t + 1).toNat) (fun m H4 => ∃ acc2, H4 D = some (.lst acc2) ∧ Ext H2 H4 ∧ acc2.length = m ∧ Paired (TI H4) acc2 (((moods t).take m).map fun m => row ++ [m])) ⟨[], upd_same, Ext.new hD _, rfl, by simpa using Paired.nil⟩ (fun m H4 hm ⟨acc2, hacc2, e4, hl2, hp4⟩ => ?_) fun H4 ⟨acc2, hacc2, e4, hl2, hp4⟩ => ?_
        · have ei : (0 : Int) + (m : Int) = (m : Int) := Int.zero_add _
          rw [ei]
          have hz4 := e4.tup hz
          have fin : ∀ (H7 : Hp) (y : V), Ext H4 H7 → H7 D = some (.lst acc2) → TI H7 y (row ++ [(m : Int)]) → ∃ acc, H7 D = some (.lst acc) ∧ acc.length < sizeLine ∧ ∃ acc3, (upd H7 D (.lst (acc ++ [y]))) D = some (.lst acc3) ∧ Ext H2 (upd H7 D (.lst (acc ++ [y]))) ∧ acc3.length = m + 1 ∧
              Paired (TI (upd H7 D (.lst (acc ++ [y])))) acc3 (((moods t).take (m + 1)).map fun m => row ++ [m]) := by
            intro H7 y e7 h7 hy
            refine ⟨acc2, h7, small1000 (by omega), acc2 ++ [y], upd_same, (e4.trans e7).put hD _, by rw [List.length_append, hl2]; simp, ?_⟩
            have em : (moods t)[m]? = some (m : Int) := by
              unfold moods
              rw [List.getElem?_map, List.getElem?_range hm]
              rfl
            rw [List.take_add_one, em, List.map_append]
            exact pTI.put (H := H7) h7 (fun _ _ h => h) (paired_snoc hy (pTI.ext e7 hp4))
          refine ⟨rfl, yes ?_⟩
          refine ⟨_, rfl, _, rfl, (by show 1 ≤ sizeLine; decide), fun u hu => ?_⟩
          have hzu : z ≠ u := ne_of_none hz4 hu
          have hDu : D ≠ u := ne_of_none hacc2 hu
          refine ⟨z, u, iv row, _, rfl, rfl, by rw [upd_ne hzu]; exact hz4, upd_same, by rw [iv_len]; show row.length + 1 ≤ sizeLine; exact Nat.le_of_lt (small1000 (by omega)), fun e0 => ?_, (fun _ e0 => by cases e0), fun e0 _ v hv => ?_⟩
          · refine fin _ _ (Ext.new hu _) (by rw [upd_ne hDu]; exact hacc2) ⟨u, rfl, ?_⟩
            have r0 : row = [] := by
              cases row with
              | nil => rfl
              | cons a b => cases e0
            rw [upd_same, r0]
            rfl
          · have hDv : D ≠ v := fun z => by rw [z] at hDu hacc2; rw [upd_ne hDu, hacc2] at hv; cases hv
            refine fin _ _ ((Ext.new hu _).trans (Ext.new hv _)) (by rw [upd_ne hDv, upd_ne hDu]; exact hacc2) ⟨v, rfl, ?_⟩
            rw [upd_same]
            show some (HO.tup (iv row ++ [V.int (m : Int)])) = _
            unfold iv
            rw [List.map_append]
            rfl
        · have hm2 : (moods t).take (t + 1).toNat = moods t := List.take_of_length_le (by rw [moods_len]; exact Nat.le_refl _)
          rw [hm2] at hp4
          have la : acc.length + acc2.length ≤ 20000 := by
            rw [hl, hl2]
            have h3 : (t + 1).toNat ≤ 4 := by omega
            have h4 : j * (t + 1).toNat ≤ j * 4 := Nat.mul_le_mul_left _ h3
            omega
          refine ⟨L, D, acc, acc2, rfl, rfl, e4.lst hacc, hacc2, Nat.le_trans la (by decide), fun u hu => ?_⟩
          have hu2 : H2 u = none := e4.free hu
          refine ⟨u, acc ++ acc2, _, _, rfl, (e2.trans e4).trans (Ext.new hu _), e2.free hu2, upd_same, by rw [List.length_append, hl, hl2, Nat.add_mul, Nat.one_mul], ?_⟩
          rw [flatMap_take hrow]
          exact paired_app (pTI.ext (e4.trans (Ext.new hu _)) hp2) (pTI.ext (Ext.new hu _) hp4)
      · rintro σ H2 ⟨L, acc, o4, o5, rfl, e2, hL0, hacc, hl, hp2⟩
        refine ⟨_, rfl, L, acc, _, _, _, _, rfl, e.trans e2, e.free hL0, hacc, ?_⟩
        have hj2 : ((tops.take i).foldl rowsStep [[]]).take vs.length = (tops.take i).foldl rowsStep [[]] := List.take_of_length_le (by rw [paired_len hpv]; exact Nat.le_refl _)
        rw [hj2] at hp2
        rw [foldl_take ht]
        exact hp2
    · rintro σ H' ⟨r, vs, o2, o3, o4, o5, rfl, e, hr0, hvs, hpv⟩
      rw [iv_len, List.take_length] at hpv
      exact ⟨_, rfl, k H' r e hr0 ⟨r, vs, rfl, hvs, hpv⟩⟩
end
end Lk

/-! ## D07 -/
set_option Elab.async false
set_option linter.all false
set_option maxRecDepth 100000
set_option maxHeartbeats 2000000
namespace Lk
open PySem PySem.Spec PyProof.Rows L2 Gx
open GxR (TabG Tabbed TabB)
variable [Own]
def topAt (W : Web) (i : Int) : Int := W.tops.getD i.toNat 0
theorem topAt_get {W : Web} {i : Int} (h0 : 0 ≤ i) (h1 : i < W.tops.length) : W.tops[i.toNat]? = some (topAt W i) := by
  unfold topAt
  rw [List.getD_eq_getElem?_getD, List.getElem?_eq_getElem (by omega)]
  rfl
theorem topAt_ok {W : Web} (ok : W.Ok) {i : Int} (h0 : 0 ≤ i) (h1 : i < W.tops.length) : 1 ≤ topAt W i ∧ topAt W i ≤ 3 := ok.tops _ (List.mem_of_getElem? (topAt_get h0 h1))
theorem looksOf_ok {W : Web} (ok : W.Ok) {f : Int} : ∀ p ∈ looksOf W f, (0 ≤ p.1 ∧ p.1 < W.tops.length) ∧ (p.2 = 1 ∨ p.2 = -1) := by
  intro p hp
  unfold looksOf at hp
  obtain ⟨l, hl, rfl⟩ := List.mem_map.mp hp
  have := ok.look l (List.mem_filter.mp hl).1
  exact ⟨this.1, this.2.2⟩
def manyStep (W : Web) (m : Int) (p : Int × Int) : Int := m * (topAt W p.1 + 1)
/-- how many rows of moods one can see -/
def manyRows (W : Web) (f : Int) : Int := (looksOf W f).foldl (manyStep W) 1
abbrev s_many_rows : Stmt := top 23
theorem sc_many_rows : FnScope ["web", "folk", "tops", "_", "many", "one"] ["web", "folk"] (defScope s_many_rows) := ⟨rfl, rfl, rfl, by decide +kernel, rfl, by decide +kernel, by decide +kernel⟩
def spManyRows : Sp := fun vs H Q _ => ∃ (v : V) (W : Web) (f : Int), vs = [v, .int f] ∧ WebAt H v W ∧ W.Ok ∧ ∀ H', Ext H H' → Q (.int (manyRows W f)) H'
theorem foldl_take' {α β : Type} {f : α → β → α} {a : α} {l : List β} {i : Nat} {x : β} (h : l[i]? = some x) : (l.take (i + 1)).foldl f a = f ((l.take i).foldl f a) x := by
  rw [List.take_add_one, h]
  simp
section
variable {P : Program} {w : World} {K : PySem.W.Frag} {mg : Str → Option Value} {base : Heap} {Ps : List Addr}
/-- a look of the list, taken apart -/
theorem look_at {H : Hp} {vs : List V} {ls : List (Int × Int)} {i : Nat} {x : V} (p : Paired (TI H) vs (ls.map row2)) (h : vs[i]? = some x) : ∃ l q, ls[i]? = some l ∧ x = .ref q ∧ H q = some (.tup [.int l.1, .int l.2]) := by
  obtain ⟨row, hrow, q, e, hq⟩ := paired_get' p h
  rw [List.getElem?_map] at hrow
  cases e2 : ls[i]? with
  | none => rw [e2] at hrow; cases hrow
  | some l =>
    rw [e2] at hrow
    obtain rfl := Option.some.inj hrow
    exact ⟨l, q, rfl, e, hq⟩
theorem ok_many_rows {f : Addr} {fd : FuncData} (F : Fun K "many_rows" "many_rows" s_many_rows f fd)
    (c_looks_of : Cal P w K mg base CX0 1 "looks_of" ["web", "folk"] spLooksOf) : FnOk P w K mg base CX0 2 f fd ["web", "folk"] spManyRows := by
  refine F.ok sc_many_rows (fun vs H Q E h => ?_) (fun cdv A outer s H vs Q E hr h => ?_)
  · obtain ⟨v, W, n, rfl, _⟩ := h
    rfl
  · obtain ⟨v, W, n, rfl, hW, ok, k⟩ := h
    obtain ⟨a, t, l, rfl, ha, ⟨b, rfl, hb⟩, hl⟩ := id hW
    refine ⟨_, (pss_cons (ps_asg (pv 0) (pg_tupT (n := 2) rfl (pgs_cons (pg_name (i := 2) sc_many_rows.nd rfl (by first | exact Or.inl rfl | exact Or.inr rfl)) (pgs_cons (pg_name (i := 3) sc_many_rows.nd rfl (by first | exact Or.inl rfl | exact Or.inr rfl)) pgs_nil))))
      (pss_cons (ps_set (i := 4) sc_many_rows.nd rfl (by first | exact Or.inl rfl | exact Or.inr rfl) pe_int)
      (pss_cons (ps_for PassesOwn.never rfl (pi_list (pe_c0 c_looks_of (hr.mono (by decide)) (by rfl) (pa_cons (pv 0) (pa_cons (pv 1) pa_nil)))) (pg_tupT (n := 2) rfl (pgs_cons (pg_name (i := 5) sc_many_rows.nd rfl (by first | exact Or.inl rfl | exact Or.inr rfl)) (pgs_cons (pg_name (i := 3) sc_many_rows.nd rfl (by first | exact Or.inl rfl | exact Or.inr rfl)) pgs_nil)))
        (pss_one (ps_set (i := 4) sc_many_rows.nd rfl (by first | exact Or.inl rfl | exact Or.inr rfl) (pe_op op_mul (pv 4) (pe_op op_add (pe_ix ix_tT (pv 2) (pv 5) (fun _ _ => rfl)) pe_int)))))
      (pss_one (ps_ret (pv 4)))))), ?_⟩
    refine ⟨_, rfl, a, _, rfl, ha, rfl, _, _, rfl, _, _, rfl, rfl, ?_⟩
    refine ⟨_, rfl, _, rfl, _, W, n, rfl, hW, ok.most, fun H1 p vs E1 hp0 hp hvs => ?_⟩
    refine ⟨p, rfl, ⟨_, SqL.of hp⟩, for_list (K := K) (a := p) (xs := vs) (fun i σ H' => ∃ (o3 o5 : Option V), σ = [some (.ref a), some (.int n), some (.ref b), o3, some (.int (((looksOf W n).take i).foldl (manyStep W) 1)), o5] ∧ H' = H1)
      ⟨_, _, rfl, rfl⟩ (fun i σ H' _ ⟨_, _, _, e⟩ => by rw [e]; exact SqL.of hp) ?_ ?_⟩
    · rintro i x σ H' hi ⟨o3, o5, rfl, rfl⟩
      obtain ⟨lk, q, hlk, rfl, hq⟩ := look_at hvs hi
      have h1 := looksOf_ok ok lk (List.mem_of_getElem? hlk)
      have h2 := topAt_ok ok h1.1.1 h1.1.2
      refine ⟨q, _, rfl, hq, rfl, _, _, rfl, _, _, rfl, rfl, ?_⟩
      refine ⟨_, rfl, _, rfl, _, rfl, b, _, _, _, rfl, rfl, E1.tup hb, at_of (show lk.1 = ((lk.1.toNat : Nat) : Int) by omega) (iv_at (topAt_get h1.1.1 h1.1.2)), _, _, rfl, rfl, _, _, rfl, rfl, .inr ⟨by omega, by omega⟩, ?_⟩
      exact ⟨_, _, by rw [foldl_take' hlk]; rfl, rfl⟩
    · rintro σ H' ⟨o3, o5, rfl, rfl⟩
      have e : ((looksOf W n).take vs.length) = looksOf W n := List.take_of_length_le (by rw [paired_len hvs, List.length_map]; exact Nat.le_refl _)
      rw [e]
      exact ⟨_, rfl, k _ E1⟩
def stAt (st : List Int) (i : Int) : Int := st.getD i.toNat 0
def placeStep (W : Web) (st : List Int) (m : Int) (p : Int × Int) : Int := m * (topAt W p.1 + 1) + stAt st p.1
def placeOf (W : Web) (st : List Int) (f : Int) : Int := (looksOf W f).foldl (placeStep W st) 0
/-- a state of the web -/
structure StOk (W : Web) (st : List Int) : Prop where
  len : st.length = W.tops.length
  bd : ∀ i : Int, 0 ≤ i → i < W.tops.length → 0 ≤ stAt st i ∧ stAt st i ≤ topAt W i
theorem stAt_get {st : List Int} {i : Int} (h0 : 0 ≤ i) (h1 : i < st.length) : st[i.toNat]? = some (stAt st i) := by
  unfold stAt
  rw [List.getD_eq_getElem?_getD, List.getElem?_eq_getElem (by omega)]
  rfl
theorem place_bd {W : Web} (ok : W.Ok) {st : List Int} (so : StOk W st) : ∀ (ls : List (Int × Int)) (m p : Int), (∀ l ∈ ls, 0 ≤ l.1 ∧ l.1 < W.tops.length) → 0 ≤ p → p < m → 0 ≤ ls.foldl (placeStep W st) p ∧ ls.foldl (placeStep W st) p < ls.foldl (manyStep W) m
  | [], _, _, _, h0, h1 => ⟨h0, h1⟩
  | l :: ls, m, p, hl, h0, h1 => by
    have hh := hl l (List.mem_cons_self ..)
    have ht := topAt_ok ok hh.1 hh.2
    have hs := so.bd l.1 hh.1 hh.2
    refine place_bd ok so ls (manyStep W m l) (placeStep W st p l) (fun x hx => hl x (List.mem_cons_of_mem _ hx)) ?_ ?_
    · unfold placeStep
      have : 0 ≤ p * (topAt W l.1 + 1) := Int.mul_nonneg h0 (by omega)
      omega
    · unfold placeStep manyStep
      have h2 : (p + 1) * (topAt W l.1 + 1) ≤ m * (topAt W l.1 + 1) := Int.mul_le_mul_of_nonneg_right (by omega) (by omega)
      rw [Int.add_mul, Int.one_mul] at h2
      omega
/-- tables: one for each, as long as there are rows -/
structure RuOk (W : Web) (ru : List (List Int)) : Prop where
  len : ru.length = W.tops.length
  rows : ∀ f : Int, 0 ≤ f → f < W.tops.length → ((ru.getD f.toNat []).length : Int) = manyRows W f
def moodTold (W : Web) (ru : List (List Int)) (st : List Int) (f : Int) : Int := (ru.getD f.toNat []).getD (placeOf W st f).toNat 0
abbrev s_place_seen : Stmt := top 31
theorem sc_place_seen : FnScope ["web", "state", "folk", "tops", "_", "place", "one"] ["web", "state", "folk"] (defScope s_place_seen) := ⟨rfl, rfl, rfl, by decide +kernel, rfl, by decide +kernel, by decide +kernel⟩
abbrev s_mood_told : Stmt := top 32
theorem sc_mood_told : FnScope ["web", "rules", "state", "folk"] ["web", "rules", "state", "folk"] (defScope s_mood_told) := ⟨rfl, rfl, rfl, by decide +kernel, rfl, by decide +kernel, by decide +kernel⟩
def spPlaceSeen : Sp := fun vs H Q _ => ∃ (v z : V) (W : Web) (st : List Int) (f : Int), vs = [v, z, .int f] ∧ WebAt H v W ∧ W.Ok ∧ TI H z st ∧ StOk W st ∧ ∀ H', Ext H H' → Q (.int (placeOf W st f)) H'
def spMoodTold : Sp := fun vs H Q _ => ∃ (v r z : V) (W : Web) (ru : List (List Int)) (st : List Int) (f : Int), vs = [v, r, z, .int f] ∧ WebAt H v W ∧ W.Ok ∧ TT2 H r ru ∧ RuOk W ru ∧ TI H z st ∧ StOk W st ∧ (0 ≤ f ∧ f < W.tops.length) ∧ ∀ H', Ext H H' → Q (.int (moodTold W ru st f)) H'
theorem ok_place_seen {f : Addr} {fd : FuncData} (F : Fun K "place_seen" "place_seen" s_place_seen f fd)
    (c_looks_of : Cal P w K mg base CX0 1 "looks_of" ["web", "folk"] spLooksOf) : FnOk P w K mg base CX0 2 f fd ["web", "state", "folk"] spPlaceSeen := by
  refine F.ok sc_place_seen (fun vs H Q E h => ?_) (fun cdv A outer s H vs Q E hr h => ?_)
  · obtain ⟨v, z, W, st, n, rfl, _⟩ := h
    rfl
  · obtain ⟨v, z, W, st, n, rfl, hW, ok, ⟨sa, rfl, hsa⟩, so, k⟩ := h
    obtain ⟨a, t, l, rfl, ha, ⟨b, rfl, hb⟩, hl⟩ := id hW
    refine ⟨_, (pss_cons (ps_asg (pv 0) (pg_tupT (n := 2) rfl (pgs_cons (pg_name (i := 3) sc_place_seen.nd rfl (by first | exact Or.inl rfl | exact Or.inr rfl)) (pgs_cons (pg_name (i := 4) sc_place_seen.nd rfl (by first | exact Or.inl rfl | exact Or.inr rfl)) pgs_nil))))
      (pss_cons (ps_set (i := 5) sc_place_seen.nd rfl (by first | exact Or.inl rfl | exact Or.inr rfl) pe_int)
      (pss_cons (ps_for PassesOwn.never rfl (pi_list (pe_c0 c_looks_of (hr.mono (by decide)) (by rfl) (pa_cons (pv 0) (pa_cons (pv 2) pa_nil)))) (pg_tupT (n := 2) rfl (pgs_cons (pg_name (i := 6) sc_place_seen.nd rfl (by first | exact Or.inl rfl | exact Or.inr rfl)) (pgs_cons (pg_name (i := 4) sc_place_seen.nd rfl (by first | exact Or.inl rfl | exact Or.inr rfl)) pgs_nil)))
        (pss_one (ps_set (i := 5) sc_place_seen.nd rfl (by first | exact Or.inl rfl | exact Or.inr rfl) (pe_op op_add (pe_op op_mul (pv 5) (pe_op op_add (pe_ix ix_tT (pv 3) (pv 6) (fun _ _ => rfl)) pe_int)) (pe_ix ix_tT (pv 1) (pv 6) (fun _ _ => rfl))))))
      (pss_one (ps_ret (pv 5)))))), ?_⟩
    refine ⟨_, rfl, a, _, rfl, ha, rfl, _, _, rfl, _, _, rfl, rfl, ?_⟩
    refine ⟨_, rfl, _, rfl, _, W, n, rfl, hW, ok.most, fun H1 p vs E1 hp0 hp hvs => ?_⟩
    refine ⟨p, rfl, ⟨_, SqL.of hp⟩, for_list (K := K) (a := p) (xs := vs) (fun i σ H' => ∃ (o3 o5 : Option V), σ = [some (.ref a), some (.ref sa), some (.int n), some (.ref b), o3, some (.int (((looksOf W n).take i).foldl (placeStep W st) 0)), o5] ∧ H' = H1)
      ⟨_, _, rfl, rfl⟩ (fun i σ H' _ ⟨_, _, _, e⟩ => by rw [e]; exact SqL.of hp) ?_ ?_⟩
    · rintro i x σ H' hi ⟨o3, o5, rfl, rfl⟩
      obtain ⟨lk, q, hlk, rfl, hq⟩ := look_at hvs hi
      have h1 := looksOf_ok ok lk (List.mem_of_getElem? hlk)
      have h2 := topAt_ok ok h1.1.1 h1.1.2
      refine ⟨q, _, rfl, hq, rfl, _, _, rfl, _, _, rfl, rfl, ?_⟩
      refine ⟨_, rfl, _, rfl, _, rfl, b, _, _, _, rfl, rfl, E1.tup hb, at_of (show lk.1 = ((lk.1.toNat : Nat) : Int) by omega) (iv_at (topAt_get h1.1.1 h1.1.2)), _, _, rfl, rfl, _, _, rfl, rfl, .inr ⟨by omega, by omega⟩, ?_⟩
      refine ⟨_, rfl, _, rfl, sa, _, _, _, rfl, rfl, E1.tup hsa, at_of (show lk.1 = ((lk.1.toNat : Nat) : Int) by omega) (iv_at (stAt_get h1.1.1 (by rw [so.len]; exact h1.1.2))), _, _, rfl, rfl, ?_⟩
      exact ⟨_, _, by rw [foldl_take' hlk]; rfl, rfl⟩
    · rintro σ H' ⟨o3, o5, rfl, rfl⟩
      have e : ((looksOf W n).take vs.length) = looksOf W n := List.take_of_length_le (by rw [paired_len hvs, List.length_map]; exact Nat.le_refl _)
      rw [e]
      exact ⟨_, rfl, k _ E1⟩
theorem ok_mood_told {f : Addr} {fd : FuncData} (F : Fun K "mood_told" "mood_told" s_mood_told f fd)
    (c_place_seen : Cal P w K mg base CX0 2 "place_seen" ["web", "state", "folk"] spPlaceSeen) : FnOk P w K mg base CX0 3 f fd ["web", "rules", "state", "folk"] spMoodTold := by
  refine F.ok sc_mood_told (fun vs H Q E h => ?_) (fun cdv A outer s H vs Q E hr h => ?_)
  · obtain ⟨v, r, z, W, ru, st, n, rfl, _⟩ := h
    rfl
  · obtain ⟨v, r, z, W, ru, st, n, rfl, hW, ok, ⟨ra, rvs, rfl, hra, hru⟩, rok, hz, so, hn, k⟩ := h
    refine ⟨_, (pss_one (ps_ret (pe_ix ix_tT (pe_ix ix_tT (pv 1) (pv 3) (fun _ _ => rfl)) (pe_c0 c_place_seen (hr.mono (by decide)) (by rfl) (pa_cons (pv 0) (pa_cons (pv 2) (pa_cons (pv 3) pa_nil)))) (fun _ _ => rfl)))), ?_⟩
    have hrl : n.toNat < ru.length := by rw [rok.len]; omega
    have hr1 : ru[n.toNat]? = some (ru.getD n.toNat []) := by rw [List.getD_eq_getElem?_getD, List.getElem?_eq_getElem hrl]; rfl
    obtain ⟨tv, htv, ta, rfl, hta⟩ := paired_get hru hr1
    have hb1 := place_bd ok so (looksOf W n) 1 0 (fun l hl => (looksOf_ok ok l hl).1) (by decide) (by decide)
    have hb2 : (looksOf W n).foldl (placeStep W st) 0 < ((ru.getD n.toNat []).length : Int) := by rw [rok.rows n hn.1 hn.2]; exact hb1.2
    refine ⟨_, rfl, _, rfl, ra, _, _, _, rfl, rfl, hra, at_of (show n = ((n.toNat : Nat) : Int) by omega) htv, _, rfl, _, rfl, _, rfl, _, _, W, st, n, rfl, hW, ok, hz, so, fun H1 E1 => ?_⟩
    refine ⟨ta, _, _, _, rfl, rfl, E1.tup hta, at_of (j := ((looksOf W n).foldl (placeStep W st) 0).toNat) (show (looksOf W n).foldl (placeStep W st) 0 = _ by omega) (iv_at (n := moodTold W ru st n) ?_), k _ E1⟩
    unfold moodTold placeOf
    rw [List.getD_eq_getElem?_getD (l := ru.getD n.toNat []), List.getElem?_eq_getElem (by omega)]
    rfl
end
end Lk

/-! ## D08 -/
set_option Elab.async false
set_option linter.all false
set_option maxRecDepth 100000
set_option maxHeartbeats 2000000
namespace Lk
open PySem PySem.Spec PyProof.Rows L2 Gx
open GxR (TabG Tabbed TabB)
variable [Own]
/-- the places ahead of which a neighbour stands, n of them in all -/
def placesOf (n s z : Nat) : List Nat := (List.range n).filter fun p => decide (p / s % z < z - 1)
def goesAlong (tb : List Int) (s z : Nat) (sg : Int) : Bool := (placesOf tb.length s z).all fun p => decide (0 ≤ (tb.getD (p + s) 0 - tb.getD p 0) * sg)
abbrev s_goes_along : Stmt := top 25
theorem sc_goes_along : FnScope ["table", "step", "size", "sign", "place", "places"] ["table", "step", "size", "sign"] (defScope s_goes_along) := ⟨rfl, rfl, rfl, by decide +kernel, rfl, by decide +kernel, by decide +kernel⟩
def spGoesAlong (Ps : List Addr) : Sp := fun vs H Q _ => ∃ (v : V) (tb : List Int) (s z : Nat) (sg : Int), vs = [v, .int s, .int z, .int sg] ∧ TI H v tb ∧ (0 < s ∧ s < 1000000) ∧ (0 < z ∧ z < 1000000) ∧ (sg = 1 ∨ sg = -1) ∧ tb.length ≤ 1000000 ∧ (∀ p ∈ placesOf tb.length s z, p + s < tb.length) ∧ Tabs Ps H ∧ ∀ H', Ext H H' → Q (.bl (goesAlong tb s z sg)) H'
section
variable {P : Program} {w : World} {K : PySem.W.Frag} {mg : Str → Option Value} {base : Heap} {Ps : List Addr}
theorem getD_get {l : List Int} {i : Nat} (h : i < l.length) : l[i]? = some (l.getD i 0) := by rw [List.getD_eq_getElem?_getD, List.getElem?_eq_getElem h]; rfl
theorem filter_take {α : Type} {f : α → Bool} {l : List α} {i : Nat} {x : α} (h : l[i]? = some x) : (l.take (i + 1)).filter f = (l.take i).filter f ++ (if f x = true then [x] else []) := by
  rw [List.take_add_one, h, List.filter_append]
  show _ ++ List.filter f [x] = _
  rw [List.filter_cons]
  by_cases hf : f x = true <;> simp [hf]
theorem ok_goes_along {f T : Addr} {fd : FuncData} (F : FunT K mg base Ps "goes_along" s_goes_along f fd T) (B : Blt mg) : FnOk P w K mg base CX0 2 f fd ["table", "step", "size", "sign"] (spGoesAlong Ps) := by
  refine F.ok sc_goes_along (fun vs H Q E h => ?_) (fun c A outer s0 H vs Q E TB hr h => ?_)
  · obtain ⟨v, tb, s, z, sg, rfl, _⟩ := h
    rfl
  · obtain ⟨v, tb, s, z, sg, rfl, ⟨a, rfl, ha⟩, hs, hz, hsg, hlen, hpl, hTb, k⟩ := h
    refine ⟨_, (pss_cons (ps_setLc (i := 5) (own := [("place", 4)]) rfl sc_goes_along.nd rfl rfl (sw_true rfl rfl rfl (by decide +kernel)) (pi_range1 (by rfl) B.range (pa_cons (pe_callB call_lenT (by rfl) B.len PySem.boot_len (pa_cons (pv 0) pa_nil)) pa_nil)) (blkOk_by (N := ["table", "step", "size", "sign", "place", "places"]) (sc := defScope s_goes_along) (by decide +kernel)) (fun _ _ _ _ _ => (pg_name (i := 4) sc_goes_along.nd rfl (by first | exact Or.inl rfl | exact Or.inr rfl))) (fun _ _ _ _ _ => (pts_one (pt_cmpR op_lt (pe_op op_mod (pe_op op_fdiv (pv 4) (pv 1)) (pv 2)) (pe_op op_sub (pv 2) pe_int) (nomark _)))) (fun _ _ _ _ _ => (pv 4)))
      (pss_one (ps_ret (pe_allG (own := [("place", 4)]) (k := 0) (hr.mono (by decide)) rfl sc_goes_along.nd (by rfl) B.all TB rfl (pi_list (pv 5)) ⟨(blkOk_by (N := ["table", "step", "size", "sign", "place", "places"]) (sc := defScope s_goes_along) (by decide +kernel)), noCells_ok (by decide +kernel), rfl, rfl⟩ (fun _ _ _ _ _ _ => (pg_name (i := 4) sc_goes_along.nd rfl (by first | exact Or.inl rfl | exact Or.inr rfl))) (fun _ _ _ _ _ _ hr' => pts_nil) (fun _ _ _ _ _ _ hr' => (pe_cmpR op_ge (pe_op op_mul (pe_op op_sub (pe_ix ix_tT (pv 0) (pe_op op_add (pv 4) (pv 1)) (fun _ _ => rfl)) (pe_ix ix_tT (pv 0) (pv 4) (fun _ _ => rfl))) (pv 3)) pe_int (nomark _))))))), ?_⟩
    refine ⟨_, rfl, a, _, rfl, .inr ha, _, rfl, by omega, by rw [iv_len]; omega, fun D hD => ?_⟩
    have en : ((iv tb).length : Int).toNat = tb.length := by rw [iv_len]; omega
    rw [en]
    refine lc_range (lo := 0) (n := tb.length) (fun i H' => H' D = some (.lst ((((List.range tb.length).take i).filter fun p => decide (p / s % z < z - 1)).map fun p : Nat => V.int (p : Int))) ∧ Ext H H') ⟨upd_same, Ext.new hD _⟩ (fun i H' hi ⟨hL, e⟩ => ?_) fun H' ⟨hL, e⟩ => ?_
    · refine ⟨rfl, _, rfl, _, rfl, _, _, rfl, rfl, ⟨by omega, by omega⟩, _, rfl, _, _, rfl, rfl, by omega, _, rfl, _, _, rfl, rfl, _, _, rfl, rfl, _, rfl, ?_⟩
      have er : (List.range tb.length)[i]? = some i := by rw [List.getElem?_range hi]
      have ei : (0 : Int) + (i : Int) = (i : Int) := Int.zero_add _
      have ed : decide ((0 + (i : Int)) / (s : Int) % (z : Int) < (z : Int) - 1) = decide (i / s % z < z - 1) := by
        rw [ei]
        refine decide_eq_decide.mpr ?_
        have e1 : (i : Int) / (s : Int) % (z : Int) = ((i / s % z : Nat) : Int) := by norm_cast
        rw [e1]
        omega
      rw [ed, filter_take er]
      by_cases hc : i / s % z < z - 1
      · rw [decide_eq_true hc]
        refine iteT ⟨_, rfl, _, hL, ?_, ?_, e.put hD _⟩
        · rw [List.length_map]
          refine Nat.lt_of_le_of_lt (List.length_filter_le _ _) ?_
          rw [List.length_take, List.length_range]
          exact Nat.lt_of_lt_of_le (Nat.lt_of_le_of_lt (Nat.min_le_left _ _) (by omega : i < 1000001)) (by decide)
        · rw [upd_same, if_pos rfl, List.map_append, ei]
          rfl
      · rw [decide_eq_false hc]
        exact iteF ⟨by rw [hL]; simp, e⟩
    · have et : (List.range tb.length).take tb.length = List.range tb.length := List.take_of_length_le (by rw [List.length_range]; exact Nat.le_refl _)
      rw [et] at hL
      have hg : TabG H' T := e.tab T (hTb T F.mem)
      refine ⟨_, rfl, D, rfl, ⟨_, SqL.of hL⟩, hg, fun H2 hT2 => ?_⟩
      have E2 : Ext H' H2 := Ext.tabbed F.nown hg hT2
      have E3 := e.trans E2
      refine quant_it (walk_list (xs := (placesOf tb.length s z).map fun p : Nat => V.int (p : Int))) (fun i H' => H' = H2 ∧ ∀ p ∈ (placesOf tb.length s z).take i, decide (0 ≤ (tb.getD (p + s) 0 - tb.getD p 0) * sg) = true) ⟨rfl, by simp⟩ (fun i H' _ e => by rw [e.1]; exact SqL.of (E2.lst hL)) (fun i x H4 H5 hi e4 y => ?_) fun H4 e4 => ?_
      · obtain ⟨rfl, h4⟩ := e4
        obtain ⟨rfl, hx⟩ := y
        rw [List.getElem?_map] at hx
        cases e5 : (placesOf tb.length s z)[i]? with
        | none => rw [e5] at hx; cases hx
        | some p =>
          rw [e5] at hx
          obtain rfl := Option.some.inj hx
          have hp1 := hpl p (List.mem_of_getElem? e5)
          refine ⟨rfl, yes ?_⟩
          refine ⟨_, rfl, _, rfl, _, rfl, _, _, rfl, rfl, a, _, _, _, rfl, rfl, E3.tup ha, at_of (j := p + s) (by omega) (iv_at (getD_get hp1)), _, rfl, _, rfl, a, _, _, _, rfl, rfl, E3.tup ha, at_of (j := p) rfl (iv_at (getD_get (by omega))), _, _, rfl, rfl, _, rfl, _, _, rfl, rfl, .inr ⟨by omega, by omega⟩, _, _, rfl, rfl, ?_⟩
          by_cases hc : 0 ≤ (tb.getD (p + s) 0 - tb.getD p 0) * sg
          · refine ⟨true, congrArg V.bl (decide_eq_true hc), iteTF ⟨rfl, fun q hq => ?_⟩⟩
            rw [List.take_add_one, e5] at hq
            rcases List.mem_append.mp hq with hq | hq
            · exact h4 q hq
            · rw [List.mem_singleton.mp hq]
              exact decide_eq_true hc
          · refine ⟨false, congrArg V.bl (decide_eq_false hc), iteFF ?_⟩
            have e6 : goesAlong tb s z sg = false := by
              unfold goesAlong
              rw [Bool.eq_false_iff]
              intro hall
              have := List.all_eq_true.mp hall p (List.mem_of_getElem? e5)
              exact hc (of_decide_eq_true this)
            have hk := k _ E3
            rw [e6] at hk
            exact hk
      · obtain ⟨rfl, h4⟩ := e4
        rw [List.length_map, List.take_length] at h4
        have e6 : goesAlong tb s z sg = true := List.all_eq_true.mpr h4
        have hk := k _ E3
        rw [e6] at hk
        exact hk
end
end Lk

/-! ## D09 -/
set_option Elab.async false
set_option linter.all false
set_option maxRecDepth 100000
set_option maxHeartbeats 2000000
namespace Lk
open PySem PySem.Spec PyProof.Rows L2 Gx
open GxR (TabG Tabbed TabB)
variable [Own]
/-- the looks from the last: s, how far apart neighbours lie -/
def goLoop (W : Web) (tb : List Int) : List (Int × Int) → Nat → Bool
  | [], _ => true
  | l :: r, s => goesAlong tb s (topAt W l.1 + 1).toNat l.2 && goLoop W tb r (s * (topAt W l.1 + 1).toNat)
def isTable (W : Web) (f : Int) (tb : List Int) : Bool := decide ((tb.length : Int) = manyRows W f) && tb.all (fun m => isWhole m 0 (topAt W f)) && goLoop W tb (looksOf W f).reverse 1
abbrev s_ways_of : Stmt := top 24
theorem sc_ways_of : FnScope ["web", "folk", "tops", "_", "found", "step", "one", "sign"] ["web", "folk"] (defScope s_ways_of) := ⟨rfl, rfl, rfl, by decide +kernel, rfl, by decide +kernel, by decide +kernel⟩
abbrev s_is_table : Stmt := top 26
theorem sc_is_table : FnScope ["web", "folk", "value", "tops", "_", "mood", "step", "size", "sign"] ["web", "folk", "value"] (defScope s_is_table) := ⟨rfl, rfl, rfl, by decide +kernel, rfl, by decide +kernel, by decide +kernel⟩
def spIsTable (Ps : List Addr) : Sp := fun vs H Q _ => ∃ (v t : V) (W : Web) (f : Int) (tb : List Int), vs = [v, .int f, t] ∧ WebAt H v W ∧ W.Ok ∧ (0 ≤ f ∧ f < W.tops.length) ∧ TI H t tb ∧ tb.length ≤ 1000000 ∧ Tabs Ps H ∧ ∀ H', Ext H H' → Q (.bl (isTable W f tb)) H'
/-- the product of the sizes of looks -/
def prodOf (W : Web) (ls : List (Int × Int)) : Nat := ls.foldl (fun m l => m * (topAt W l.1 + 1).toNat) 1
theorem prod_mul (W : Web) : ∀ (ls : List (Int × Int)) (a : Nat), ls.foldl (fun m l => m * (topAt W l.1 + 1).toNat) a = a * prodOf W ls
  | [], a => by simp [prodOf]
  | l :: ls, a => by
    unfold prodOf
    rw [List.foldl_cons, List.foldl_cons, prod_mul W ls, prod_mul W ls (1 * _), Nat.one_mul, Nat.mul_assoc]
theorem prod_cons (W : Web) (l : Int × Int) (ls : List (Int × Int)) : prodOf W (l :: ls) = (topAt W l.1 + 1).toNat * prodOf W ls := by
  show List.foldl _ _ _ = _
  rw [List.foldl_cons, Nat.one_mul, prod_mul]
theorem prod_snoc (W : Web) (l : Int × Int) (ls : List (Int × Int)) : prodOf W (ls ++ [l]) = prodOf W ls * (topAt W l.1 + 1).toNat := by
  unfold prodOf
  rw [List.foldl_append]
  rfl
theorem prod_rev (W : Web) : ∀ ls : List (Int × Int), prodOf W ls.reverse = prodOf W ls
  | [] => rfl
  | l :: ls => by rw [List.reverse_cons, prod_snoc, prod_rev W ls, prod_cons, Nat.mul_comm]
theorem many_prod {W : Web} (ok : W.Ok) : ∀ (ls : List (Int × Int)) (a : Nat), (∀ l ∈ ls, 0 ≤ l.1 ∧ l.1 < W.tops.length) → ls.foldl (manyStep W) (a : Int) = ((a * prodOf W ls : Nat) : Int)
  | [], a, _ => by simp [prodOf]
  | l :: ls, a, h => by
    have hh := h l (List.mem_cons_self ..)
    have ht := topAt_ok ok hh.1 hh.2
    rw [List.foldl_cons]
    have e : manyStep W (a : Int) l = ((a * (topAt W l.1 + 1).toNat : Nat) : Int) := by
      unfold manyStep
      rw [Int.natCast_mul]
      congr 1
      omega
    rw [e, many_prod ok ls _ (fun x hx => h x (List.mem_cons_of_mem _ hx)), prod_cons, Nat.mul_assoc]
theorem many_eq {W : Web} (ok : W.Ok) (f : Int) : manyRows W f = ((prodOf W (looksOf W f) : Nat) : Int) := by
  have := many_prod ok (looksOf W f) 1 fun l hl => (looksOf_ok ok l hl).1
  rw [Nat.one_mul] at this
  exact this
theorem prod_pos {W : Web} (ok : W.Ok) : ∀ ls : List (Int × Int), (∀ l ∈ ls, 0 ≤ l.1 ∧ l.1 < W.tops.length) → 0 < prodOf W ls
  | [], _ => by simp [prodOf]
  | l :: ls, h => by
    have hh := h l (List.mem_cons_self ..)
    have ht := topAt_ok ok hh.1 hh.2
    rw [prod_cons]
    exact Nat.mul_pos (by omega) (prod_pos ok ls fun x hx => h x (List.mem_cons_of_mem _ hx))
/-- where a neighbour stands: within the table -/
theorem places_in {n s z r : Nat} (hs : 0 < s) (hz : 0 < z) (hn : n = s * z * r) : ∀ p ∈ placesOf n s z, p + s < n := by
  intro p hp
  unfold placesOf at hp
  obtain ⟨h1, h2⟩ := List.mem_filter.mp hp
  have h1 := List.mem_range.mp h1
  have h2 : p / s % z < z - 1 := of_decide_eq_true h2
  -- p = s * (z * b + d) + c
  have e1 : p = s * (p / s) + p % s := (Nat.div_add_mod p s).symm
  have e2 : p / s = z * (p / s / z) + p / s % z := (Nat.div_add_mod _ z).symm
  have c1 : p % s < s := Nat.mod_lt _ hs
  have b1 : p / s / z < r := by
    rw [Nat.div_div_eq_div_mul]
    exact Nat.div_lt_of_lt_mul (by rw [← hn]; exact h1)
  generalize p / s / z = b at e2 b1
  generalize p / s % z = d at e2 h2
  generalize p % s = c at e1 c1
  rw [e2] at e1
  rw [hn, e1]
  have h3 : z * b + d + 1 < z * (b + 1) := by rw [Nat.mul_add, Nat.mul_one]; omega
  have h4 : z * (b + 1) ≤ z * r := Nat.mul_le_mul_left _ b1
  have h5 : s * (z * b + d + 1 + 1) ≤ s * (z * r) := Nat.mul_le_mul_left _ (by omega)
  rw [← Nat.mul_assoc s z r] at h5
  rw [Nat.mul_add, Nat.mul_add, Nat.mul_one] at h5
  omega
section
variable {P : Program} {w : World} {K : PySem.W.Frag} {mg : Str → Option Value} {base : Heap} {Ps : List Addr}
theorem rev_paired {α β : Type} {R : α → β → Prop} : ∀ {l : List α} {m : List β}, Paired R l m → Paired R l.reverse m.reverse
  | _, _, .nil => .nil
  | _, _, .cons r t => by rw [List.reverse_cons, List.reverse_cons]; exact paired_snoc r (rev_paired t)
theorem goLoop_false {W : Web} {tb : List Int} : ∀ {ls : List (Int × Int)} {i : Nat} {l : Int × Int} {s : Nat}, ls[i]? = some l → goesAlong tb (s * prodOf W (ls.take i)) (topAt W l.1 + 1).toNat l.2 = false → goLoop W tb ls s = false
  | [], _, _, _, h, _ => by simp at h
  | k :: ls, 0, l, s, h, hg => by
    obtain rfl : k = l := by simpa using h
    unfold goLoop
    have : s * prodOf W (List.take 0 (k :: ls)) = s := by simp [prodOf]
    rw [this] at hg
    rw [hg, Bool.false_and]
  | k :: ls, i + 1, l, s, h, hg => by
    unfold goLoop
    rw [goLoop_false (ls := ls) (i := i) (l := l) (by simpa using h), Bool.and_false]
    rw [List.take_succ_cons, prod_cons, ← Nat.mul_assoc] at hg
    exact hg
theorem goLoop_true {W : Web} {tb : List Int} : ∀ {ls : List (Int × Int)} {s : Nat}, (∀ i l, ls[i]? = some l → goesAlong tb (s * prodOf W (ls.take i)) (topAt W l.1 + 1).toNat l.2 = true) → goLoop W tb ls s = true
  | [], _, _ => rfl
  | k :: ls, s, h => by
    unfold goLoop
    have h0 := h 0 k rfl
    have : s * prodOf W (List.take 0 (k :: ls)) = s := by simp [prodOf]
    rw [this] at h0
    rw [h0, Bool.true_and]
    refine goLoop_true fun i l hl => ?_
    have h1 := h (i + 1) l (by simpa using hl)
    rw [List.take_succ_cons, prod_cons, ← Nat.mul_assoc] at h1
    exact h1
theorem looks_len {W : Web} (ok : W.Ok) (f : Int) : (looksOf W f).length ≤ 4 := by
  have h := ok.four f
  rw [List.filter_map, List.length_map] at h
  unfold looksOf
  rw [List.length_map]
  exact h
/-- for each look, the last one ahead: how far apart, how many, the sign -/
def wayRow (W : Web) (ls : List (Int × Int)) (i : Nat) : List Int := [((prodOf W (ls.take i) : Nat) : Int), topAt W (ls.getD i (0, 0)).1 + 1, (ls.getD i (0, 0)).2]
def waysOf (W : Web) (f : Int) : List (List Int) := (List.range (looksOf W f).length).map (wayRow W (looksOf W f).reverse)
def spWaysOf : Sp := fun vs H Q _ => ∃ (v : V) (W : Web) (f : Int), vs = [v, .int f] ∧ WebAt H v W ∧ W.Ok ∧ ∀ H' p us, Ext H H' → H p = none → H' p = some (.lst us) → Paired (TI H') us (waysOf W f) → Q (.ref p) H'
theorem ok_ways_of {f : Addr} {fd : FuncData} (F : Fun K "ways_of" "ways_of" s_ways_of f fd)
    (c_looks_of : Cal P w K mg base CX0 1 "looks_of" ["web", "folk"] spLooksOf) : FnOk P w K mg base CX0 2 f fd ["web", "folk"] spWaysOf := by
  refine F.ok sc_ways_of (fun vs H Q E h => ?_) (fun cdv A outer s H vs Q E hr h => ?_)
  · obtain ⟨v, W, n, rfl, _⟩ := h
    rfl
  · obtain ⟨v, W, n, rfl, hW, ok, k⟩ := h
    obtain ⟨a, t, l, rfl, ha, ⟨b, rfl, hb⟩, hl⟩ := id hW
    refine ⟨_, (pss_cons (ps_asg (pv 0) (pg_tupT (n := 2) rfl (pgs_cons (pg_name (i := 2) sc_ways_of.nd rfl (by first | exact Or.inl rfl | exact Or.inr rfl)) (pgs_cons (pg_name (i := 3) sc_ways_of.nd rfl (by first | exact Or.inl rfl | exact Or.inr rfl)) pgs_nil))))
      (pss_cons (ps_set (i := 4) sc_ways_of.nd rfl (by first | exact Or.inl rfl | exact Or.inr rfl) (pe_lst pa_nil))
      (pss_cons (ps_set (i := 5) sc_ways_of.nd rfl (by first | exact Or.inl rfl | exact Or.inr rfl) pe_int)
      (pss_cons (ps_for PassesOwn.never rfl (pi_list (pe_revL (pe_c0 c_looks_of (hr.mono (by decide)) (by rfl) (pa_cons (pv 0) (pa_cons (pv 1) pa_nil))))) (pg_tupT (n := 2) rfl (pgs_cons (pg_name (i := 6) sc_ways_of.nd rfl (by first | exact Or.inl rfl | exact Or.inr rfl)) (pgs_cons (pg_name (i := 7) sc_ways_of.nd rfl (by first | exact Or.inl rfl | exact Or.inr rfl)) pgs_nil)))
        (pss_cons (ps_expr (pe_bmL PySem.F.plainAttrs_list PySem.F.slot_list_append PySem.F.type_list_append mt_append (pv 4) (pa_cons (pe_tup (pa_cons (pv 5) (pa_cons (pe_op op_add (pe_ix ix_tT (pv 2) (pv 6) (fun _ _ => rfl)) pe_int) (pa_cons (pv 7) pa_nil)))) pa_nil)))
        (pss_one (ps_set (i := 5) sc_ways_of.nd rfl (by first | exact Or.inl rfl | exact Or.inr rfl) (pe_op op_mul (pv 5) (pe_op op_add (pe_ix ix_tT (pv 2) (pv 6) (fun _ _ => rfl)) pe_int))))))
      (pss_one (ps_ret (pv 4))))))), ?_⟩
    refine ⟨_, rfl, a, _, rfl, ha, rfl, _, _, rfl, _, _, rfl, rfl, ?_⟩
    refine ⟨(by show 0 ≤ sizeLine; decide), fun L hL => ?_⟩
    have EL := Ext.new hL (.lst [])
    refine ⟨_, rfl, _, rfl, _, W, n, rfl, hW.ext EL, ok.most, fun H6 p vs E6 hp0 hp hvs => ?_⟩
    refine ⟨p, _, rfl, SqL.of hp, fun q hq => ?_⟩
    have E8 := (EL.trans E6).trans (Ext.new hq (.lst vs.reverse))
    have hrv : Paired (TI (upd H6 q (.lst vs.reverse))) vs.reverse ((looksOf W n).reverse.map row2) := by
      rw [List.map_reverse]
      exact rev_paired (pTI.ext (Ext.new hq _) hvs)
    have hL6 : H6 L = some (.lst []) := E6.lst upd_same
    have hLq : L ≠ q := ne_of_none hL6 hq
    have hLs : (upd H6 q (.lst vs.reverse)) L = some (.lst []) := by rw [upd_ne hLq]; exact hL6
    generalize hHb : upd H6 q (.lst vs.reverse) = Hb at *
    have hqv : Hb q = some (.lst vs.reverse) := by rw [← hHb]; exact upd_same
    refine ⟨q, rfl, ⟨_, SqL.of hqv⟩, for_list (K := K) (a := q) (xs := vs.reverse) (fun i σ H' => ∃ (o3 o6 o7 : Option V) (acc : List V), σ = [some (.ref a), some (.int n), some (.ref b), o3, some (.ref L), some (.int ((prodOf W ((looksOf W n).reverse.take i) : Nat) : Int)), o6, o7] ∧ Ext H H' ∧ H' q = some (.lst vs.reverse) ∧ Paired (TI H') vs.reverse ((looksOf W n).reverse.map row2) ∧ H' L = some (.lst acc) ∧ acc.length = i ∧ Paired (TI H') acc ((List.range i).map (wayRow W (looksOf W n).reverse)))
      ⟨_, _, _, [], rfl, E8, hqv, hrv, hLs, rfl, .nil⟩ (fun i σ H' _ ⟨_, _, _, _, _, _, e, _⟩ => SqL.of e) ?_ ?_⟩
    · rintro i x σ H' hi ⟨o3, o6, o7, acc, rfl, E9, hq9, hv9, hL9, hlen, hacc⟩
      obtain ⟨lk, z, hlk, rfl, hz⟩ := look_at hv9 hi
      have hmem : lk ∈ looksOf W n := List.mem_reverse.mp (List.mem_of_getElem? hlk)
      have h1 := looksOf_ok ok lk hmem
      have h2 := topAt_ok ok h1.1.1 h1.1.2
      have hi4 : i < vs.length := by
        have := (List.getElem?_eq_some_iff.mp hi).1
        rwa [List.length_reverse] at this
      have hvl : vs.length ≤ 14 := by
        rw [paired_len hvs, List.length_map]
        exact Nat.le_trans (looks_len ok n) (by decide)
      refine ⟨z, _, rfl, hz, rfl, _, _, rfl, _, _, rfl, rfl, ?_⟩
      have hbt := E9.tup hb
      have htop := at_of (show lk.1 = ((lk.1.toNat : Nat) : Int) by omega) (iv_at (topAt_get h1.1.1 h1.1.2))
      refine ⟨_, rfl, ⟨L, acc, rfl, hL9⟩, _, rfl, _, rfl, _, rfl, b, _, _, _, rfl, rfl, hbt, htop, _, _, rfl, rfl, _, rfl, (by show 3 ≤ sizeLine; decide), fun u hu => ?_⟩
      have hLu : L ≠ u := ne_of_none hL9 hu
      have E10 := (E9.trans (Ext.new hu (.tup [.int ((prodOf W ((looksOf W n).reverse.take i) : Nat) : Int), .int (topAt W lk.1 + 1), .int lk.2]))).put hL (.lst (acc ++ [.ref u]))
      refine ⟨L, acc, _, rfl, rfl, by rw [upd_ne hLu]; exact hL9, small1000 (by omega), ?_⟩
      refine ⟨_, rfl, _, rfl, _, rfl, b, _, _, _, rfl, rfl, E10.tup hb, htop, _, _, rfl, rfl, _, _, rfl, rfl, .inr ⟨by omega, by omega⟩, ?_⟩
      have ez : (topAt W lk.1 + 1 : Int) = (((topAt W lk.1 + 1).toNat : Nat) : Int) := by omega
      have hps : prodOf W ((looksOf W n).reverse.take (i + 1)) = prodOf W ((looksOf W n).reverse.take i) * (topAt W lk.1 + 1).toNat := by
        rw [List.take_add_one, hlk]
        exact prod_snoc W lk _
      refine ⟨_, _, _, _, by rw [hps, Int.natCast_mul, ← ez]; rfl, E10, ?_, ?_, upd_same, by rw [List.length_append, hlen]; rfl, ?_⟩
      · rw [upd_ne hLq.symm, upd_ne (ne_of_none hq9 hu)]
        exact hq9
      · exact pTI.put (H := H') (D := L) (acc := acc) hL9 (fun c xs hc => by rw [upd_ne (ne_of_none hc hu)]; exact hc) hv9
      · rw [List.range_succ, List.map_append]
        refine paired_snoc ⟨u, rfl, ?_⟩ (pTI.put (H := H') (D := L) (acc := acc) hL9 (fun c xs hc => by rw [upd_ne (ne_of_none hc hu)]; exact hc) hacc)
        rw [upd_ne hLu.symm, upd_same]
        unfold wayRow
        rw [List.getD_eq_getElem?_getD, hlk]
        rfl
    · rintro σ H' ⟨o3, o6, o7, acc, rfl, E9, hq9, hv9, hL9, hlen, hacc⟩
      refine ⟨_, rfl, k H' L acc E9 hL hL9 ?_⟩
      have : vs.reverse.length = (looksOf W n).length := by rw [List.length_reverse, paired_len hvs, List.length_map]
      rw [this] at hacc
      exact hacc
theorem ok_is_table {f T : Addr} {fd : FuncData} (F : FunT K mg base Ps "is_table" s_is_table f fd T) (B : Blt mg)
    (c_is_whole : Cal P w K mg base CX0 1 "is_whole" ["value", "least", "most"] spIsWhole)
    (c_ways_of : Cal P w K mg base CX0 2 "ways_of" ["web", "folk"] spWaysOf)
    (c_many_rows : Cal P w K mg base CX0 2 "many_rows" ["web", "folk"] spManyRows)
    (c_goes_along : Cal P w K mg base CX0 2 "goes_along" ["table", "step", "size", "sign"] (spGoesAlong Ps)) : FnOk P w K mg base CX0 4 f fd ["web", "folk", "value"] (spIsTable Ps) := by
  refine F.ok sc_is_table (fun vs H Q E h => ?_) (fun c A outer s0 H vs Q E TB hr h => ?_)
  · obtain ⟨v, t, W, n, tb, rfl, _⟩ := h
    rfl
  · obtain ⟨v, tv, W, n, tb, rfl, hW, ok, hn, ⟨ta, rfl, hta⟩, hlen, hTb, k⟩ := h
    obtain ⟨a, t, l, rfl, ha, ⟨b, rfl, hb⟩, hl⟩ := id hW
    refine ⟨_, (pss_cons (ps_asg (pv 0) (pg_tupT (n := 2) rfl (pgs_cons (pg_name (i := 3) sc_is_table.nd rfl (by first | exact Or.inl rfl | exact Or.inr rfl)) (pgs_cons (pg_name (i := 4) sc_is_table.nd rfl (by first | exact Or.inl rfl | exact Or.inr rfl)) pgs_nil))))
      (pss_cons (ps_if (PW.pt (pw_or (pt_not (pt_val (pe_callB call_isi (by rfl) B.isi boot_isinstance (pa_cons (pv 2) (pa_cons (pe_bltn (v := .ty "tuple") (by rfl) B.tuple boot_tyTuple rfl) pa_nil))))) (pw_or1 (pt_cmpR op_ne (pe_callB call_lenT (by rfl) B.len PySem.boot_len (pa_cons (pv 2) pa_nil)) (pe_c0 c_many_rows (hr.mono (by decide)) (by rfl) (pa_cons (pv 0) (pa_cons (pv 1) pa_nil))) (nomark _)))))
        (pss_one (ps_ret pe_bl)) pss_nil)
      (pss_cons (ps_if (pt_not (pt_val (pe_allG (own := [("mood", 5)]) (k := 2) (hr.mono (by decide)) rfl sc_is_table.nd (by rfl) B.all TB rfl (pi_tup (pv 2)) ⟨(blkOk_by (N := ["web", "folk", "value", "tops", "_", "mood", "step", "size", "sign"]) (sc := defScope s_is_table) (by decide +kernel)), noCells_ok (by decide +kernel), rfl, rfl⟩ (fun _ _ _ _ _ _ => (pg_name (i := 5) sc_is_table.nd rfl (by first | exact Or.inl rfl | exact Or.inr rfl))) (fun _ _ _ _ _ _ hr' => pts_nil) (fun _ _ _ _ _ _ hr' => (pe_c0 c_is_whole (hr'.mono (by decide)) (by rfl) (pa_cons (pv 5) (pa_cons pe_int (pa_cons (pe_ix ix_tT (pv 3) (pv 1) (fun _ _ => rfl)) pa_nil))))))))
        (pss_one (ps_ret pe_bl)) pss_nil)
      (pss_one (ps_ret (pe_allG (own := [("step", 6), ("size", 7), ("sign", 8)]) (k := 2) (hr.mono (by decide)) rfl sc_is_table.nd (by rfl) B.all TB rfl (pi_list (pe_c0 c_ways_of (hr.mono (by decide)) (by rfl) (pa_cons (pv 0) (pa_cons (pv 1) pa_nil)))) ⟨(blkOk_by (N := ["web", "folk", "value", "tops", "_", "mood", "step", "size", "sign"]) (sc := defScope s_is_table) (by decide +kernel)), noCells_ok (by decide +kernel), rfl, rfl⟩ (fun _ _ _ _ _ _ => (pg_tupT (n := 3) rfl (pgs_cons (pg_name (i := 6) sc_is_table.nd rfl (by first | exact Or.inl rfl | exact Or.inr rfl)) (pgs_cons (pg_name (i := 7) sc_is_table.nd rfl (by first | exact Or.inl rfl | exact Or.inr rfl)) (pgs_cons (pg_name (i := 8) sc_is_table.nd rfl (by first | exact Or.inl rfl | exact Or.inr rfl)) pgs_nil))))) (fun _ _ _ _ _ _ hr' => pts_nil) (fun _ _ _ _ _ _ hr' => (pe_c0 c_goes_along (hr'.mono (by decide)) (by rfl) (pa_cons (pv 2) (pa_cons (pv 6) (pa_cons (pv 7) (pa_cons (pv 8) pa_nil)))))))))))), ?_⟩
    refine ⟨_, rfl, a, _, rfl, ha, rfl, _, _, rfl, _, _, rfl, rfl, ?_⟩
    refine ⟨_, rfl, _, _, _, _, true, rfl, .ty "tuple", isi_tup hta, kit_ty (by decide +kernel), _, rfl, iteF ?_⟩
    refine ⟨_, rfl, _, _, rfl, .inr hta, ⟨_, rfl, _, rfl, _, W, n, rfl, hW, ok, fun H1 E1 => ?_⟩⟩
    have k1 := fun H' e => k H' e
    unfold isTable at k1
    refine ⟨rfl, _, rfl, ?_⟩
    by_cases hl1 : (tb.length : Int) = manyRows W n
    · have e1 : (!decide (V.int ((iv tb).length : Int) = V.int (manyRows W n))) = false := by
        rw [iv_len, decide_eq_true (by rw [hl1])]
        rfl
      rw [e1]
      refine iteF ?_
      have hg : TabG H1 T := E1.tab T (hTb T F.mem)
      have ht1 := topAt_get hn.1 hn.2
      refine ⟨_, rfl, ta, rfl, ⟨_, SqT.of (E1.tup hta)⟩, hg, fun H2 hT2 => ?_⟩
      have E2 : Ext H H2 := E1.trans (Ext.tabbed F.nown hg hT2)
      refine quant_test (walk_tup (K := K) (xs := iv tb)) (fun i H' => H' = H2 ∧ ∀ m ∈ tb.take i, isWhole m 0 (topAt W n) = true) ⟨rfl, by simp⟩ (fun i H' _ e => by rw [e.1]; exact SqT.of (E2.tup hta)) (fun i x H4 H5 hi e4 y => ?_) fun H4 e4 => ?_
      · obtain ⟨rfl, h4⟩ := e4
        obtain ⟨rfl, hx⟩ := y
        obtain ⟨m, hm, rfl⟩ := iv_get hx
        refine ⟨rfl, yes ?_⟩
        refine ⟨_, rfl, _, rfl, _, rfl, b, _, _, _, rfl, rfl, E2.tup hb, at_of (show n = ((n.toNat : Nat) : Int) by omega) (iv_at ht1), m, 0, topAt W n, rfl, ?_⟩
        cases hc : isWhole m 0 (topAt W n) with
        | true =>
          refine ⟨true, rfl, iteTF ⟨rfl, fun q hq => ?_⟩⟩
          rw [List.take_add_one, hm] at hq
          rcases List.mem_append.mp hq with hq | hq
          · exact h4 q hq
          · rw [List.mem_singleton.mp hq]
            exact hc
        | false =>
          refine ⟨false, rfl, iteFF ?_⟩
          refine ⟨_, rfl, iteT ?_⟩
          have hk := k1 H5 E2
          have e6 : (tb.all fun m => isWhole m 0 (topAt W n)) = false := by
            rw [Bool.eq_false_iff]
            intro hall
            rw [List.all_eq_true.mp hall m (List.mem_of_getElem? hm)] at hc
            cases hc
          rw [e6, Bool.and_false, Bool.false_and] at hk
          exact hk
      · obtain ⟨rfl, h4⟩ := e4
        rw [iv_len, List.take_length] at h4
        have e6 : (tb.all fun m => isWhole m 0 (topAt W n)) = true := List.all_eq_true.mpr h4
        refine iteF ?_
        refine ⟨_, rfl, _, rfl, _, W, n, rfl, hW.ext E2, ok, fun H6 p vs E6 hp0 hp hvs => ?_⟩
        have E7 := E2.trans E6
        have hg7 : TabG H6 T := E7.tab T (hTb T F.mem)
        have lb : ∀ i : Nat, prodOf W ((looksOf W n).reverse.take i) ∣ tb.length := fun i => by
          have h1 : prodOf W (looksOf W n).reverse = prodOf W ((looksOf W n).reverse.take i) * prodOf W ((looksOf W n).reverse.drop i) := by
            have h2 : (looksOf W n).reverse = (looksOf W n).reverse.take i ++ (looksOf W n).reverse.drop i := (List.take_append_drop i _).symm
            rw [← prod_mul]
            show List.foldl _ 1 _ = _
            conv => lhs; rw [h2]
            rw [List.foldl_append]
            rfl
          rw [prod_rev] at h1
          have h3 : tb.length = prodOf W (looksOf W n) := by
            have h4 := many_eq ok n
            omega
          rw [h3, h1]
          exact Nat.dvd_mul_right _ _
        refine ⟨p, rfl, ⟨_, SqL.of hp⟩, hg7, fun H8 hT8 => ?_⟩
        have E68 : Ext H6 H8 := Ext.tabbed F.nown hg7 hT8
        have E8 := E7.trans E68
        have hvl : vs.length = (looksOf W n).length := by rw [paired_len hvs]; unfold waysOf; rw [List.length_map, List.length_range]
        refine quant_it (walk_list (K := K) (xs := vs)) (fun i H' => Ext H8 H' ∧ ∀ j l, j < i → (looksOf W n).reverse[j]? = some l → goesAlong tb (1 * prodOf W ((looksOf W n).reverse.take j)) (topAt W l.1 + 1).toNat l.2 = true) ⟨Ext.refl _, fun j l h => absurd h (Nat.not_lt_zero _)⟩ (fun i H' _ e => SqL.of ((E68.trans e.1).lst hp)) (fun i x H9 H10 hi e9 y => ?_) fun H9 e9 => ?_
        · obtain ⟨E9, hgo⟩ := e9
          obtain ⟨rfl, hi⟩ := y
          obtain ⟨row, hrow, z, rfl, hz⟩ := paired_get' (pTI.ext (E68.trans E9) hvs) hi
          have hin : i < (looksOf W n).reverse.length := by
            rw [List.length_reverse, ← hvl]
            exact (List.getElem?_eq_some_iff.mp hi).1
          have hrow' : row = wayRow W (looksOf W n).reverse i := by
            unfold waysOf at hrow
            rw [List.getElem?_map, List.getElem?_range (by rw [List.length_reverse] at hin; exact hin)] at hrow
            exact (Option.some.inj hrow).symm
          obtain ⟨lk, hlk⟩ : ∃ lk, (looksOf W n).reverse[i]? = some lk := ⟨_, List.getElem?_eq_getElem hin⟩
          have egd : (looksOf W n).reverse.getD i (0, 0) = lk := by rw [List.getD_eq_getElem?_getD, hlk]; rfl
          have hrow2 : row = [((prodOf W ((looksOf W n).reverse.take i) : Nat) : Int), topAt W lk.1 + 1, lk.2] := by rw [hrow']; unfold wayRow; rw [egd]
          rw [hrow2] at hz
          have hmem : lk ∈ looksOf W n := List.mem_reverse.mp (List.mem_of_getElem? hlk)
          have h1 := looksOf_ok ok lk hmem
          have h2 := topAt_ok ok h1.1.1 h1.1.2
          have E10 := E8.trans E9
          have ez : (topAt W lk.1 + 1 : Int) = (((topAt W lk.1 + 1).toNat : Nat) : Int) := by omega
          obtain ⟨rr, hrr⟩ := lb (i + 1)
          have hps : prodOf W ((looksOf W n).reverse.take (i + 1)) = prodOf W ((looksOf W n).reverse.take i) * (topAt W lk.1 + 1).toNat := by
            rw [List.take_add_one, hlk]
            exact prod_snoc W lk _
          rw [hps] at hrr
          have hpos : 0 < prodOf W ((looksOf W n).reverse.take i) := prod_pos ok _ fun l hl => (looksOf_ok ok l (List.mem_reverse.mp (List.mem_of_mem_take hl))).1
          have htl : 0 < tb.length := by
            have h4 := many_eq ok n
            have h5 := prod_pos ok (looksOf W n) fun l hl => (looksOf_ok ok l hl).1
            omega
          have hrr0 : 0 < rr := by
            rcases Nat.eq_zero_or_pos rr with h | h
            · rw [h, Nat.mul_zero] at hrr; omega
            · exact h
          have hple : prodOf W ((looksOf W n).reverse.take i) ≤ tb.length := Nat.le_of_dvd htl (lb i)
          refine ⟨z, _, rfl, hz, rfl, _, _, rfl, _, _, rfl, _, _, rfl, rfl, rfl, yes ?_⟩
          refine ⟨_, rfl, _, rfl, _, rfl, _, rfl, _, tb, prodOf W ((looksOf W n).reverse.take i), (topAt W lk.1 + 1).toNat, lk.2, congrArg (fun z => [V.ref ta, V.int ((prodOf W ((looksOf W n).reverse.take i) : Nat) : Int), V.int z, V.int lk.2]) ez, ⟨ta, rfl, E10.tup hta⟩, ⟨hpos, ?_⟩, ⟨by omega, by omega⟩, h1.2, hlen, places_in hpos (by omega) hrr, hTb.ext E10, fun H11 E11 => ?_⟩
          · -- a step is less than the table's length
            have q1 : prodOf W ((looksOf W n).reverse.take i) * 2 ≤ prodOf W ((looksOf W n).reverse.take i) * (topAt W lk.1 + 1).toNat := Nat.mul_le_mul_left _ (by omega)
            have q2 : prodOf W ((looksOf W n).reverse.take i) * (topAt W lk.1 + 1).toNat ≤ tb.length := by
              rw [hrr]
              exact Nat.le_mul_of_pos_right _ hrr0
            omega
          cases hc : goesAlong tb (prodOf W ((looksOf W n).reverse.take i)) (topAt W lk.1 + 1).toNat lk.2 with
          | false =>
            refine ⟨false, rfl, iteFF ?_⟩
            have hk := k1 H11 (E10.trans E11)
            rw [goLoop_false hlk (by rw [Nat.one_mul]; exact hc), Bool.and_false] at hk
            exact hk
          | true =>
            refine ⟨true, rfl, iteTF ⟨E9.trans E11, fun j l hj hjl => ?_⟩⟩
            by_cases hji : j = i
            · subst hji
              rw [hlk] at hjl
              obtain rfl := Option.some.inj hjl
              rw [Nat.one_mul]
              exact hc
            · exact hgo j l (by omega) hjl
        · obtain ⟨E9, hgo⟩ := e9
          have hk := k1 H9 (E8.trans E9)
          have hvl2 : vs.length = (looksOf W n).reverse.length := by rw [List.length_reverse, hvl]
          rw [e6, goLoop_true fun i l hl => hgo i l (by rw [hvl2]; exact (List.getElem?_eq_some_iff.mp hl).1) hl, Bool.and_true, Bool.and_true, decide_eq_true hl1] at hk
          exact hk
    · have e1 : (!decide (V.int ((iv tb).length : Int) = V.int (manyRows W n))) = true := by
        rw [iv_len, decide_eq_false fun z => hl1 (V.int.inj z)]
        rfl
      rw [e1]
      refine iteT ?_
      have hk := k1 H1 E1
      rw [decide_eq_false hl1, Bool.false_and, Bool.false_and] at hk
      exact hk
end
end Lk

/-! ## RwB -/
set_option Elab.async false
set_option linter.all false
set_option maxRecDepth 100000
set_option maxHeartbeats 2000000
/-! Heaps that have grown beside the row of draws. -/
namespace Lk
open PySem PySem.Spec PyProof.Rows L2 Gx
variable [Own]
theorem ExtB.put {r : Addr} {H0 H : Hp} {p : Addr} (e : ExtB r H0 H) (h : H0 p = none) (o : HO) : ExtB r H0 (L2.upd H p o) := ⟨fun a u n q t => by rw [upd_ne (ne_of_none q h)]; exact e.keep a u n q t, fun P ⟨ps, q, t⟩ => by
  obtain ⟨qs, q', t'⟩ := e.tab P ⟨ps, q, t⟩
  exact ⟨qs, by rw [upd_ne (ne_of_none q h)]; exact q', t'⟩, fun a u q => by
  obtain ⟨o', h'⟩ := e.tb a u q
  exact ⟨o', by rw [upd_ne (ne_of_none q h)]; exact h'⟩, fun P ps o q => by rw [upd_ne (ne_of_none q h)]; exact e.own P ps o q⟩
section
variable {K : PySem.W.Frag} {r sc : Addr} {ns : List Int} {H H' : Hp}
theorem Rw.tup (h : Rw K H r sc ns) (e : ExtB r H H') {a : Addr} {xs : List V} (q : H a = some (.tup xs)) : H' a = some (.tup xs) := by
  obtain ⟨_, h⟩ := h.lst
  exact e.tup h q
theorem Rw.TI (h : Rw K H r sc ns) (e : ExtB r H H') {v : V} {ns : List Int} (q : TI H v ns) : TI H' v ns := by
  obtain ⟨_, h⟩ := h.lst
  exact q.extB e h
theorem Rw.pTI (h : Rw K H r sc ns) (e : ExtB r H H') {vs : List V} {rows : List (List Int)} (q : Paired (Lk.TI H) vs rows) : Paired (Lk.TI H') vs rows := by
  obtain ⟨_, h⟩ := h.lst
  exact pTI.extB e h q
theorem Rw.web (h : Rw K H r sc ns) (e : ExtB r H H') {v : V} {W : Web} (q : WebAt H v W) : WebAt H' v W := by
  obtain ⟨_, h⟩ := h.lst
  exact q.extB e h
theorem Rw.ne_none (h : Rw K H r sc ns) {D : Addr} (q : H D = none) : D ≠ r := by
  obtain ⟨_, h⟩ := h.lst
  exact (ne_of_none h q).symm
theorem Rw.new (h : Rw K H r sc ns) {D : Addr} (q : H D = none) (o : HO) : Rw K (upd H D o) r sc ns := h.ext (Ext.new q o)
theorem Rw.put {H0 : Hp} (h : Rw K H r sc ns) (h0 : Rw K H0 r sc ns) {D : Addr} (q : H0 D = none) (o : HO) : Rw K (upd H D o) r sc ns := by
  obtain ⟨d, h⟩ := h
  obtain ⟨d0, h0⟩ := h0
  exact ⟨d, by rw [upd_ne (ne_of_none h0.row q)]; exact h.row, h.scr.put h0.scr q o, h.len, h.ok⟩
/-- a list that the draws leave -/
theorem same_at {D : Addr} (same : ∀ a, a ≠ r → H' a = H a) (n : D ≠ r) {o : Option HO} (h : H D = o) : H' D = o := by rw [same D n]; exact h
end
end Lk

/-! ## D10 -/
set_option Elab.async false
set_option linter.all false
set_option maxRecDepth 100000
set_option maxHeartbeats 2000000
namespace Lk
open PySem PySem.Spec PyProof.Rows L2 Gx
open GxR (TabG Tabbed TabB)
variable [Own]
/-- the state told in a state -/
def stateTold (W : Web) (ru : List (List Int)) (st : List Int) : List Int := (List.range st.length).map fun f : Nat => moodTold W ru st (f : Int)
abbrev s_state_told : Stmt := top 33
theorem sc_state_told : FnScope ["web", "rules", "state", "folk"] ["web", "rules", "state"] (defScope s_state_told) := ⟨rfl, rfl, rfl, by decide +kernel, rfl, by decide +kernel, by decide +kernel⟩
def spStateTold : Sp := fun vs H Q _ => ∃ (v r z : V) (W : Web) (ru : List (List Int)) (st : List Int), vs = [v, r, z] ∧ WebAt H v W ∧ W.Ok ∧ TT2 H r ru ∧ RuOk W ru ∧ TI H z st ∧ StOk W st ∧ ∀ H' u, Ext H H' → H u = none → H' u = some (.tup (iv (stateTold W ru st))) → Q (.ref u) H'
section
variable {P : Program} {w : World} {K : PySem.W.Frag} {mg : Str → Option Value} {base : Heap} {Ps : List Addr}
theorem ok_state_told {f : Addr} {fd : FuncData} (F : Fun K "state_told" "state_told" s_state_told f fd) (B : Blt mg)
    (c_mood_told : Cal P w K mg base CX0 3 "mood_told" ["web", "rules", "state", "folk"] spMoodTold) : FnOk P w K mg base CX0 4 f fd ["web", "rules", "state"] spStateTold := by
  refine F.ok sc_state_told (fun vs H Q E h => ?_) (fun cdv A outer s H vs Q E hr h => ?_)
  · obtain ⟨v, r, z, W, ru, st, rfl, _⟩ := h
    rfl
  · obtain ⟨v, r, z, W, ru, st, rfl, hW, ok, hru, rok, ⟨sa, rfl, hsa⟩, so, k⟩ := h
    refine ⟨_, (pss_one (ps_ret (pe_tupleL (by rfl) B.tuple (pe_lc (own := [("folk", 3)]) rfl sc_state_told.nd (pi_range1 (by rfl) B.range (pa_cons (pe_callB call_lenT (by rfl) B.len PySem.boot_len (pa_cons (pv 2) pa_nil)) pa_nil)) (blkOk_by (N := ["web", "rules", "state", "folk"]) (sc := defScope s_state_told) (by decide +kernel)) (fun _ _ _ _ _ => (pg_name (i := 3) sc_state_told.nd rfl (by first | exact Or.inl rfl | exact Or.inr rfl))) (fun _ _ _ _ _ => pts_nil) (fun _ _ _ _ _ => (pe_c0 c_mood_told (hr.mono (by decide)) (by rfl) (pa_cons (pv 0) (pa_cons (pv 1) (pa_cons (pv 2) (pa_cons (pv 3) pa_nil)))))))))), ?_⟩
    have h6 := ok.few
    have sl := so.len
    refine ⟨_, rfl, _, _, rfl, .inr hsa, _, rfl, by rw [iv_len]; omega, by rw [iv_len]; omega, fun D hD => ?_⟩
    have en : ((iv st).length : Int).toNat = st.length := by rw [iv_len]; omega
    rw [en]
    refine lc_range (lo := 0) (n := st.length) (fun i H' => H' D = some (.lst (iv (((List.range st.length).take i).map fun f : Nat => moodTold W ru st (f : Int)))) ∧ Ext H H') ⟨upd_same, Ext.new hD _⟩ (fun i H' hi ⟨hL, e⟩ => ?_) fun H' ⟨hL, e⟩ => ?_
    · refine ⟨rfl, yes ?_⟩
      have er : (List.range st.length)[i]? = some i := by rw [List.getElem?_range hi]
      refine ⟨_, rfl, _, rfl, _, rfl, _, rfl, _, _, _, W, ru, st, (i : Int), by rw [Int.zero_add]; rfl, hW.ext e, ok, hru.ext e, rok, ⟨sa, rfl, e.tup hsa⟩, so, ⟨by omega, by omega⟩, fun H2 e2 => ?_⟩
      refine ⟨_, e2.lst hL, ?_, ?_, (e.trans e2).put hD _⟩
      · rw [iv_len, List.length_map, List.length_take, List.length_range]
        exact small1000 (by omega)
      · rw [upd_same, List.take_add_one, er, List.map_append]
        show some (HO.lst _) = some (HO.lst (List.map V.int (_ ++ _)))
        rw [List.map_append]
        rfl
    · have et : (List.range st.length).take st.length = List.range st.length := List.take_of_length_le (by rw [List.length_range]; exact Nat.le_refl _)
      rw [et] at hL
      refine ⟨D, _, rfl, hL, fun u hu => ?_⟩
      exact k _ u (e.trans (Ext.new hu _)) (e.free hu) upd_same
/-- all settled states -/
def settledStates (W : Web) (ru : List (List Int)) : List (List Int) := (rowsOf W.tops).filter fun st => decide (stateTold W ru st = st)
theorem rows_mem {tops : List Int} {st : List Int} : st ∈ rowsOf tops → st.length = tops.length ∧ ∀ i, i < tops.length → 0 ≤ st.getD i 0 ∧ st.getD i 0 ≤ tops.getD i 0 := by
  have key : ∀ (ts : List Int) (rows : List (List Int)) (pre : List Int), (∀ r ∈ rows, r.length = pre.length ∧ ∀ i, i < pre.length → 0 ≤ r.getD i 0 ∧ r.getD i 0 ≤ pre.getD i 0) → ∀ r ∈ ts.foldl rowsStep rows, r.length = (pre ++ ts).length ∧ ∀ i, i < (pre ++ ts).length → 0 ≤ r.getD i 0 ∧ r.getD i 0 ≤ (pre ++ ts).getD i 0 := by
    intro ts
    induction ts with
    | nil => intro rows pre h r hr; rw [List.append_nil]; exact h r hr
    | cons t ts ih =>
      intro rows pre h r hr
      rw [List.foldl_cons] at hr
      have := ih (rowsStep rows t) (pre ++ [t]) (fun q hq => ?_) r hr
      · rw [List.append_assoc] at this
        exact this
      · unfold rowsStep at hq
        obtain ⟨z, hz, hq⟩ := List.mem_flatMap.mp hq
        obtain ⟨m, hm, rfl⟩ := List.mem_map.mp hq
        obtain ⟨h1, h2⟩ := h z hz
        unfold moods at hm
        obtain ⟨j, hj, rfl⟩ := List.mem_map.mp hm
        have hj := List.mem_range.mp hj
        refine ⟨by rw [List.length_append, List.length_append, h1]; rfl, fun i hi => ?_⟩
        rw [List.length_append] at hi
        by_cases hip : i < pre.length
        · have e1 : (z ++ [(j : Int)]).getD i 0 = z.getD i 0 := by rw [List.getD_eq_getElem?_getD, List.getD_eq_getElem?_getD, List.getElem?_append_left (by omega)]
          have e2 : (pre ++ [t]).getD i 0 = pre.getD i 0 := by rw [List.getD_eq_getElem?_getD, List.getD_eq_getElem?_getD, List.getElem?_append_left hip]
          rw [e1, e2]
          exact h2 i hip
        · have ei : i = pre.length := by simp at hi; omega
          have e1 : (z ++ [(j : Int)]).getD i 0 = (j : Int) := by rw [List.getD_eq_getElem?_getD, List.getElem?_append_right (by omega), h1, ei, Nat.sub_self]; rfl
          have e2 : (pre ++ [t]).getD i 0 = t := by rw [List.getD_eq_getElem?_getD, List.getElem?_append_right (by omega), ei, Nat.sub_self]; rfl
          rw [e1, e2]
          omega
  intro h
  have := key tops [[]] [] (fun r hr => by rw [List.mem_singleton.mp hr]; exact ⟨rfl, fun i hi => absurd hi (Nat.not_lt_zero _)⟩) st h
  exact this
theorem rows_st {W : Web} {st : List Int} (h : st ∈ rowsOf W.tops) : StOk W st := by
  obtain ⟨h1, h2⟩ := rows_mem h
  exact ⟨h1, fun i h0 hi => h2 i.toNat (by omega)⟩
abbrev s_settled_states : Stmt := top 34
theorem sc_settled_states : FnScope ["web", "rules", "tops", "_", "state"] ["web", "rules"] (defScope s_settled_states) := ⟨rfl, rfl, rfl, by decide +kernel, rfl, by decide +kernel, by decide +kernel⟩
def spSettledStates : Sp := fun vs H Q _ => ∃ (v r : V) (W : Web) (ru : List (List Int)), vs = [v, r] ∧ WebAt H v W ∧ W.Ok ∧ TT2 H r ru ∧ RuOk W ru ∧ ∀ H' u, Ext H H' → TT2 H' (.ref u) (settledStates W ru) → Q (.ref u) H'
theorem ok_settled_states {f : Addr} {fd : FuncData} (F : Fun K "settled_states" "settled_states" s_settled_states f fd) (B : Blt mg)
    (c_rows_of : Cal P w K mg base CX0 1 "rows_of" ["tops"] spRowsOf)
    (c_state_told : Cal P w K mg base CX0 4 "state_told" ["web", "rules", "state"] spStateTold) : FnOk P w K mg base CX0 5 f fd ["web", "rules"] spSettledStates := by
  refine F.ok sc_settled_states (fun vs H Q E h => ?_) (fun cdv A outer s H vs Q E hr h => ?_)
  · obtain ⟨v, r, W, ru, rfl, _⟩ := h
    rfl
  · obtain ⟨v, r, W, ru, rfl, hW, ok, hru, rok, k⟩ := h
    obtain ⟨a, t, l, rfl, ha, ⟨b, rfl, hb⟩, hl⟩ := id hW
    refine ⟨_, (pss_cons (ps_asg (pv 0) (pg_tupT (n := 2) rfl (pgs_cons (pg_name (i := 2) sc_settled_states.nd rfl (by first | exact Or.inl rfl | exact Or.inr rfl)) (pgs_cons (pg_name (i := 3) sc_settled_states.nd rfl (by first | exact Or.inl rfl | exact Or.inr rfl)) pgs_nil))))
      (pss_one (ps_ret (pe_tupleL (by rfl) B.tuple (pe_lc (own := [("state", 4)]) rfl sc_settled_states.nd (pi_list (pe_c0 c_rows_of (hr.mono (by decide)) (by rfl) (pa_cons (pv 2) pa_nil))) (blkOk_by (N := ["web", "rules", "tops", "_", "state"]) (sc := defScope s_settled_states) (by decide +kernel)) (fun _ _ _ _ _ => (pg_name (i := 4) sc_settled_states.nd rfl (by first | exact Or.inl rfl | exact Or.inr rfl))) (fun _ _ _ _ _ => (pts_one (pt_cmpR (op_eqTI hr.units) (pe_c0 c_state_told (hr.mono (by decide)) (by rfl) (pa_cons (pv 0) (pa_cons (pv 1) (pa_cons (pv 4) pa_nil)))) (pv 4) (nomark _)))) (fun _ _ _ _ _ => (pv 4))))))), ?_⟩
    refine ⟨_, rfl, a, _, rfl, ha, rfl, _, _, rfl, _, _, rfl, rfl, ?_⟩
    refine ⟨_, rfl, _, _, rfl, ⟨b, rfl, hb⟩, ok.few, fun t ht => ⟨by have := ok.tops t ht; omega, (ok.tops t ht).2⟩, fun H1 p vs E1 hp0 hp hvs => ?_⟩
    refine ⟨p, rfl, ⟨_, SqL.of hp⟩, fun D hD => ?_⟩
    have rl : (rowsOf W.tops).length ≤ 4096 := by
      have h1 := rows_len4 (tops := W.tops) (fun t ht => (ok.tops t ht).2) [[]]
      have h2 : 4 ^ W.tops.length ≤ 4 ^ 6 := Nat.pow_le_pow_right (by decide) ok.few
      simp only [List.length_singleton, Nat.one_mul] at h1
      exact Nat.le_trans h1 h2
    refine lc_list (K := K) (xs := vs) (fun i H' => ∃ acc, H' D = some (.lst acc) ∧ Ext H1 H' ∧ acc.length ≤ i ∧ Paired (TI H') acc (((rowsOf W.tops).take i).filter fun st => decide (stateTold W ru st = st))) ⟨[], upd_same, Ext.new hD _, Nat.le_refl _, .nil⟩ (fun i H' _ ⟨_, _, e, _⟩ => SqL.of (e.lst hp)) (fun i x H' hi ⟨acc, hacc, e, hl, hpa⟩ => ?_) fun H' ⟨acc, hacc, e, hl, hpa⟩ => ?_
    · obtain ⟨st, hst, hx⟩ := paired_get' (pTI.ext e hvs) hi
      have E2 := E1.trans e
      have so := rows_st (W := W) (List.mem_of_getElem? hst)
      have hi4 : i < 4096 := by
        have := (List.getElem?_eq_some_iff.mp hst).1
        omega
      refine ⟨rfl, _, rfl, _, rfl, _, rfl, _, _, _, W, ru, st, rfl, hW.ext E2, ok, hru.ext E2, rok, hx, so, fun H3 u E3 hu0 hu => ?_⟩
      refine ⟨_, rfl, _, st, ⟨u, rfl, hu⟩, hx.ext E3, _, rfl, ?_⟩
      rw [List.take_add_one, hst, List.filter_append]
      by_cases hc : stateTold W ru st = st
      · rw [decide_eq_true hc]
        refine iteT ⟨_, rfl, acc, E3.lst hacc, Nat.lt_of_lt_of_le (show acc.length < 5000 by omega) (by decide), acc ++ [x], upd_same, (e.trans E3).put hD _, by rw [List.length_append]; simp; omega, ?_⟩
        · have F1 : List.filter (fun st => decide (stateTold W ru st = st)) (some st).toList = [st] := by simp [hc]
          rw [F1]
          exact pTI.put (E3.lst hacc) (fun _ _ h => h) (paired_snoc (hx.ext E3) (pTI.ext E3 hpa))
      · rw [decide_eq_false hc]
        have F1 : List.filter (fun st => decide (stateTold W ru st = st)) (some st).toList = [] := by simp [hc]
        rw [F1, List.append_nil]
        exact iteF ⟨acc, E3.lst hacc, e.trans E3, by omega, pTI.ext E3 hpa⟩
    · have hvl : vs.length = (rowsOf W.tops).length := paired_len hvs
      rw [hvl, List.take_length] at hpa
      refine ⟨D, acc, rfl, hacc, fun u hu => ?_⟩
      have hDu : D ≠ u := ne_of_none hacc hu
      exact k _ u ((E1.trans e).trans (Ext.new hu _)) ⟨u, acc, rfl, upd_same, pTI.ext (Ext.new hu _) hpa⟩
end
end Lk

/-! ## D26 -/
set_option Elab.async false
set_option linter.all false
set_option maxRecDepth 100000
set_option maxHeartbeats 2000000
namespace Lk
open PySem PySem.Spec PyProof.Rows L2 Gx
open GxR (TabG Tabbed TabB)
variable [Own]
/-- the law's rows, signs -/
def rowsAt (W : Web) (f : Int) : List (List Int) := rowsOf ((looksOf W f).map fun l => topAt W l.1)
def signsAt (W : Web) (f : Int) : List Int := (looksOf W f).map fun l => l.2
/-- marks at which a table rises: a row and a mood -/
abbrev Mark := List Int × Int
def maxOf (l : List Int) : Int := l.foldl (fun a b => if a < b then b else a) 0
def tableOf (signs : List Int) (rows : List (List Int)) (mks : List Mark) : List Int := rows.map fun one => maxOf ((mks.filter fun mk => lawGoes signs mk.1 one).map (·.2))
/-- a mark as a value -/
def MkAt (H : Hp) (v : V) (mk : Mark) : Prop := ∃ t z, v = .ref t ∧ H t = some (.tup [z, .int mk.2]) ∧ TI H z mk.1
abbrev s__law_table : Stmt := top 47
theorem sc__law_table : FnScope ["row", "web", "folk", "seen", "one", "sign", "rows", "signs", "marks", "turn", "found", "mark", "mood"] ["row", "web", "folk"] (defScope s__law_table) := ⟨rfl, rfl, rfl, by decide +kernel, rfl, by decide +kernel, by decide +kernel⟩
def spLawTable (K : PySem.W.Frag) : Sp := fun vs H Q _ => ∃ (r sc : Addr) (ns : List Int) (v : V) (W : Web) (f : Int), vs = [.ref r, v, .int f] ∧ Rw K H r sc ns ∧ WebAt H v W ∧ W.Ok ∧ (0 ≤ f ∧ f < W.tops.length) ∧
  ∀ H' u mks, ExtB r H H' → Rw K H' r sc ns → H u = none → (∀ mk ∈ mks, mk.1 ∈ rowsAt W f ∧ 0 ≤ mk.2 ∧ mk.2 ≤ topAt W f) → H' u = some (.tup (iv (tableOf (signsAt W f) (rowsAt W f) mks))) → Q (.ref u) H'
theorem foldmax : ∀ (l : List Int) (a : Int), (l.foldl (fun a b => if a < b then b else a) a) ∈ a :: l ∧ ∀ y ∈ a :: l, y ≤ l.foldl (fun a b => if a < b then b else a) a
  | [], a => ⟨List.mem_cons_self .., fun y hy => by
    rcases List.mem_cons.mp hy with h | h
    · rw [h]; exact Int.le_refl _
    · cases h⟩
  | b :: l, a => by
    obtain ⟨h1, h2⟩ := foldmax l (if a < b then b else a)
    rw [List.foldl_cons]
    refine ⟨?_, fun y hy => ?_⟩
    · rcases List.mem_cons.mp h1 with h | h
      · rw [h]
        split <;> simp
      · exact List.mem_cons_of_mem _ (List.mem_cons_of_mem _ h)
    · have h3 := h2 _ (List.mem_cons_self ..)
      rcases List.mem_cons.mp hy with h | hy
      · rw [h]
        refine Int.le_trans ?_ h3
        split <;> omega
      · rcases List.mem_cons.mp hy with h | hy
        · rw [h]
          refine Int.le_trans ?_ h3
          split <;> omega
        · exact h2 y (List.mem_cons_of_mem _ hy)
theorem maxOf_eq {l : List Int} {m : Int} (h1 : m ∈ (0 : Int) :: l) (h2 : ∀ y ∈ (0 : Int) :: l, y ≤ m) : m = maxOf l := by
  obtain ⟨g1, g2⟩ := foldmax l 0
  exact Int.le_antisymm (g2 m h1) (h2 _ g1)
theorem row2_at {H : Hp} {vs : List V} {ls : List (Int × Int)} {i : Nat} {x : V} (p : Paired (TI H) vs (ls.map row2)) (h : vs[i]? = some x) : ∃ l q, ls[i]? = some l ∧ x = .ref q ∧ H q = some (.tup [.int l.1, .int l.2]) := by
  obtain ⟨row, hrow, q, e, hq⟩ := paired_get' p h
  rw [List.getElem?_map] at hrow
  cases e2 : ls[i]? with
  | none => rw [e2] at hrow; cases hrow
  | some l =>
    rw [e2] at hrow
    obtain rfl := Option.some.inj hrow
    exact ⟨l, q, rfl, e, hq⟩
theorem rows_pos {tops : List Int} (h : ∀ t ∈ tops, 0 ≤ t) : ∀ rows : List (List Int), 0 < rows.length → 0 < (tops.foldl rowsStep rows).length := by
  induction tops with
  | nil => intro rows q; exact q
  | cons t ts ih =>
    intro rows q
    rw [List.foldl_cons]
    refine ih (fun t ht => h t (List.mem_cons_of_mem _ ht)) _ ?_
    rw [rowsStep_len]
    have := h t (List.mem_cons_self ..)
    exact Nat.mul_pos q (by omega)
theorem topsAt_ok {W : Web} (ok : W.Ok) (f : Int) : ∀ t ∈ (looksOf W f).map (fun l => topAt W l.1), 1 ≤ t ∧ t ≤ 3 := by
  intro t ht
  obtain ⟨l, hl, rfl⟩ := List.mem_map.mp ht
  have := (looksOf_ok ok l hl).1
  exact topAt_ok ok this.1 this.2
theorem rowsAt_len {W : Web} (ok : W.Ok) (f : Int) : 0 < (rowsAt W f).length ∧ (rowsAt W f).length ≤ 256 := by
  have ht := topsAt_ok ok f
  refine ⟨rows_pos (fun t h => by have := ht t h; omega) _ (by decide), ?_⟩
  have h1 := rows_len4 (fun t h => (ht t h).2) [[]]
  have h2 : 4 ^ ((looksOf W f).map fun l => topAt W l.1).length ≤ 4 ^ 4 := Nat.pow_le_pow_right (by decide) (by rw [List.length_map]; exact looks_len ok f)
  simp only [List.length_singleton, Nat.one_mul] at h1
  exact Nat.le_trans h1 h2
theorem rowsAt_row {W : Web} {f : Int} {r : List Int} (h : r ∈ rowsAt W f) : r.length = (looksOf W f).length := by
  have h1 := rows_row (tops := (looksOf W f).map fun l => topAt W l.1) (rows := [[]]) (n := 0) (fun r hr => by rw [List.mem_singleton.mp hr]; rfl) r (show r ∈ List.foldl rowsStep [[]] ((looksOf W f).map fun l => topAt W l.1) from h)
  rw [h1, List.length_map, Nat.zero_add]
theorem rowsAt_bd {W : Web} (ok : W.Ok) {f : Int} {r : List Int} (h : r ∈ rowsAt W f) : ∀ x ∈ r, 0 ≤ x ∧ x ≤ 3 := by
  intro x hx
  obtain ⟨h1, h2⟩ := rows_mem (tops := (looksOf W f).map fun l => topAt W l.1) h
  obtain ⟨i, hi, rfl⟩ := List.getElem_of_mem hx
  have h3 := h2 i (by omega)
  have e1 : r.getD i 0 = r[i] := by rw [List.getD_eq_getElem?_getD, List.getElem?_eq_getElem hi]; rfl
  have e2 : ((looksOf W f).map fun l => topAt W l.1).getD i 0 = ((looksOf W f).map fun l => topAt W l.1)[i]'(by omega) := by rw [List.getD_eq_getElem?_getD, List.getElem?_eq_getElem (by omega)]; rfl
  have h4 := topsAt_ok ok f _ (List.getElem_mem (l := (looksOf W f).map fun l => topAt W l.1) (n := i) (by omega))
  omega
theorem MkAt.extB {r : Addr} {H H' : Hp} {rs : List V} (e : ExtB r H H') (hr : H r = some (.lst rs)) {v : V} {mk : Mark} (h : MkAt H v mk) : MkAt H' v mk := by
  obtain ⟨t, z, q, h1, h2⟩ := h
  exact ⟨t, z, q, e.tup hr h1, h2.extB e hr⟩
theorem MkAt.ext {H H' : Hp} (e : Ext H H') {v : V} {mk : Mark} (h : MkAt H v mk) : MkAt H' v mk := by
  obtain ⟨t, z, q, h1, h2⟩ := h
  exact ⟨t, z, q, e.tup h1, h2.ext e⟩
theorem MkAt.put {H : Hp} {D : Addr} {acc : List V} {o : HO} (hD : H D = some (.lst acc)) {v : V} {mk : Mark} (h : MkAt H v mk) : MkAt (upd H D o) v mk := by
  obtain ⟨t, z, q, h1, a, q2, h2⟩ := h
  exact ⟨t, z, q, by rw [upd_ne (ne_of hD h1 (by intro q; cases q)).symm]; exact h1, a, q2, by rw [upd_ne (ne_of hD h2 (by intro q; cases q)).symm]; exact h2⟩
theorem signs_ok {W : Web} (ok : W.Ok) {f : Int} : ∀ s ∈ signsAt W f, s = 1 ∨ s = -1 := by
  intro s hs
  obtain ⟨l, hl, rfl⟩ := List.mem_map.mp hs
  exact (looksOf_ok ok l hl).2
section
variable {P : Program} {w : World} {K : PySem.W.Frag} {mg : Str → Option Value} {base : Heap} {Ps : List Addr}
theorem ok_law_table {f : Addr} {fd : FuncData} (F : Fun K "_law_table" "_law_table" s__law_table f fd) (B : Blt mg) (c__law_taken : Cal P w K mg base CX0 1 "_law_taken" ["row", "many"] (spTaken K))
    (c__law_seen : Cal P w K mg base CX0 1 "_law_seen" ["web", "folk"] spLawSeen) (c__law_moods : Cal P w K mg base CX0 1 "_law_moods" ["tops"] spLawMoods) (c__law_pick : Cal P w K mg base CX0 2 "_law_pick" ["row", "things"] (spLawPick K)) (c__law_goes : Cal P w K mg base CX0 1 "_law_goes" ["signs", "one", "other"] spLawGoes) :
    FnOk P w K mg base CX0 3 f fd ["row", "web", "folk"] (spLawTable K) := by
  refine F.ok sc__law_table (fun vs H Q E h => ?_) (fun cdv A outer s0 H vs Q E hr h => ?_)
  · obtain ⟨r, sc, ns, v, W, n, rfl, _⟩ := h
    rfl
  · obtain ⟨r, sc, ns, v, W, n, rfl, hR, hW, ok, hn, k⟩ := h
    refine ⟨_, (pss_cons (ps_set (i := 3) sc__law_table.nd rfl (by first | exact Or.inl rfl | exact Or.inr rfl) (pe_c0 c__law_seen (hr.mono (by decide)) (by rfl) (pa_cons (pv 1) (pa_cons (pv 2) pa_nil))))
      (pss_cons (ps_asg (pe_tup (pa_cons (pe_c0 c__law_moods (hr.mono (by decide)) (by rfl) (pa_cons (pe_lc (own := [("one", 4), ("sign", 5)]) rfl sc__law_table.nd (pi_list (pv 3)) (blkOk_by (N := ["row", "web", "folk", "seen", "one", "sign", "rows", "signs", "marks", "turn", "found", "mark", "mood"]) (sc := defScope s__law_table) (by decide +kernel)) (fun _ _ _ _ _ => (pg_tupT (n := 2) rfl (pgs_cons (pg_name (i := 4) sc__law_table.nd rfl (by first | exact Or.inl rfl | exact Or.inr rfl)) (pgs_cons (pg_name (i := 5) sc__law_table.nd rfl (by first | exact Or.inl rfl | exact Or.inr rfl)) pgs_nil)))) (fun _ _ _ _ _ => pts_nil) (fun _ _ _ _ _ => (pe_ix ix_tT (pe_ix ix_tT (pv 1) pe_int (fun _ _ => rfl)) (pv 4) (fun _ _ => rfl)))) pa_nil)) (pa_cons (pe_lc (own := [("one", 4), ("sign", 5)]) rfl sc__law_table.nd (pi_list (pv 3)) (blkOk_by (N := ["row", "web", "folk", "seen", "one", "sign", "rows", "signs", "marks", "turn", "found", "mark", "mood"]) (sc := defScope s__law_table) (by decide +kernel)) (fun _ _ _ _ _ => (pg_tupT (n := 2) rfl (pgs_cons (pg_name (i := 4) sc__law_table.nd rfl (by first | exact Or.inl rfl | exact Or.inr rfl)) (pgs_cons (pg_name (i := 5) sc__law_table.nd rfl (by first | exact Or.inl rfl | exact Or.inr rfl)) pgs_nil)))) (fun _ _ _ _ _ => pts_nil) (fun _ _ _ _ _ => (pv 5))) pa_nil))) (pg_tupT (n := 2) rfl (pgs_cons (pg_name (i := 6) sc__law_table.nd rfl (by first | exact Or.inl rfl | exact Or.inr rfl)) (pgs_cons (pg_name (i := 7) sc__law_table.nd rfl (by first | exact Or.inl rfl | exact Or.inr rfl)) pgs_nil))))
      (pss_cons (ps_set (i := 8) sc__law_table.nd rfl (by first | exact Or.inl rfl | exact Or.inr rfl) (pe_lst pa_nil))
      (pss_cons (ps_for PassesOwn.never rfl (pi_range1 (by rfl) B.range (pa_cons (pe_c0 c__law_taken (hr.mono (by decide)) (by rfl) (pa_cons (pv 0) (pa_cons pe_int pa_nil))) pa_nil)) (pg_name (i := 9) sc__law_table.nd rfl (by first | exact Or.inl rfl | exact Or.inr rfl))
        (pss_one (ps_expr (pe_bmL PySem.F.plainAttrs_list PySem.F.slot_list_append PySem.F.type_list_append mt_append (pv 8) (pa_cons (pe_tup (pa_cons (pe_c0 c__law_pick (hr.mono (by decide)) (by rfl) (pa_cons (pv 0) (pa_cons (pv 6) pa_nil))) (pa_cons (pe_c0 c__law_taken (hr.mono (by decide)) (by rfl) (pa_cons (pv 0) (pa_cons (pe_op op_add (pe_ix ix_tT (pe_ix ix_tT (pv 1) pe_int (fun _ _ => rfl)) (pv 2) (fun _ _ => rfl)) pe_int) pa_nil))) pa_nil))) pa_nil)))))
      (pss_cons (ps_set (i := 10) sc__law_table.nd rfl (by first | exact Or.inl rfl | exact Or.inr rfl) (pe_lst pa_nil))
      (pss_cons (ps_for PassesOwn.never rfl (pi_list (pv 6)) (pg_name (i := 4) sc__law_table.nd rfl (by first | exact Or.inl rfl | exact Or.inr rfl))
        (pss_one (ps_expr (pe_bmL PySem.F.plainAttrs_list PySem.F.slot_list_append PySem.F.type_list_append mt_append (pv 10) (pa_cons (pe_callB (cr_max rfl) (by rfl) B.max boot_max (pa_cons (pe_op op_cat (pe_lst (pa_cons pe_int pa_nil)) (pe_lc (own := [("mark", 11), ("mood", 12)]) rfl sc__law_table.nd (pi_list (pv 8)) (blkOk_by (N := ["row", "web", "folk", "seen", "one", "sign", "rows", "signs", "marks", "turn", "found", "mark", "mood"]) (sc := defScope s__law_table) (by decide +kernel)) (fun _ _ _ _ _ => (pg_tupT (n := 2) rfl (pgs_cons (pg_name (i := 11) sc__law_table.nd rfl (by first | exact Or.inl rfl | exact Or.inr rfl)) (pgs_cons (pg_name (i := 12) sc__law_table.nd rfl (by first | exact Or.inl rfl | exact Or.inr rfl)) pgs_nil)))) (fun _ _ _ _ _ => (pts_one (pt_val (pe_c0 c__law_goes (hr.mono (by decide)) (by rfl) (pa_cons (pv 7) (pa_cons (pv 11) (pa_cons (pv 4) pa_nil))))))) (fun _ _ _ _ _ => (pv 12)))) pa_nil)) pa_nil)))))
      (pss_one (ps_ret (pe_tupleL (by rfl) B.tuple (pv 10)))))))))), ?_⟩
    obtain ⟨a, t, l, rfl, ha, ⟨tt, rfl, ht⟩, hl⟩ := id hW
    refine ⟨_, rfl, _, rfl, _, W, n, rfl, hW, ok.most, fun H1 p vs E1 hp0 hp hvs => ?_⟩
    have R1 := hR.ext E1
    have lvs : vs.length = (looksOf W n).length := by rw [paired_len hvs, List.length_map]
    have l4 := looks_len ok n
    refine ⟨_, rfl, p, rfl, ⟨_, SqL.of hp⟩, fun D hD => ?_⟩
    refine lc_list (K := K) (a := p) (xs := vs) (fun i H' => H' D = some (.lst (iv (((looksOf W n).take i).map fun l => topAt W l.1))) ∧ Ext H1 H') ⟨by rw [upd_same]; rfl, Ext.new hD _⟩ (fun i H' _ ⟨_, e⟩ => SqL.of (e.lst hp)) (fun i x H' hi ⟨h1, e1⟩ => ?_) fun H2 ⟨h2, E2⟩ => ?_
    · obtain ⟨lk, q, hlk, rfl, hq⟩ := row2_at (pTI.ext e1 hvs) hi
      have lo := looksOf_ok ok lk (List.mem_of_getElem? hlk)
      refine ⟨q, _, rfl, hq, rfl, _, _, rfl, _, _, rfl, rfl, rfl, yes ?_⟩
      refine ⟨_, rfl, a, _, _, _, rfl, rfl, (E1.trans e1).tup ha, rfl, _, rfl, tt, _, _, _, rfl, rfl, (E1.trans e1).tup ht, at_of (j := lk.1.toNat) (by omega) (iv_at (topAt_get lo.1.1 lo.1.2)), _, h1, ?_, ?_, e1.put hD _⟩
      · rw [iv_len, List.length_map, List.length_take]
        exact small1000 (by omega)
      · rw [upd_same, take_snoc hlk, List.map_append]
        unfold iv
        rw [List.map_append]
        rfl
    rw [lvs, List.take_length] at h2
    have tk := topsAt_ok ok n
    refine ⟨D, true, _, rfl, h2, by rw [List.length_map]; omega, fun t ht => by have := tk t ht; omega, fun H3 rw_ E3 hrw0 hrw => ?_⟩
    have E13 := E2.trans E3
    refine ⟨_, rfl, p, rfl, ⟨_, SqL.of (E13.lst hp)⟩, fun D' hD' => ?_⟩
    refine lc_list (K := K) (a := p) (xs := vs) (fun i H' => H' D' = some (.lst (iv (((looksOf W n).take i).map fun l => l.2))) ∧ Ext H3 H') ⟨by rw [upd_same]; rfl, Ext.new hD' _⟩ (fun i H' _ ⟨_, e⟩ => SqL.of (e.lst (E13.lst hp))) (fun i x H' hi ⟨h1, e1⟩ => ?_) fun H4 ⟨h4, E4⟩ => ?_
    · obtain ⟨lk, q, hlk, rfl, hq⟩ := row2_at (pTI.ext (E13.trans e1) hvs) hi
      refine ⟨q, _, rfl, hq, rfl, _, _, rfl, _, _, rfl, rfl, rfl, yes ?_⟩
      refine ⟨_, rfl, _, h1, ?_, ?_, e1.put hD' _⟩
      · rw [iv_len, List.length_map, List.length_take]
        exact small1000 (by omega)
      · rw [upd_same, take_snoc hlk, List.map_append]
        unfold iv
        rw [List.map_append]
        rfl
    rw [lvs, List.take_length] at h4
    refine ⟨(by show 2 ≤ sizeLine; decide), fun u hu => ⟨u, _, rfl, upd_same, rfl, _, _, rfl, _, _, rfl, rfl, ?_⟩⟩
    refine ⟨(by show 0 ≤ sizeLine; decide), fun L hL => ?_⟩
    generalize hHb : upd H4 u _ = Hb at hL ⊢
    have EHb : Ext H4 Hb := by rw [← hHb]; exact Ext.new hu _
    have Eb : Ext H Hb := ((E1.trans E13).trans E4).trans EHb
    have Rb := hR.ext Eb
    have hWb := hW.ext Eb
    obtain ⟨rvs, hrws, hrvs⟩ : ∃ rvs, Hb rw_ = some (.lst rvs) ∧ Paired (TI Hb) rvs (rowsAt W n) := by
      obtain ⟨_, rvs, e, h, q⟩ := hrw.ext (E4.trans EHb)
      cases e
      exact ⟨rvs, h, q⟩
    have hsg : Hb D' = some (.lst (iv (signsAt W n))) := EHb.lst h4
    have hrwr : rw_ ≠ r := by
      have hz : H1 rw_ = none := E2.free hrw0
      exact (hR.ext E1).ne_none hz
    have hsgr : D' ≠ r := (hR.ext (E1.trans E13)).ne_none hD'
    have lrv : rvs.length = (rowsAt W n).length := paired_len hrvs
    have l256 := rowsAt_len ok n
    have tn := topAt_ok ok hn.1 hn.2
    clear hHb
    have hLr := Rb.ne_none hL
    refine ⟨_, rfl, r, sc, ns, _, rfl, Rb.new hL _, ⟨by decide, by decide⟩, fun H5 m E5 R5 same5 hm => ?_⟩
    refine ⟨_, rfl, by omega, by omega, for_range (lo := 0) (n := m.toNat) (fun i σ H' => ∃ (mv : List V) (mks : List Mark) (o4 o5 o9 o10 o11 o12 : Option V), σ = [some (.ref r), some (.ref a), some (.int n), some (.ref p), o4, o5, some (.ref rw_), some (.ref D'), some (.ref L), o9, o10, o11, o12] ∧ ExtB r Hb H' ∧ Rw K H' r sc ns ∧ H' L = some (.lst mv) ∧ Paired (MkAt H') mv mks ∧ mks.length = i ∧ ∀ mk ∈ mks, mk.1 ∈ rowsAt W n ∧ 0 ≤ mk.2 ∧ mk.2 ≤ topAt W n)
      ⟨[], [], none, none, none, none, none, none, rfl, (Ext.new hL _).b.trans E5, R5, same_at same5 hLr upd_same, .nil, rfl, fun _ h => by cases h⟩ ?_ ?_⟩
    · rintro i σ H' hi ⟨mv, mks, o4, o5, o9, o10, o11, o12, rfl, e, R, hLm, hmk, lmk, okm⟩
      refine ⟨_, rfl, ⟨L, mv, rfl, hLm⟩, _, rfl, _, rfl, r, sc, rw_, ns, rvs, rfl, R, e.lst hrwr hrws, hrwr, ⟨by omega, by omega⟩, fun H6 rv j E6 R6 same6 hrv => ?_⟩
      have e6 := e.trans E6
      have ha6 := Rb.tup e6 (Eb.tup ha)
      have ht6 := Rb.tup e6 (Eb.tup ht)
      refine ⟨_, rfl, _, rfl, a, _, _, _, rfl, rfl, ha6, rfl, _, rfl, tt, _, _, _, rfl, rfl, ht6, at_of (j := n.toNat) (by omega) (iv_at (topAt_get hn.1 hn.2)), _, _, rfl, rfl, r, sc, ns, _, rfl, R6, ⟨by omega, by omega⟩, fun H7 mm E7 R7 same7 hmm => ?_⟩
      refine ⟨(by show 2 ≤ sizeLine; decide), fun u hu => ?_⟩
      have e7 := e6.trans E7
      have hL7 : H7 L = some (.lst mv) := same_at same7 hLr (same_at same6 hLr hLm)
      have hLu : L ≠ u := ne_of_none hL7 hu
      obtain ⟨row, hrow, hz⟩ := paired_get' (Rb.pTI e7 hrvs) hrv
      have hlen := paired_len hmk
      refine ⟨L, mv, _, rfl, rfl, by rw [upd_ne hLu]; exact hL7, small1000 (by omega), mv ++ [.ref u], mks ++ [(row, mm)], _, _, _, _, _, _, rfl, (e7.trans (Ext.new hu _).b).put hL _, (R7.new hu _).put Rb hL _, upd_same, ?_, by rw [List.length_append, lmk]; rfl, fun mk hmk => ?_⟩
      · obtain ⟨_, hr'⟩ := R.lst
        have hp1 : Paired (MkAt (upd H7 u (.tup [rv, .int mm]))) mv mks := paired_mono (fun x y h => MkAt.ext (Ext.new hu _) (MkAt.extB (E6.trans E7) hr' h)) hmk
        have hp2 : Paired (MkAt (upd H7 u (.tup [rv, .int mm]))) (mv ++ [.ref u]) (mks ++ [(row, mm)]) := paired_snoc ⟨u, rv, rfl, upd_same, hz.ext (Ext.new hu _)⟩ hp1
        exact paired_mono (fun x y h => MkAt.put (by rw [upd_ne hLu]; exact hL7) h) hp2
      · rcases List.mem_append.mp hmk with h | h
        · exact okm mk h
        · rw [List.mem_singleton.mp h]
          exact ⟨List.mem_of_getElem? hrow, by show 0 ≤ mm; omega, by show mm ≤ topAt W n; omega⟩
    · rintro σ Hc ⟨mv, mks, o4, o5, o9, o10, o11, o12, rfl, ec, Rc, hLm, hmk, lmk, okm⟩
      have lmv := paired_len hmk
      have hrc := ec.lst hrwr hrws
      have hsc := ec.lst hsgr hsg
      have hrvc := Rb.pTI ec hrvs
      refine ⟨(by show 0 ≤ sizeLine; decide), fun M hM => ?_⟩
      refine ⟨_, rfl, rw_, rfl, ⟨_, SqL.of ((Ext.new hM _).lst hrc)⟩, for_list (K := K) (a := rw_) (xs := rvs) (fun i σ H' => ∃ (o4 o5 o9 o11 o12 : Option V), σ = [some (.ref r), some (.ref a), some (.int n), some (.ref p), o4, o5, some (.ref rw_), some (.ref D'), some (.ref L), o9, some (.ref M), o11, o12] ∧ Ext Hc H' ∧ H' M = some (.lst (iv (tableOf (signsAt W n) ((rowsAt W n).take i) mks))))
        ⟨_, _, _, _, _, rfl, Ext.new hM _, by rw [upd_same]; rfl⟩ (fun i σ H' _ ⟨_, _, _, _, _, _, e, _⟩ => SqL.of (e.lst hrc)) ?_ ?_⟩
      · rintro i x σ H' hi ⟨o4, o5, o9, o11, o12, rfl, e, hMi⟩
        obtain ⟨row, hrow, z, rfl, hz⟩ := paired_get' (pTI.ext e hrvc) hi
        have hrm := List.mem_of_getElem? hrow
        have hi2 : i < (rowsAt W n).length := (List.getElem?_eq_some_iff.mp hrow).1
        refine ⟨_, rfl, ⟨M, _, rfl, hMi⟩, (by show 1 ≤ sizeLine; decide), fun z0 hz0 => ?_⟩
        have ez := Ext.new hz0 (.lst [V.int 0])
        refine ⟨_, rfl, L, rfl, ⟨_, SqL.of (ez.lst (e.lst hLm))⟩, fun D2 hD2 => ?_⟩
        refine lc_list (K := K) (a := L) (xs := mv) (fun j H4 => H4 D2 = some (.lst (iv (((mks.take j).filter fun mk => lawGoes (signsAt W n) mk.1 row).map (·.2)))) ∧ Ext (upd H' z0 (.lst [V.int 0])) H4) ⟨by rw [upd_same]; rfl, Ext.new hD2 _⟩ (fun j H4 _ ⟨_, e4⟩ => SqL.of (e4.lst (ez.lst (e.lst hLm)))) (fun j x H4 hj ⟨h4, e4⟩ => ?_) fun H4 ⟨h4, e4⟩ => ?_
        · have E := (e.trans ez).trans e4
          obtain ⟨mk, hmkj, t', z', rfl, ht', hz'⟩ := paired_get' (paired_mono (fun x y h => h.ext E) hmk) hj
          have hmm := okm mk (List.mem_of_getElem? hmkj)
          refine ⟨t', _, rfl, ht', rfl, _, _, rfl, _, _, rfl, rfl, rfl, ?_⟩
          refine ⟨_, rfl, _, rfl, _, rfl, D', _, _, signsAt W n, mk.1, row, rfl, E.lst hsc, hz', ⟨z, rfl, (ez.trans e4).tup hz⟩, ?_, ?_, ?_, signs_ok ok, fun x hx => ?_, fun x hx => ?_, fun H5 e5 => ⟨_, rfl, ?_⟩⟩
          · rw [rowsAt_row hmm.1]; unfold signsAt; rw [List.length_map]
          · rw [rowsAt_row hrm]; unfold signsAt; rw [List.length_map]
          · unfold signsAt; rw [List.length_map]; omega
          · have := rowsAt_bd ok hmm.1 x hx; omega
          · have := rowsAt_bd ok hrm x hx; omega
          · rw [take_snoc hmkj, List.filter_append, List.map_append]
            refine ite_of (fun hg => ?_) (fun hg => ?_)
            · refine ⟨_, rfl, _, e5.lst h4, ?_, ?_, (e4.trans e5).put hD2 _⟩
              · rw [iv_len, List.length_map]
                have := List.length_filter_le (fun mk : Mark => lawGoes (signsAt W n) mk.1 row) (mks.take j)
                rw [List.length_take] at this
                exact small1000 (by omega)
              · rw [upd_same, List.filter_cons, if_pos hg]
                unfold iv
                rw [List.map_append]
                rfl
            · refine ⟨?_, e4.trans e5⟩
              rw [e5.lst h4, List.filter_cons, hg]
              simp
        · rw [lmv, List.take_length] at h4
          have hfl : ((mks.filter fun mk => lawGoes (signsAt W n) mk.1 row).map (·.2)).length ≤ 4 := by
            rw [List.length_map]
            have := List.length_filter_le (fun mk : Mark => lawGoes (signsAt W n) mk.1 row) mks
            omega
          refine ⟨z0, D2, _, _, rfl, rfl, e4.lst upd_same, h4, ?_, fun q hq => ?_⟩
          · rw [iv_len]
            exact Nat.le_of_lt (small1000 (by simp only [List.length_singleton]; omega))
          · have eq := Ext.new hq (.lst ([V.int 0] ++ iv ((mks.filter fun mk => lawGoes (signsAt W n) mk.1 row).map (·.2))))
            refine ⟨q, 0 :: (mks.filter fun mk => lawGoes (signsAt W n) mk.1 row).map (·.2), rfl, SqL.of upd_same, by simp, fun m hm1 hm2 => ?_⟩
            have EE := (ez.trans e4).trans eq
            refine ⟨M, _, _, rfl, rfl, EE.lst hMi, ?_, _, _, _, _, _, rfl, (e.trans EE).put hM _, ?_⟩
            · rw [iv_len]
              unfold tableOf
              rw [List.length_map, List.length_take]
              exact small1000 (by omega)
            · rw [upd_same, take_snoc hrow, maxOf_eq hm1 hm2]
              unfold tableOf iv
              rw [List.map_append, List.map_append]
              rfl
      · rintro σ H' ⟨o4, o5, o9, o11, o12, rfl, e, hMi⟩
        rw [lrv, List.take_length] at hMi
        refine ⟨_, rfl, M, _, rfl, hMi, fun u hu => ?_⟩
        have e' := (ec.trans e.b)
        exact k _ u mks ((Eb.b.trans e').trans (Ext.new hu _).b) ((Rc.ext e).new hu _) (Eb.free (e'.free hu)) okm upd_same
end
end Lk

/-! ## D02b -/
set_option Elab.async false
set_option linter.all false
set_option maxRecDepth 100000
set_option maxHeartbeats 2000000
namespace Lk
open PySem PySem.Spec PyProof.Rows L2 Gx
open GxR (TabG Tabbed TabB)
variable [Own]
abbrev s_are_tops : Stmt := top 13
theorem sc_are_tops : FnScope ["value", "top"] ["value"] (defScope s_are_tops) := ⟨rfl, rfl, rfl, by decide +kernel, rfl, by decide +kernel, by decide +kernel⟩
def spAreTops (Ps : List Addr) : Sp := fun vs H Q _ => ∃ (v : V) (tops : List Int), vs = [v] ∧ TI H v tops ∧ (1 ≤ tops.length ∧ tops.length ≤ 6) ∧ (∀ t ∈ tops, 1 ≤ t ∧ t ≤ 3) ∧ Tabs Ps H ∧ ∀ H', Ext H H' → Q (.bl true) H'
section
variable {P : Program} {w : World} {K : PySem.W.Frag} {mg : Str → Option Value} {base : Heap} {Ps : List Addr}
theorem ok_are_tops {f T : Addr} {fd : FuncData} (F : FunT K mg base Ps "are_tops" s_are_tops f fd T) (B : Blt mg) (M : Nums mg)
    (c_is_whole : Cal P w K mg base CX0 1 "is_whole" ["value", "least", "most"] spIsWhole) : FnOk P w K mg base CX0 3 f fd ["value"] (spAreTops Ps) := by
  refine F.ok sc_are_tops (fun vs H Q E h => ?_) (fun c A outer s H vs Q E TB hr h => ?_)
  · obtain ⟨v, tops, rfl, _⟩ := h
    rfl
  · obtain ⟨v, tops, rfl, ⟨a, rfl, ha⟩, ⟨h1, h6⟩, hT, hTb, k⟩ := h
    refine ⟨_, (pss_cons (ps_if (PW.pt (pw_or (pt_not (pt_val (pe_callB call_isi (by rfl) B.isi boot_isinstance (pa_cons (pv 0) (pa_cons (pe_bltn (v := .ty "tuple") (by rfl) B.tuple boot_tyTuple rfl) pa_nil))))) (pw_or1 (pt_not (pt_chain op_le op_le pe_int (pe_callB call_lenT (by rfl) B.len PySem.boot_len (pa_cons (pv 0) pa_nil)) (pe_num M.MOST_FOLK (by rfl)))))))
        (pss_one (ps_ret pe_bl)) pss_nil)
      (pss_one (ps_ret (pe_allG (own := [("top", 1)]) (k := 1) (hr.mono (by decide)) rfl sc_are_tops.nd (by rfl) B.all TB rfl (pi_tup (pv 0)) ⟨(blkOk_by (N := ["value", "top"]) (sc := defScope s_are_tops) (by decide +kernel)), noCells_ok (by decide +kernel), rfl, rfl⟩ (fun _ _ _ _ _ _ => (pg_name (i := 1) sc_are_tops.nd rfl (by first | exact Or.inl rfl | exact Or.inr rfl))) (fun _ _ _ _ _ _ hr' => pts_nil) (fun _ _ _ _ _ _ hr' => (pe_c0 c_is_whole (hr'.mono (by decide)) (by rfl) (pa_cons (pv 1) (pa_cons pe_int (pa_cons (pe_num M.MOST_TOP (by rfl)) pa_nil))))))))), ?_⟩
    have lenT : (iv tops).length = tops.length := iv_len tops
    refine ⟨_, rfl, _, _, _, _, true, rfl, .ty "tuple", isi_tup ha, kit_ty (by decide +kernel), _, rfl, iteF ?_⟩
    refine ⟨_, rfl, _, _, rfl, .inr ha, _, _, rfl, rfl, true, ?_⟩
    have e1 : decide ((1 : Int) ≤ ((iv tops).length : Int)) = true := decide_eq_true (by rw [lenT]; omega)
    have e2 : decide (((iv tops).length : Int) ≤ (6 : Int)) = true := decide_eq_true (by rw [lenT]; omega)
    refine ⟨congrArg V.bl e1, iteT ⟨_, _, rfl, rfl, true, congrArg V.bl e2, iteF ?_⟩⟩
    have hg : TabG H T := hTb T F.mem
    refine ⟨_, rfl, a, rfl, ⟨_, SqT.of ha⟩, hg, fun H2 hT2 => ?_⟩
    have E2 : Ext H H2 := Ext.tabbed F.nown hg hT2
    refine quant_it (walk_tup (xs := iv tops)) (fun _ H' => H' = H2) rfl (fun i H' _ e => by rw [e]; exact SqT.of (E2.tup ha)) (fun i x H' H'' hi e y => ?_) fun H' e => by rw [e]; exact k H2 E2
    obtain ⟨e', hx⟩ := y
    subst e e'
    obtain ⟨n, hn, rfl⟩ := iv_get hx
    refine ⟨rfl, yes ?_⟩
    refine ⟨_, rfl, n, 1, 3, rfl, ?_⟩
    have hb := hT n (List.mem_of_getElem? hn)
    have e3 : isWhole n 1 3 = true := by simp [isWhole, hb.1, hb.2]
    refine ⟨true, congrArg V.bl e3, iteTF rfl⟩
end
end Lk

/-! ## D03 -/
set_option Elab.async false
set_option linter.all false
set_option maxRecDepth 100000
set_option maxHeartbeats 2000000
namespace Lk
open PySem PySem.Spec PyProof.Rows L2 Gx
open GxR (TabG Tabbed TabB)
variable [Own]
abbrev s_is_look : Stmt := top 14
theorem sc_is_look : FnScope ["value", "many", "one", "other", "sign"] ["value", "many"] (defScope s_is_look) := ⟨rfl, rfl, rfl, by decide +kernel, rfl, by decide +kernel, by decide +kernel⟩
def spIsLook : Sp := fun vs H Q _ => ∃ (v : V) (n a b s : Int), vs = [v, .int n] ∧ TI H v [a, b, s] ∧ (0 ≤ a ∧ a < n) ∧ (0 ≤ b ∧ b < n) ∧ (s = 1 ∨ s = -1) ∧ Q (.bl true) H
section
variable {P : Program} {w : World} {K : PySem.W.Frag} {mg : Str → Option Value} {base : Heap} {Ps : List Addr}
theorem whole_in {i lo hi : Int} (h : lo ≤ i) (h2 : i ≤ hi) : isWhole i lo hi = true := by simp [isWhole, h, h2]
theorem ok_is_look {f : Addr} {fd : FuncData} (F : Fun K "is_look" "is_look" s_is_look f fd) (B : Blt mg)
    (c_is_whole : Cal P w K mg base CX0 1 "is_whole" ["value", "least", "most"] spIsWhole) : FnOk P w K mg base CX0 2 f fd ["value", "many"] spIsLook := by
  refine F.ok sc_is_look (fun vs H Q E h => ?_) (fun cdv A outer s H vs Q E hr h => ?_)
  · obtain ⟨v, n, a, b, s, rfl, _⟩ := h
    rfl
  · obtain ⟨v, n, a, b, sg, rfl, ⟨p, rfl, hp⟩, ⟨ha, ha2⟩, ⟨hb, hb2⟩, hs, k⟩ := h
    refine ⟨_, (pss_cons (ps_if (PW.pt (pw_or (pt_not (pt_val (pe_callB call_isi (by rfl) B.isi boot_isinstance (pa_cons (pv 0) (pa_cons (pe_bltn (v := .ty "tuple") (by rfl) B.tuple boot_tyTuple rfl) pa_nil))))) (pw_or1 (pt_cmpR op_ne (pe_callB call_lenT (by rfl) B.len PySem.boot_len (pa_cons (pv 0) pa_nil)) pe_int (nomark _)))))
        (pss_one (ps_ret pe_bl)) pss_nil)
      (pss_cons (ps_asg (pv 0) (pg_tupT (n := 3) rfl (pgs_cons (pg_name (i := 2) sc_is_look.nd rfl (by first | exact Or.inl rfl | exact Or.inr rfl)) (pgs_cons (pg_name (i := 3) sc_is_look.nd rfl (by first | exact Or.inl rfl | exact Or.inr rfl)) (pgs_cons (pg_name (i := 4) sc_is_look.nd rfl (by first | exact Or.inl rfl | exact Or.inr rfl)) pgs_nil)))))
      (pss_cons (ps_if (PW.pt (pw_or (pt_not (pt_val (pe_c0 c_is_whole (hr.mono (by decide)) (by rfl) (pa_cons (pv 2) (pa_cons pe_int (pa_cons (pe_op op_sub (pv 1) pe_int) pa_nil)))))) (pw_or1 (pt_not (pt_val (pe_c0 c_is_whole (hr.mono (by decide)) (by rfl) (pa_cons (pv 3) (pa_cons pe_int (pa_cons (pe_op op_sub (pv 1) pe_int) pa_nil)))))))))
        (pss_one (ps_ret pe_bl)) pss_nil)
      (pss_one (ps_ret (pe_and (pe_c0 c_is_whole (hr.mono (by decide)) (by rfl) (pa_cons (pv 4) (pa_cons (pe_un un_neg pe_int) (pa_cons pe_int pa_nil)))) (pe_one (pe_cmpR op_ne (pv 4) pe_int (nomark _))))))))), ?_⟩
    refine ⟨_, rfl, _, _, _, _, true, rfl, .ty "tuple", isi_tup hp, kit_ty (by decide +kernel), _, rfl, iteF ?_⟩
    refine ⟨_, rfl, _, _, rfl, .inr hp, rfl, _, rfl, iteF ?_⟩
    refine ⟨_, rfl, p, _, rfl, hp, rfl, _, _, rfl, _, _, rfl, _, _, rfl, rfl, ?_⟩
    refine ⟨_, rfl, _, rfl, _, _, rfl, rfl, a, 0, n - 1, rfl, _, rfl, ?_⟩
    rw [whole_in ha (by omega)]
    refine iteF ⟨_, rfl, _, rfl, _, _, rfl, rfl, b, 0, n - 1, rfl, _, rfl, ?_⟩
    rw [whole_in hb (by omega)]
    refine iteF ⟨_, rfl, _, rfl, sg, -1, 1, rfl, _, rfl, ?_⟩
    rw [whole_in (by omega) (by omega)]
    refine iteT ⟨_, rfl, rfl, ?_⟩
    have e : (!decide (V.int sg = V.int 0)) = true := by
      rw [decide_eq_false (fun z => by cases z; omega)]
      rfl
    show Q (V.bl (!decide (V.int sg = V.int 0))) H
    rw [e]
    exact k
end
end Lk

/-! ## D06 -/
set_option Elab.async false
set_option linter.all false
set_option maxRecDepth 100000
set_option maxHeartbeats 2000000
namespace Lk
open PySem PySem.Spec PyProof.Rows L2 Gx
open GxR (TabG Tabbed TabB)
variable [Own]
abbrev s_are_looks : Stmt := top 15
theorem sc_are_looks : FnScope ["value", "many", "look", "one", "other", "_", "pairs", "lookers", "folk"] ["value", "many"] (defScope s_are_looks) := ⟨rfl, rfl, rfl, by decide +kernel, rfl, by decide +kernel, by decide +kernel⟩
def spAreLooks (Ps : List Addr) : Sp := fun vs H Q _ => ∃ (v : V) (W : Web), vs = [v, .int W.tops.length] ∧ TT2 H v (W.looks.map row3) ∧ W.Ok ∧ Tabs Ps H ∧ ∀ H', Ext H H' → Q (.bl true) H'
def pair2 (l : Look3) : List Int := [l.1, l.2.1]
theorem pairs_asc {W : Web} (ok : W.Ok) : (W.looks.map pair2).Pairwise fun x y => TS.code 64 x < TS.code 64 y := by
  rw [List.pairwise_map]
  refine List.Pairwise.imp_of_mem (fun {a b} ha hb h => ?_) ok.asc
  have h1 := ok.look a ha
  have h2 := ok.look b hb
  have h6 := ok.few
  unfold pair2
  rw [code_pair, code_pair]
  omega
section
variable {P : Program} {w : World} {K : PySem.W.Frag} {mg : Str → Option Value} {base : Heap} {Ps : List Addr}
theorem row3_at {H : Hp} {vs : List V} {ls : List Look3} {i : Nat} {x : V} (p : Paired (TI H) vs (ls.map row3)) (h : vs[i]? = some x) : ∃ l q, ls[i]? = some l ∧ x = .ref q ∧ H q = some (.tup [.int l.1, .int l.2.1, .int l.2.2]) := by
  obtain ⟨row, hrow, q, e, hq⟩ := paired_get' p h
  rw [List.getElem?_map] at hrow
  cases e2 : ls[i]? with
  | none => rw [e2] at hrow; cases hrow
  | some l =>
    rw [e2] at hrow
    obtain rfl := Option.some.inj hrow
    exact ⟨l, q, rfl, e, hq⟩
theorem pair_at {H : Hp} {vs : List V} {ls : List Look3} {i : Nat} {x : V} (p : Paired (TI H) vs (ls.map pair2)) (h : vs[i]? = some x) : ∃ l q, ls[i]? = some l ∧ x = .ref q ∧ H q = some (.tup [.int l.1, .int l.2.1]) := by
  obtain ⟨row, hrow, q, e, hq⟩ := paired_get' p h
  rw [List.getElem?_map] at hrow
  cases e2 : ls[i]? with
  | none => rw [e2] at hrow; cases hrow
  | some l =>
    rw [e2] at hrow
    obtain rfl := Option.some.inj hrow
    exact ⟨l, q, rfl, e, hq⟩
theorem ok_are_looks {f T : Addr} {fd : FuncData} (F : FunT K mg base Ps "are_looks" s_are_looks f fd T) (B : Blt mg) (M : Nums mg)
    (c_is_look : Cal P w K mg base CX0 2 "is_look" ["value", "many"] spIsLook) : FnOk P w K mg base CX0 4 f fd ["value", "many"] (spAreLooks Ps) := by
  refine F.ok sc_are_looks (fun vs H Q E h => ?_) (fun c A outer s0 H vs Q E TB hr h => ?_)
  · obtain ⟨v, W, rfl, _⟩ := h
    rfl
  · obtain ⟨v, W, rfl, ⟨a, ls, rfl, ha, hls⟩, ok, hTb, k⟩ := h
    refine ⟨_, (pss_cons (ps_if (PW.pt (pw_or (pt_not (pt_val (pe_callB call_isi (by rfl) B.isi boot_isinstance (pa_cons (pv 0) (pa_cons (pe_bltn (v := .ty "tuple") (by rfl) B.tuple boot_tyTuple rfl) pa_nil))))) (pw_or1 (pt_cmpR op_gt (pe_callB call_lenT (by rfl) B.len PySem.boot_len (pa_cons (pv 0) pa_nil)) (pe_num M.MOST_LOOKS (by rfl)) (nomark _)))))
        (pss_one (ps_ret pe_bl)) pss_nil)
      (pss_cons (ps_if (pt_not (pt_val (pe_allG (own := [("look", 2)]) (k := 2) (hr.mono (by decide)) rfl sc_are_looks.nd (by rfl) B.all TB rfl (pi_tup (pv 0)) ⟨(blkOk_by (N := ["value", "many", "look", "one", "other", "_", "pairs", "lookers", "folk"]) (sc := defScope s_are_looks) (by decide +kernel)), noCells_ok (by decide +kernel), rfl, rfl⟩ (fun _ _ _ _ _ _ => (pg_name (i := 2) sc_are_looks.nd rfl (by first | exact Or.inl rfl | exact Or.inr rfl))) (fun _ _ _ _ _ _ hr' => pts_nil) (fun _ _ _ _ _ _ hr' => (pe_c0 c_is_look (hr'.mono (by decide)) (by rfl) (pa_cons (pv 2) (pa_cons (pv 1) pa_nil)))))))
        (pss_one (ps_ret pe_bl)) pss_nil)
      (pss_cons (ps_setLc (i := 6) (own := [("one", 3), ("other", 4), ("_", 5)]) rfl sc_are_looks.nd rfl rfl (sw_true rfl rfl rfl (by decide +kernel)) (pi_tup (pv 0)) (blkOk_by (N := ["value", "many", "look", "one", "other", "_", "pairs", "lookers", "folk"]) (sc := defScope s_are_looks) (by decide +kernel)) (fun _ _ _ _ _ => (pg_tupT (n := 3) rfl (pgs_cons (pg_name (i := 3) sc_are_looks.nd rfl (by first | exact Or.inl rfl | exact Or.inr rfl)) (pgs_cons (pg_name (i := 4) sc_are_looks.nd rfl (by first | exact Or.inl rfl | exact Or.inr rfl)) (pgs_cons (pg_name (i := 5) sc_are_looks.nd rfl (by first | exact Or.inl rfl | exact Or.inr rfl)) pgs_nil))))) (fun _ _ _ _ _ => pts_nil) (fun _ _ _ _ _ => (pe_tup (pa_cons (pv 3) (pa_cons (pv 4) pa_nil)))))
      (pss_cons (ps_if (pt_cmpR (op_neLT2 hr.units) (pv 6) (pe_callB (cr_sortedT rfl) (by rfl) B.sorted boot_sorted (pa_cons (pe_callTy (cr_setOfT rfl hr.units) (by rfl) B.set boot_set (pa_cons (pv 6) pa_nil)) pa_nil)) (nomark _))
        (pss_one (ps_ret pe_bl)) pss_nil)
      (pss_cons (ps_set (i := 7) sc_are_looks.nd rfl (by first | exact Or.inl rfl | exact Or.inr rfl) (pe_lc (own := [("_", 5), ("other", 4)]) rfl sc_are_looks.nd (pi_list (pv 6)) (blkOk_by (N := ["value", "many", "look", "one", "other", "_", "pairs", "lookers", "folk"]) (sc := defScope s_are_looks) (by decide +kernel)) (fun _ _ _ _ _ => (pg_tupT (n := 2) rfl (pgs_cons (pg_name (i := 5) sc_are_looks.nd rfl (by first | exact Or.inl rfl | exact Or.inr rfl)) (pgs_cons (pg_name (i := 4) sc_are_looks.nd rfl (by first | exact Or.inl rfl | exact Or.inr rfl)) pgs_nil)))) (fun _ _ _ _ _ => pts_nil) (fun _ _ _ _ _ => (pv 4))))
      (pss_one (ps_ret (pe_allG (own := [("folk", 8)]) (k := 2) (hr.mono (by decide)) rfl sc_are_looks.nd (by rfl) B.all TB rfl (pi_range1 (by rfl) B.range (pa_cons (pv 1) pa_nil)) ⟨(blkOk_by (N := ["value", "many", "look", "one", "other", "_", "pairs", "lookers", "folk"]) (sc := defScope s_are_looks) (by decide +kernel)), noCells_ok (by decide +kernel), rfl, rfl⟩ (fun _ _ _ _ _ _ => (pg_name (i := 8) sc_are_looks.nd rfl (by first | exact Or.inl rfl | exact Or.inr rfl))) (fun _ _ _ _ _ _ hr' => pts_nil) (fun _ _ _ _ _ _ hr' => (pe_cmpR op_le (pe_bmL PySem.F.plainAttrs_list PySem.F.slot_list_count PySem.F.type_list_count mt_cntL (pv 7) (pa_cons (pv 8) pa_nil)) (pe_num M.MOST_LOOKS_OF_ONE (by rfl)) (nomark _))))))))))), ?_⟩
    have lls : ls.length = W.looks.length := by rw [paired_len hls, List.length_map]
    have h14 := ok.most
    have h6 := ok.few
    refine ⟨_, rfl, _, _, _, _, true, rfl, .ty "tuple", isi_tup ha, kit_ty (by decide +kernel), _, rfl, iteF ?_⟩
    refine ⟨_, rfl, _, _, rfl, .inr ha, _, _, rfl, rfl, _, rfl, ?_⟩
    rw [decide_eq_false (by omega : ¬ (14 : Int) < (ls.length : Int))]
    refine iteF ?_
    have hg : TabG H T := hTb T F.mem
    refine ⟨_, rfl, a, rfl, ⟨_, SqT.of ha⟩, hg, fun H2 hT2 => ?_⟩
    have E2 : Ext H H2 := Ext.tabbed F.nown hg hT2
    refine quant_test (walk_tup (K := K) (xs := ls)) (fun _ H' => H' = H2) rfl (fun i H' _ e => by rw [e]; exact SqT.of (E2.tup ha)) (fun i x H4 H5 hi e4 y => ?_) fun H4 e4 => ?_
    · subst e4
      obtain ⟨rfl, hx⟩ := y
      obtain ⟨lk, q, hlk, rfl, hq⟩ := row3_at (pTI.ext E2 hls) hx
      have h1 := ok.look lk (List.mem_of_getElem? hlk)
      refine ⟨rfl, yes ?_⟩
      exact ⟨_, rfl, _, rfl, _, _, lk.1, lk.2.1, lk.2.2, rfl, ⟨q, rfl, hq⟩, h1.1, h1.2.1, h1.2.2, true, rfl, iteTF rfl⟩
    · subst e4
      refine iteF ?_
      refine ⟨_, rfl, a, rfl, ⟨_, SqT.of (E2.tup ha)⟩, fun D hD => ?_⟩
      refine lc_tup (K := K) (xs := ls) (fun i H' => ∃ acc, H' D = some (.lst acc) ∧ Ext H4 H' ∧ acc.length ≤ i ∧ Paired (TI H') acc ((W.looks.take i).map pair2)) ⟨[], upd_same, Ext.new hD _, Nat.le_refl _, .nil⟩ (fun i H' _ ⟨_, _, e, _⟩ => SqT.of (e.tup (E2.tup ha))) (fun i x H' hi ⟨acc, hacc, e, hl, hp⟩ => ?_) fun H' ⟨acc, hacc, e, hl, hp⟩ => ?_
      · obtain ⟨lk, q, hlk, rfl, hq⟩ := row3_at (pTI.ext (E2.trans e) hls) hi
        have hi14 : i < 14 := by
          have := (List.getElem?_eq_some_iff.mp hlk).1
          omega
        refine ⟨q, _, rfl, hq, rfl, _, _, rfl, _, _, rfl, _, _, rfl, rfl, rfl, yes ?_⟩
        refine ⟨_, rfl, _, rfl, (by show 2 ≤ sizeLine; decide), fun u hu => ?_⟩
        have hDu : D ≠ u := ne_of_none hacc hu
        refine ⟨acc, by rw [upd_ne hDu]; exact hacc, small1000 (by omega), acc ++ [.ref u], upd_same, (e.trans (Ext.new hu _)).put hD _, by rw [List.length_append]; simp; omega, ?_⟩
        rw [take_snoc hlk, List.map_append]
        exact pTI.put (H := upd H' u (.tup [.int lk.1, .int lk.2.1])) (by rw [upd_ne hDu]; exact hacc) (fun _ _ h => h) (paired_snoc ⟨u, rfl, upd_same⟩ (pTI.ext (Ext.new hu _) hp))
      · rw [lls, List.take_length] at hp
        have E3 := E2.trans e
        have lacc : acc.length = W.looks.length := by rw [paired_len hp, List.length_map]
        obtain ⟨ks, rfl, hrows, hks⟩ := paired_ks hp
        have lks : ks.length ≤ 14 := by rw [← List.length_map (f := fun p : Addr × List Int => V.ref p.1), lacc]; exact h14
        refine ⟨_, rfl, _, rfl, D, ks, rfl, SqL.of hacc, fun p hpk => SqT.of (hks p hpk), by omega, fun u L hu hL1 hL2 => ?_⟩
        have hksu : ∀ p ∈ ks, p.1 ≠ u := fun p hp z => by
          have := hks p hp
          rw [z, hu] at this
          cases this
        have hmem : ∀ p ∈ ks, ∃ l ∈ W.looks, p.2 = pair2 l := fun p hp => by
          have h1 : p.2 ∈ ks.map (·.2) := List.mem_map.mpr ⟨p, hp, rfl⟩
          rw [← hrows] at h1
          obtain ⟨l, hl, e⟩ := List.mem_map.mp h1
          exact ⟨l, hl, e.symm⟩
        have bdP : ∀ p ∈ ks, p.2.length = 2 ∧ TS.Bd 64 p.2 := fun p hp => by
          obtain ⟨l, hl, e⟩ := hmem p hp
          have h1 := ok.look l hl
          rw [e]
          refine ⟨rfl, fun m hm => ?_⟩
          unfold pair2 at hm
          rcases List.mem_cons.mp hm with z | hm
          · omega
          · rw [List.mem_singleton.mp hm]
            omega
        refine ⟨u, L, 2, 64, rfl, upd_same, fun p hp => SqT.of (by rw [upd_ne (hksu p (hL1 p hp))]; exact hks p (hL1 p hp)), by decide, fun p hp => bdP p (hL1 p hp), fun L' q perm nd hlt hpw hq => ?_⟩
        have E5 := (Ext.new hu _).trans (Ext.new hq (.lst (L'.map fun q => V.ref q.1)))
        have inK : ∀ p ∈ L', p ∈ ks := fun p hp => hL1 p (perm.mem_iff.mp hp)
        have hb : L'.map (·.2) = W.looks.map pair2 := by
          refine asc_eq (f := TS.code 64) ?_ (pairs_asc ok) fun x => ⟨fun hx => ?_, fun hx => ?_⟩
          · rw [List.pairwise_map]
            have nd2 := List.pairwise_map.mp nd
            refine List.Pairwise.imp_of_mem (fun {x y} hx hy h => ?_) (hpw.and nd2)
            obtain ⟨h1, h2⟩ := h
            obtain ⟨l, hl, ex⟩ := hmem x (inK x hx)
            obtain ⟨m, hm, ey⟩ := hmem y (inK y hy)
            have b1 := ok.look l hl
            have b2 := ok.look m hm
            rw [ex, ey] at h1 h2 ⊢
            unfold pair2 at h1 h2 ⊢
            rw [code_pair, code_pair] at h1 ⊢
            rcases Int.lt_or_eq_of_le h1 with z | z
            · exact z
            · exact absurd (by rw [show l.1 = m.1 by omega, show l.2.1 = m.2.1 by omega]) h2
          · obtain ⟨p, hp, rfl⟩ := List.mem_map.mp hx
            rw [hrows]
            exact List.mem_map.mpr ⟨p, inK p hp, rfl⟩
          · rw [hrows] at hx
            obtain ⟨p, hp, rfl⟩ := List.mem_map.mp hx
            obtain ⟨p', hp', e'⟩ := List.mem_map.mp (hL2 p hp)
            exact List.mem_map.mpr ⟨p', perm.mem_iff.mpr hp', e'⟩
        refine ⟨W.looks.map pair2, L'.map (·.2), ⟨D, _, rfl, E5.lst hacc, pTI.ext E5 hp⟩, ⟨q, _, rfl, upd_same, ks_paired fun p hp => E5.tup (hks p (inK p hp))⟩, _, rfl, ?_⟩
        rw [hb, decide_eq_true rfl]
        refine iteF ?_
        refine ⟨_, rfl, D, rfl, ⟨_, SqL.of (E5.lst hacc)⟩, fun D2 hD2 => ?_⟩
        refine lc_list (K := K) (xs := ks.map fun p => V.ref p.1) (fun i H7 => H7 D2 = some (.lst (iv ((W.looks.take i).map fun l => l.2.1))) ∧ Ext H' H7) ⟨upd_same, E5.trans (Ext.new hD2 _)⟩ (fun i H7 _ ⟨_, e7⟩ => SqL.of (e7.lst hacc)) (fun i x H7 hi ⟨h7, e7⟩ => ?_) fun H7 ⟨h7, e7⟩ => ?_
        · obtain ⟨lk, z, hlk, rfl, hz⟩ := pair_at (pTI.ext e7 hp) hi
          refine ⟨z, _, rfl, hz, rfl, _, _, rfl, _, _, rfl, rfl, rfl, yes ?_⟩
          have hi14 : i < 14 := by
            have := (List.getElem?_eq_some_iff.mp hlk).1
            omega
          refine ⟨_, rfl, _, h7, ?_, ?_, e7.put (E5.free hD2) _⟩
          · rw [iv_len, List.length_map, List.length_take]
            exact small1000 (by omega)
          · rw [upd_same, take_snoc hlk, List.map_append]
            show some (HO.lst _) = some (HO.lst (List.map V.int (_ ++ _)))
            rw [List.map_append]
            rfl
        · have h7 : H7 D2 = some (.lst (iv (W.looks.map fun l => l.2.1))) := by
            rw [h7, lacc, List.take_length]
          have E7 := E3.trans e7
          have hg7 : TabG H7 T := E7.tab T hg
          refine ⟨_, rfl, _, rfl, by omega, by omega, hg7, fun H8 hT8 => ?_⟩
          have E8 := E7.trans (Ext.tabbed F.nown hg7 hT8)
          have h8 := (Ext.tabbed F.nown hg7 hT8).lst h7
          refine quant_it (walk_range (lo := 0) (n := ((W.tops.length : Int)).toNat)) (fun _ H' => H' = H8) rfl (fun _ _ _ _ => trivial) (fun i x H9 H10 hi e9 y => ?_) fun H9 e9 => by rw [e9]; exact k H8 E8
          subst e9
          obtain ⟨rfl, rfl⟩ := rng_len y
          refine ⟨rfl, yes ?_⟩
          refine ⟨_, rfl, ⟨D2, _, rfl, h8⟩, _, rfl, D2, _, (i : Int), rfl, rfl, h8, _, _, rfl, rfl, ?_⟩
          have h4 := ok.four (i : Int)
          rw [← List.countP_eq_length_filter] at h4
          refine ⟨true, congrArg V.bl (decide_eq_true ?_), iteTF rfl⟩
          have : ((W.looks.map fun l => l.2.1).count (i : Int)) ≤ 4 := h4
          omega
end
end Lk

/-! ## D11 -/
set_option Elab.async false
set_option linter.all false
set_option maxRecDepth 100000
set_option maxHeartbeats 2000000
namespace Lk
open PySem PySem.Spec PyProof.Rows L2 Gx
open GxR (TabG Tabbed TabB)
open RZ (ItzT pi_zipA)
variable [Own]
theorem walk_zipT {K : PySem.W.Frag} {a b : Addr} {xs ys : List V} {n : Nat} (hn : n = min xs.length ys.length) : Walk (ItzT K a b) n (fun H => SqT K H a xs ∧ SqT K H b ys) (YPair (fun i => xs[i]?) (fun i => ys[i]?)) := by
  subst hn
  refine ⟨fun i _ hi q => ⟨xs, ys, xs[i]'(by omega), ys[i]'(by omega), q.1, q.2, by simp [show i < xs.length by omega], by simp [show i < ys.length by omega]⟩, fun _ q => ⟨xs, ys, q.1, q.2, by omega⟩, fun i H v H' _ q y => ?_⟩
  obtain ⟨T, x, z, h1, h2, h3, h4, h5⟩ := y
  exact ⟨T, x, z, h1, h2, h3, h4 xs q.1, h5 ys q.2⟩
abbrev s_is_state : Stmt := top 28
theorem sc_is_state : FnScope ["web", "value", "tops", "_", "mood", "top"] ["web", "value"] (defScope s_is_state) := ⟨rfl, rfl, rfl, by decide +kernel, rfl, by decide +kernel, by decide +kernel⟩
def spIsState (Ps : List Addr) : Sp := fun vs H Q _ => ∃ (v z : V) (W : Web) (st : List Int), vs = [v, z] ∧ WebAt H v W ∧ W.Ok ∧ TI H z st ∧ StOk W st ∧ Tabs Ps H ∧ ∀ H', Ext H H' → Q (.bl true) H'
abbrev s_check_state : Stmt := top 29
theorem sc_check_state : FnScope ["web", "state"] ["web", "state"] (defScope s_check_state) := ⟨rfl, rfl, rfl, by decide +kernel, rfl, by decide +kernel, by decide +kernel⟩
def spCheckState (Ps : List Addr) : Sp := fun vs H Q _ => ∃ (v z : V) (W : Web) (st : List Int), vs = [v, z] ∧ WebAt H v W ∧ W.Ok ∧ TI H z st ∧ StOk W st ∧ Tabs Ps H ∧ ∀ H', Ext H H' → Q .non H'
abbrev s_wrong_part : Stmt := top 16
theorem sc_wrong_part : FnScope ["web", "tops", "looks"] ["web"] (defScope s_wrong_part) := ⟨rfl, rfl, rfl, by decide +kernel, rfl, by decide +kernel, by decide +kernel⟩
def spWrongPart (Ps : List Addr) : Sp := fun vs H Q _ => ∃ (v : V) (W : Web), vs = [v] ∧ WebAt H v W ∧ W.Ok ∧ Tabs Ps H ∧ ∀ H', Ext H H' → Q .non H'
abbrev s_check_web : Stmt := top 17
theorem sc_check_web : FnScope ["web", "part"] ["web"] (defScope s_check_web) := ⟨rfl, rfl, rfl, by decide +kernel, rfl, by decide +kernel, by decide +kernel⟩
def spCheckWeb (Ps : List Addr) : Sp := fun vs H Q _ => ∃ (v : V) (W : Web), vs = [v] ∧ WebAt H v W ∧ W.Ok ∧ Tabs Ps H ∧ ∀ H', Ext H H' → Q .non H'
abbrev s_check_folk : Stmt := top 18
theorem sc_check_folk : FnScope ["web", "folk", "tops", "_"] ["web", "folk"] (defScope s_check_folk) := ⟨rfl, rfl, rfl, by decide +kernel, rfl, by decide +kernel, by decide +kernel⟩
def spCheckFolk : Sp := fun vs H Q _ => ∃ (v : V) (W : Web) (f : Int), vs = [v, .int f] ∧ WebAt H v W ∧ (0 ≤ f ∧ f < W.tops.length) ∧ Q .non H
section
variable {P : Program} {w : World} {K : PySem.W.Frag} {mg : Str → Option Value} {base : Heap} {Ps : List Addr}
theorem ok_is_state {f T : Addr} {fd : FuncData} (F : FunT K mg base Ps "is_state" s_is_state f fd T) (B : Blt mg)
    (c_is_whole : Cal P w K mg base CX0 1 "is_whole" ["value", "least", "most"] spIsWhole) : FnOk P w K mg base CX0 3 f fd ["web", "value"] (spIsState Ps) := by
  refine F.ok sc_is_state (fun vs H Q E h => ?_) (fun c A outer s0 H vs Q E TB hr h => ?_)
  · obtain ⟨v, z, W, st, rfl, _⟩ := h
    rfl
  · obtain ⟨v, z, W, st, rfl, hW, ok, ⟨sa, rfl, hsa⟩, so, hTb, k⟩ := h
    obtain ⟨a, t, l, rfl, ha, ⟨b, rfl, hb⟩, hl⟩ := id hW
    refine ⟨_, (pss_cons (ps_asg (pv 0) (pg_tupT (n := 2) rfl (pgs_cons (pg_name (i := 2) sc_is_state.nd rfl (by first | exact Or.inl rfl | exact Or.inr rfl)) (pgs_cons (pg_name (i := 3) sc_is_state.nd rfl (by first | exact Or.inl rfl | exact Or.inr rfl)) pgs_nil))))
      (pss_cons (ps_if (PW.pt (pw_or (pt_not (pt_val (pe_callB call_isi (by rfl) B.isi boot_isinstance (pa_cons (pv 1) (pa_cons (pe_bltn (v := .ty "tuple") (by rfl) B.tuple boot_tyTuple rfl) pa_nil))))) (pw_or1 (pt_cmpR op_ne (pe_callB call_lenT (by rfl) B.len PySem.boot_len (pa_cons (pv 1) pa_nil)) (pe_callB call_lenT (by rfl) B.len PySem.boot_len (pa_cons (pv 2) pa_nil)) (nomark _)))))
        (pss_one (ps_ret pe_bl)) pss_nil)
      (pss_one (ps_ret (pe_allG (own := [("mood", 4), ("top", 5)]) (k := 1) (hr.mono (by decide)) rfl sc_is_state.nd (by rfl) B.all TB rfl (pi_zipA (by rfl) B.zip (pa_cons (pv 1) (pa_cons (pv 2) pa_nil))) ⟨(blkOk_by (N := ["web", "value", "tops", "_", "mood", "top"]) (sc := defScope s_is_state) (by decide +kernel)), noCells_ok (by decide +kernel), rfl, rfl⟩ (fun _ _ _ _ _ _ => (pg_tupT (n := 2) rfl (pgs_cons (pg_name (i := 4) sc_is_state.nd rfl (by first | exact Or.inl rfl | exact Or.inr rfl)) (pgs_cons (pg_name (i := 5) sc_is_state.nd rfl (by first | exact Or.inl rfl | exact Or.inr rfl)) pgs_nil)))) (fun _ _ _ _ _ _ hr' => pts_nil) (fun _ _ _ _ _ _ hr' => (pe_c0 c_is_whole (hr'.mono (by decide)) (by rfl) (pa_cons (pv 4) (pa_cons pe_int (pa_cons (pv 5) pa_nil)))))))))), ?_⟩
    refine ⟨_, rfl, a, _, rfl, ha, rfl, _, _, rfl, _, _, rfl, rfl, ?_⟩
    refine ⟨_, rfl, _, _, _, _, true, rfl, .ty "tuple", isi_tup hsa, kit_ty (by decide +kernel), _, rfl, iteF ?_⟩
    refine ⟨_, rfl, _, _, rfl, .inr hsa, _, rfl, _, _, rfl, .inr hb, rfl, _, rfl, ?_⟩
    have e1 : (!decide (V.int ((iv st).length : Int) = V.int ((iv W.tops).length : Int))) = false := by
      rw [iv_len, iv_len, so.len, decide_eq_true rfl]
      rfl
    rw [e1]
    refine iteF ?_
    have hg : TabG H T := hTb T F.mem
    refine ⟨_, rfl, _, rfl, sa, b, iv st, iv W.tops, rfl, .inr ⟨SqT.of hsa, SqT.of hb, hg, fun H2 hT2 => ?_⟩⟩
    have E2 : Ext H H2 := Ext.tabbed F.nown hg hT2
    refine quant_it (walk_zipT (K := K) (xs := iv st) (ys := iv W.tops) rfl) (fun _ H' => Ext H2 H') (Ext.refl _) (fun i H' _ e => ⟨SqT.of (e.tup (E2.tup hsa)), SqT.of (e.tup (E2.tup hb))⟩) (fun i x H' H'' hi e y => ?_) fun H' e => k H' (E2.trans e)
    obtain ⟨u, x1, y1, rfl, hu, rfl, hx, hy⟩ := y
    obtain ⟨m, hm, rfl⟩ := iv_get hx
    obtain ⟨t, ht, rfl⟩ := iv_get hy
    have hi1 : i < st.length := (List.getElem?_eq_some_iff.mp hm).1
    have hi2 : i < W.tops.length := by rw [← so.len]; exact hi1
    have hbd := so.bd (i : Int) (by omega) (by omega)
    have em : stAt st (i : Int) = m := by unfold stAt; rw [List.getD_eq_getElem?_getD, Int.toNat_natCast, hm]; rfl
    have et : topAt W (i : Int) = t := by unfold topAt; rw [List.getD_eq_getElem?_getD, Int.toNat_natCast, ht]; rfl
    rw [em, et] at hbd
    refine ⟨u, _, rfl, upd_same, rfl, _, _, rfl, _, _, rfl, rfl, rfl, yes ?_⟩
    refine ⟨_, rfl, _, rfl, m, 0, t, rfl, ?_⟩
    rw [whole_in hbd.1 hbd.2]
    exact ⟨true, rfl, iteTF (e.trans (Ext.new hu _))⟩
theorem ok_check_state {f : Addr} {fd : FuncData} (F : Fun K "check_state" "check_state" s_check_state f fd)
    (c_is_state : Cal P w K mg base CX0 3 "is_state" ["web", "value"] (spIsState Ps)) : FnOk P w K mg base CX0 4 f fd ["web", "state"] (spCheckState Ps) := by
  refine F.ok sc_check_state (fun vs H Q E h => ?_) (fun cdv A outer s0 H vs Q E hr h => ?_)
  · obtain ⟨v, z, W, st, rfl, _⟩ := h
    rfl
  · obtain ⟨v, z, W, st, rfl, hW, ok, hs, so, hTb, k⟩ := h
    refine ⟨_, (pss_one (ps_if (pt_not (pt_val (pe_c0 c_is_state (hr.mono (by decide)) (by rfl) (pa_cons (pv 0) (pa_cons (pv 1) pa_nil)))))
        (pss_one ps_never) pss_nil)), ?_⟩
    exact ⟨_, rfl, _, rfl, _, _, W, st, rfl, hW, ok, hs, so, hTb, fun H' e => ⟨_, rfl, iteF (k H' e)⟩⟩
theorem ok_wrong_part {f : Addr} {fd : FuncData} (F : Fun K "wrong_part" "wrong_part" s_wrong_part f fd) (B : Blt mg)
    (c_are_tops : Cal P w K mg base CX0 3 "are_tops" ["value"] (spAreTops Ps)) (c_are_looks : Cal P w K mg base CX0 4 "are_looks" ["value", "many"] (spAreLooks Ps)) : FnOk P w K mg base CX0 5 f fd ["web"] (spWrongPart Ps) := by
  refine F.ok sc_wrong_part (fun vs H Q E h => ?_) (fun cdv A outer s0 H vs Q E hr h => ?_)
  · obtain ⟨v, W, rfl, _⟩ := h
    rfl
  · obtain ⟨v, W, rfl, hW, ok, hTb, k⟩ := h
    obtain ⟨a, t, l, rfl, ha, ⟨b, rfl, hb⟩, hl⟩ := id hW
    refine ⟨_, (pss_cons (ps_if (PW.pt (pw_or (pt_not (pt_val (pe_callB call_isi (by rfl) B.isi boot_isinstance (pa_cons (pv 0) (pa_cons (pe_bltn (v := .ty "tuple") (by rfl) B.tuple boot_tyTuple rfl) pa_nil))))) (pw_or1 (pt_cmpR op_ne (pe_callB call_lenT (by rfl) B.len PySem.boot_len (pa_cons (pv 0) pa_nil)) pe_int (nomark _)))))
        (pss_one (ps_ret pe_str)) pss_nil)
      (pss_cons (ps_asg (pv 0) (pg_tupT (n := 2) rfl (pgs_cons (pg_name (i := 1) sc_wrong_part.nd rfl (by first | exact Or.inl rfl | exact Or.inr rfl)) (pgs_cons (pg_name (i := 2) sc_wrong_part.nd rfl (by first | exact Or.inl rfl | exact Or.inr rfl)) pgs_nil))))
      (pss_cons (ps_if (pt_not (pt_val (pe_c0 c_are_tops (hr.mono (by decide)) (by rfl) (pa_cons (pv 1) pa_nil))))
        (pss_one (ps_ret pe_str)) pss_nil)
      (pss_cons (ps_if (pt_not (pt_val (pe_c0 c_are_looks (hr.mono (by decide)) (by rfl) (pa_cons (pv 2) (pa_cons (pe_callB call_lenT (by rfl) B.len PySem.boot_len (pa_cons (pv 1) pa_nil)) pa_nil)))))
        (pss_one (ps_ret pe_str)) pss_nil)
      (pss_one (ps_ret pe_non)))))), ?_⟩
    refine ⟨_, rfl, _, _, _, _, true, rfl, .ty "tuple", isi_tup ha, kit_ty (by decide +kernel), _, rfl, iteF ?_⟩
    refine ⟨_, rfl, _, _, rfl, .inr ha, rfl, _, rfl, iteF ?_⟩
    refine ⟨_, rfl, a, _, rfl, ha, rfl, _, _, rfl, _, _, rfl, rfl, ?_⟩
    refine ⟨_, rfl, _, W.tops, rfl, ⟨b, rfl, hb⟩, ⟨ok.some_, ok.few⟩, ok.tops, hTb, fun H1 e1 => ⟨_, rfl, iteF ?_⟩⟩
    refine ⟨_, rfl, _, rfl, _, _, rfl, .inr (e1.tup hb), _, W, ?_, hl.ext e1, ok, hTb.ext e1, fun H2 e2 => ⟨_, rfl, iteF (k H2 (e1.trans e2))⟩⟩
    rw [iv_len]
    rfl
theorem ok_check_web {f : Addr} {fd : FuncData} (F : Fun K "check_web" "check_web" s_check_web f fd)
    (c_wrong_part : Cal P w K mg base CX0 5 "wrong_part" ["web"] (spWrongPart Ps)) : FnOk P w K mg base CX0 6 f fd ["web"] (spCheckWeb Ps) := by
  refine F.ok sc_check_web (fun vs H Q E h => ?_) (fun cdv A outer s0 H vs Q E hr h => ?_)
  · obtain ⟨v, W, rfl, _⟩ := h
    rfl
  · obtain ⟨v, W, rfl, hW, ok, hTb, k⟩ := h
    refine ⟨_, (pss_cons (ps_set (i := 1) sc_check_web.nd rfl (by first | exact Or.inl rfl | exact Or.inr rfl) (pe_c0 c_wrong_part (hr.mono (by decide)) (by rfl) (pa_cons (pv 0) pa_nil)))
      (pss_one (ps_if (pt_cmpR op_notN (pv 1) pe_non (nomark _))
        (pss_one ps_never) pss_nil))), ?_⟩
    exact ⟨_, rfl, _, W, rfl, hW, ok, hTb, fun H' e => ⟨_, rfl, rfl, _, rfl, iteF (k H' e)⟩⟩
theorem ok_check_folk {f : Addr} {fd : FuncData} (F : Fun K "check_folk" "check_folk" s_check_folk f fd) (B : Blt mg)
    (c_is_whole : Cal P w K mg base CX0 1 "is_whole" ["value", "least", "most"] spIsWhole) : FnOk P w K mg base CX0 2 f fd ["web", "folk"] spCheckFolk := by
  refine F.ok sc_check_folk (fun vs H Q E h => ?_) (fun cdv A outer s0 H vs Q E hr h => ?_)
  · obtain ⟨v, W, n, rfl, _⟩ := h
    rfl
  · obtain ⟨v, W, n, rfl, hW, hn, k⟩ := h
    obtain ⟨a, t, l, rfl, ha, ⟨b, rfl, hb⟩, hl⟩ := id hW
    refine ⟨_, (pss_cons (ps_asg (pv 0) (pg_tupT (n := 2) rfl (pgs_cons (pg_name (i := 2) sc_check_folk.nd rfl (by first | exact Or.inl rfl | exact Or.inr rfl)) (pgs_cons (pg_name (i := 3) sc_check_folk.nd rfl (by first | exact Or.inl rfl | exact Or.inr rfl)) pgs_nil))))
      (pss_one (ps_if (pt_not (pt_val (pe_c0 c_is_whole (hr.mono (by decide)) (by rfl) (pa_cons (pv 1) (pa_cons pe_int (pa_cons (pe_op op_sub (pe_callB call_lenT (by rfl) B.len PySem.boot_len (pa_cons (pv 2) pa_nil)) pe_int) pa_nil))))))
        (pss_one ps_never) pss_nil))), ?_⟩
    refine ⟨_, rfl, a, _, rfl, ha, rfl, _, _, rfl, _, _, rfl, rfl, ?_⟩
    refine ⟨_, rfl, _, rfl, _, _, rfl, .inr hb, _, _, rfl, rfl, n, 0, _, rfl, _, rfl, ?_⟩
    rw [whole_in hn.1 (by rw [iv_len]; omega)]
    exact iteF k
end
end Lk

/-! ## D12 -/
set_option Elab.async false
set_option linter.all false
set_option maxRecDepth 100000
set_option maxHeartbeats 2000000
namespace Lk
open PySem PySem.Spec PyProof.Rows L2 Gx
open GxR (TabG Tabbed TabB)
variable [Own]
/-- the first of the folk whose thing is no table of theirs -/
def firstBad (W : Web) (ru : List (List Int)) : Option Nat := (List.range W.tops.length).find? fun f : Nat => !isTable W (f : Int) (ru.getD f [])
/-- what may be rules: as many tuples of ints as there are folk -/
structure Ru0 (W : Web) (ru : List (List Int)) : Prop where
  len : ru.length = W.tops.length
  few : ∀ t ∈ ru, t.length ≤ 1000000
/-- refused, or passed -/
def spCheckRules (Ps : List Addr) (C : Addr) : Sp := fun vs H Q E => ∃ (v r : V) (W : Web) (ru : List (List Int)), vs = [v, r] ∧ WebAt H v W ∧ W.Ok ∧ TT2 H r ru ∧ Ru0 W ru ∧ Tabs Ps H ∧
  (firstBad W ru = none → ∀ H', Ext H H' → Q .non H') ∧ (∀ f, firstBad W ru = some f → ∀ H' d, Ext H H' → H d = none → H' d = some (.xd [("folk", .int (f : Nat))]) → E (.ref C) (some d) H')
theorem firstBad_none {W : Web} {ru : List (List Int)} (h : firstBad W ru = none) : ∀ f : Int, 0 ≤ f → f < W.tops.length → isTable W f (ru.getD f.toNat []) = true := by
  intro f h0 h1
  have := List.find?_eq_none.mp h f.toNat (List.mem_range.mpr (by omega))
  have e : ((f.toNat : Nat) : Int) = f := by omega
  rw [e] at this
  simpa using this
theorem rules_ok {W : Web} {ru : List (List Int)} (r0 : Ru0 W ru) (h : firstBad W ru = none) : RuOk W ru := by
  refine ⟨r0.len, fun f h0 h1 => ?_⟩
  have := firstBad_none h f h0 h1
  unfold isTable at this
  rw [Bool.and_eq_true, Bool.and_eq_true] at this
  exact of_decide_eq_true this.1.1
abbrev s_check_standing : Stmt := top 30
theorem sc_check_standing : FnScope ["web", "rules", "state"] ["web", "rules", "state"] (defScope s_check_standing) := ⟨rfl, rfl, rfl, by decide +kernel, rfl, by decide +kernel, by decide +kernel⟩
def spCheckStanding (Ps : List Addr) : Sp := fun vs H Q _ => ∃ (v r z : V) (W : Web) (ru : List (List Int)) (st : List Int), vs = [v, r, z] ∧ WebAt H v W ∧ W.Ok ∧ TT2 H r ru ∧ Ru0 W ru ∧ firstBad W ru = none ∧ TI H z st ∧ StOk W st ∧ Tabs Ps H ∧ ∀ H', Ext H H' → Q .non H'
abbrev s_told : Stmt := top 35
theorem sc_told : FnScope ["web", "rules", "state", "folk"] ["web", "rules", "state", "folk"] (defScope s_told) := ⟨rfl, rfl, rfl, by decide +kernel, rfl, by decide +kernel, by decide +kernel⟩
def spTold (Ps : List Addr) : Sp := fun vs H Q _ => ∃ (v r z : V) (W : Web) (ru : List (List Int)) (st : List Int) (f : Int), vs = [v, r, z, .int f] ∧ WebAt H v W ∧ W.Ok ∧ TT2 H r ru ∧ Ru0 W ru ∧ firstBad W ru = none ∧ TI H z st ∧ StOk W st ∧ (0 ≤ f ∧ f < W.tops.length) ∧ Tabs Ps H ∧ ∀ H', Ext H H' → Q (.int (moodTold W ru st f)) H'
abbrev s_is_settled : Stmt := top 36
theorem sc_is_settled : FnScope ["web", "rules", "state"] ["web", "rules", "state"] (defScope s_is_settled) := ⟨rfl, rfl, rfl, by decide +kernel, rfl, by decide +kernel, by decide +kernel⟩
def spIsSettled (Ps : List Addr) : Sp := fun vs H Q _ => ∃ (v r z : V) (W : Web) (ru : List (List Int)) (st : List Int), vs = [v, r, z] ∧ WebAt H v W ∧ W.Ok ∧ TT2 H r ru ∧ Ru0 W ru ∧ firstBad W ru = none ∧ TI H z st ∧ StOk W st ∧ Tabs Ps H ∧ ∀ H', Ext H H' → Q (.bl (decide (stateTold W ru st = st))) H'
abbrev s_settled : Stmt := top 37
theorem sc_settled : FnScope ["web", "rules"] ["web", "rules"] (defScope s_settled) := ⟨rfl, rfl, rfl, by decide +kernel, rfl, by decide +kernel, by decide +kernel⟩
def spSettled (Ps : List Addr) (C : Addr) : Sp := fun vs H Q E => ∃ (v r : V) (W : Web) (ru : List (List Int)), vs = [v, r] ∧ WebAt H v W ∧ W.Ok ∧ TT2 H r ru ∧ Ru0 W ru ∧ Tabs Ps H ∧
  (firstBad W ru = none → ∀ H' u, Ext H H' → TT2 H' (.ref u) (settledStates W ru) → Q (.ref u) H') ∧ (∀ f, firstBad W ru = some f → ∀ H' d, Ext H H' → H d = none → H' d = some (.xd [("folk", .int (f : Nat))]) → E (.ref C) (some d) H')
/-- the states at the ticks -/
def ticks (W : Web) (ru : List (List Int)) (st : List Int) : Nat → List Int
  | 0 => st
  | n + 1 => stateTold W ru (ticks W ru st n)
abbrev s_run : Stmt := top 38
theorem sc_run : FnScope ["web", "rules", "state", "ticks", "states", "_"] ["web", "rules", "state", "ticks"] (defScope s_run) := ⟨rfl, rfl, rfl, by decide +kernel, rfl, by decide +kernel, by decide +kernel⟩
def spRun (Ps : List Addr) : Sp := fun vs H Q _ => ∃ (v r z : V) (W : Web) (ru : List (List Int)) (st : List Int) (n : Nat), vs = [v, r, z, .int n] ∧ n ≤ 200 ∧ WebAt H v W ∧ W.Ok ∧ TT2 H r ru ∧ Ru0 W ru ∧ firstBad W ru = none ∧ TI H z st ∧ StOk W st ∧ Tabs Ps H ∧ ∀ H' u, Ext H H' → TT2 H' (.ref u) ((List.range (n + 1)).map (ticks W ru st)) → Q (.ref u) H'
theorem told_len (W : Web) (ru : List (List Int)) (st : List Int) : (stateTold W ru st).length = st.length := by unfold stateTold; rw [List.length_map, List.length_range]
theorem told_at {W : Web} {ru : List (List Int)} {st : List Int} {f : Int} (h0 : 0 ≤ f) (h1 : f < st.length) : stAt (stateTold W ru st) f = moodTold W ru st f := by
  unfold stAt stateTold
  rw [List.getD_eq_getElem?_getD, List.getElem?_map, List.getElem?_range (by omega)]
  show moodTold W ru st ((f.toNat : Nat) : Int) = _
  rw [show ((f.toNat : Nat) : Int) = f by omega]
theorem table_bd {W : Web} {f : Int} {tb : List Int} (h : isTable W f tb = true) : ∀ m ∈ tb, 0 ≤ m ∧ m ≤ topAt W f := by
  intro m hm
  unfold isTable at h
  rw [Bool.and_eq_true, Bool.and_eq_true] at h
  have := List.all_eq_true.mp h.1.2 m hm
  unfold isWhole at this
  rw [Bool.and_eq_true] at this
  exact ⟨of_decide_eq_true this.1, of_decide_eq_true this.2⟩
theorem told_ok {W : Web} (ok : W.Ok) {ru : List (List Int)} (r0 : Ru0 W ru) (hb : firstBad W ru = none) {st : List Int} (so : StOk W st) : StOk W (stateTold W ru st) := by
  refine ⟨by rw [told_len, so.len], fun f h0 h1 => ?_⟩
  rw [told_at h0 (by rw [so.len]; exact h1)]
  have ht := firstBad_none hb f h0 h1
  refine table_bd ht _ ?_
  unfold moodTold
  have rok := rules_ok r0 hb
  have hp := place_bd ok so (looksOf W f) 1 0 (fun l hl => (looksOf_ok ok l hl).1) (by decide) (by decide)
  have hl := rok.rows f h0 h1
  have hlt : (placeOf W st f).toNat < (ru.getD f.toNat []).length := by
    have h2 : placeOf W st f < manyRows W f := hp.2
    have h3 : 0 ≤ placeOf W st f := hp.1
    omega
  rw [List.getD_eq_getElem?_getD (l := ru.getD f.toNat []), List.getElem?_eq_getElem hlt]
  exact List.getElem_mem hlt
theorem ticks_ok {W : Web} (ok : W.Ok) {ru : List (List Int)} (r0 : Ru0 W ru) (hb : firstBad W ru = none) {st : List Int} (so : StOk W st) : ∀ n, StOk W (ticks W ru st n)
  | 0 => so
  | n + 1 => told_ok ok r0 hb (ticks_ok ok r0 hb so n)
section
variable {P : Program} {w : World} {K : PySem.W.Frag} {mg : Str → Option Value} {base : Heap} {Ps : List Addr} {C : Addr}
theorem ok_check_standing {f : Addr} {fd : FuncData} (F : Fun K "check_standing" "check_standing" s_check_standing f fd)
    (c_check_web : Cal P w K mg base CX0 6 "check_web" ["web"] (spCheckWeb Ps)) (c_check_rules : Cal P w K mg base (L2.CX P w) 6 "check_rules" ["web", "rules"] (spCheckRules Ps C))
    (c_check_state : Cal P w K mg base CX0 4 "check_state" ["web", "state"] (spCheckState Ps)) : FnOk P w K mg base CX0 7 f fd ["web", "rules", "state"] (spCheckStanding Ps) := by
  refine F.ok sc_check_standing (fun vs H Q E h => ?_) (fun cdv A outer s0 H vs Q E hr h => ?_)
  · obtain ⟨v, r, z, W, ru, st, rfl, _⟩ := h
    rfl
  · obtain ⟨v, r, z, W, ru, st, rfl, hW, ok, hru, r0, hb, hs, so, hTb, k⟩ := h
    refine ⟨_, (pss_cons (ps_expr (pe_c0 c_check_web (hr.mono (by decide)) (by rfl) (pa_cons (pv 0) pa_nil)))
      (pss_cons (ps_expr (pe_cal c_check_rules (hr.mono (by decide)) (by rfl) passL (pa_cons (pv 0) (pa_cons (pv 1) pa_nil))))
      (pss_one (ps_expr (pe_c0 c_check_state (hr.mono (by decide)) (by rfl) (pa_cons (pv 0) (pa_cons (pv 2) pa_nil))))))), ?_⟩
    refine ⟨_, rfl, _, W, rfl, hW, ok, hTb, fun H1 e1 => ?_⟩
    refine ⟨_, rfl, _, rfl, _, _, W, ru, rfl, hW.ext e1, ok, hru.ext e1, r0, hTb.ext e1, fun _ H2 e2 => ?_, fun f hf => by rw [hb] at hf; cases hf⟩
    have e3 := e1.trans e2
    exact ⟨_, rfl, _, rfl, _, _, W, st, rfl, hW.ext e3, ok, hs.ext e3, so, hTb.ext e3, fun H4 e4 => k H4 (e3.trans e4)⟩
theorem ok_told {f : Addr} {fd : FuncData} (F : Fun K "told" "told" s_told f fd)
    (c_check_standing : Cal P w K mg base CX0 7 "check_standing" ["web", "rules", "state"] (spCheckStanding Ps)) (c_check_folk : Cal P w K mg base CX0 2 "check_folk" ["web", "folk"] spCheckFolk)
    (c_mood_told : Cal P w K mg base CX0 3 "mood_told" ["web", "rules", "state", "folk"] spMoodTold) : FnOk P w K mg base CX0 8 f fd ["web", "rules", "state", "folk"] (spTold Ps) := by
  refine F.ok sc_told (fun vs H Q E h => ?_) (fun cdv A outer s0 H vs Q E hr h => ?_)
  · obtain ⟨v, r, z, W, ru, st, n, rfl, _⟩ := h
    rfl
  · obtain ⟨v, r, z, W, ru, st, n, rfl, hW, ok, hru, r0, hb, hs, so, hn, hTb, k⟩ := h
    refine ⟨_, (pss_cons (ps_expr (pe_c0 c_check_standing (hr.mono (by decide)) (by rfl) (pa_cons (pv 0) (pa_cons (pv 1) (pa_cons (pv 2) pa_nil)))))
      (pss_cons (ps_expr (pe_c0 c_check_folk (hr.mono (by decide)) (by rfl) (pa_cons (pv 0) (pa_cons (pv 3) pa_nil))))
      (pss_one (ps_ret (pe_c0 c_mood_told (hr.mono (by decide)) (by rfl) (pa_cons (pv 0) (pa_cons (pv 1) (pa_cons (pv 2) (pa_cons (pv 3) pa_nil))))))))), ?_⟩
    refine ⟨_, rfl, _, rfl, _, rfl, _, _, _, W, ru, st, rfl, hW, ok, hru, r0, hb, hs, so, hTb, fun H1 e1 => ?_⟩
    refine ⟨_, rfl, _, rfl, _, W, n, rfl, hW.ext e1, hn, ?_⟩
    exact ⟨_, rfl, _, rfl, _, rfl, _, rfl, _, _, _, W, ru, st, n, rfl, hW.ext e1, ok, hru.ext e1, rules_ok r0 hb, hs.ext e1, so, hn, fun H2 e2 => k H2 (e1.trans e2)⟩
theorem ok_is_settled {f : Addr} {fd : FuncData} (F : Fun K "is_settled" "is_settled" s_is_settled f fd)
    (c_check_standing : Cal P w K mg base CX0 7 "check_standing" ["web", "rules", "state"] (spCheckStanding Ps)) (c_state_told : Cal P w K mg base CX0 4 "state_told" ["web", "rules", "state"] spStateTold) : FnOk P w K mg base CX0 8 f fd ["web", "rules", "state"] (spIsSettled Ps) := by
  refine F.ok sc_is_settled (fun vs H Q E h => ?_) (fun cdv A outer s0 H vs Q E hr h => ?_)
  · obtain ⟨v, r, z, W, ru, st, rfl, _⟩ := h
    rfl
  · obtain ⟨v, r, z, W, ru, st, rfl, hW, ok, hru, r0, hb, hs, so, hTb, k⟩ := h
    refine ⟨_, (pss_cons (ps_expr (pe_c0 c_check_standing (hr.mono (by decide)) (by rfl) (pa_cons (pv 0) (pa_cons (pv 1) (pa_cons (pv 2) pa_nil)))))
      (pss_one (ps_ret (pe_cmpR (op_eqTI hr.units) (pe_c0 c_state_told (hr.mono (by decide)) (by rfl) (pa_cons (pv 0) (pa_cons (pv 1) (pa_cons (pv 2) pa_nil)))) (pv 2) (nomark _))))), ?_⟩
    refine ⟨_, rfl, _, rfl, _, rfl, _, _, _, W, ru, st, rfl, hW, ok, hru, r0, hb, hs, so, hTb, fun H1 e1 => ?_⟩
    refine ⟨_, rfl, _, rfl, _, rfl, _, _, _, W, ru, st, rfl, hW.ext e1, ok, hru.ext e1, rules_ok r0 hb, hs.ext e1, so, fun H2 u e2 hu0 hu => ?_⟩
    exact ⟨_, rfl, _, st, ⟨u, rfl, hu⟩, (hs.ext e1).ext e2, k H2 (e1.trans e2)⟩
theorem ok_settled {f : Addr} {fd : FuncData} (F : Fun K "settled" "settled" s_settled f fd)
    (c_check_web : Cal P w K mg base CX0 6 "check_web" ["web"] (spCheckWeb Ps)) (c_check_rules : Cal P w K mg base (L2.CX P w) 6 "check_rules" ["web", "rules"] (spCheckRules Ps C))
    (c_settled_states : Cal P w K mg base CX0 5 "settled_states" ["web", "rules"] spSettledStates) : FnOk P w K mg base (L2.CX P w) 7 f fd ["web", "rules"] (spSettled Ps C) := by
  refine F.okX sc_settled (fun vs H Q E h => ?_) (fun cdv A outer s0 H vs Q E hr h => ?_)
  · obtain ⟨v, r, W, ru, rfl, _⟩ := h
    rfl
  · obtain ⟨v, r, W, ru, rfl, hW, ok, hru, r0, hTb, kG, kB⟩ := h
    refine ⟨_, (pss_cons (ps_expr (pe_c0 c_check_web (hr.mono (by decide)) (by rfl) (pa_cons (pv 0) pa_nil)))
      (pss_cons (ps_expr (pe_cal c_check_rules (hr.mono (by decide)) (by rfl) (E := E) (passes_call (takes_of rfl rfl rfl rfl) fun _ _ _ _ h => h) (pa_cons (pv 0) (pa_cons (pv 1) pa_nil))))
      (pss_one (ps_ret (pe_c0 c_settled_states (hr.mono (by decide)) (by rfl) (pa_cons (pv 0) (pa_cons (pv 1) pa_nil))))))), ?_⟩
    refine ⟨_, rfl, _, W, rfl, hW, ok, hTb, fun H1 e1 => ?_⟩
    refine ⟨_, rfl, _, rfl, _, _, W, ru, rfl, hW.ext e1, ok, hru.ext e1, r0, hTb.ext e1, fun hb H2 e2 => ?_, fun f hf H2 d e2 hd hx => kB f hf H2 d (e1.trans e2) (e1.free hd) hx⟩
    have e3 := e1.trans e2
    exact ⟨_, rfl, _, rfl, _, _, W, ru, rfl, hW.ext e3, ok, hru.ext e3, rules_ok r0 hb, fun H4 u e4 hu => kG hb H4 u (e3.trans e4) hu⟩
end
end Lk

/-! ## M1 -/
set_option Elab.async false
set_option linter.all false
set_option maxRecDepth 100000
set_option maxHeartbeats 2000000
/-! Tables: neighbours and all pairs of rows. -/
namespace Lk
open PySem PySem.Spec PyProof.Rows L2 Gx
variable [Own]
/-- an axis: how many moods, the sign -/
abbrev Ax := Nat × Int
def pr : List Ax → Nat
  | [] => 1
  | a :: r => a.1 * pr r
def rws : List Ax → List (List Int)
  | [] => [[]]
  | a :: r => (List.range a.1).flatMap fun x : Nat => (rws r).map fun b => (x : Int) :: b
theorem rws_cons (a : Ax) (r : List Ax) : rws (a :: r) = (List.range a.1).flatMap fun x : Nat => (rws r).map fun b => (x : Int) :: b := rfl
def AxOk (as : List Ax) : Prop := ∀ a ∈ as, 0 < a.1 ∧ (a.2 = 1 ∨ a.2 = -1)
theorem pr_pos : ∀ {as : List Ax}, AxOk as → 0 < pr as
  | [], _ => Nat.one_pos
  | a :: r, h => Nat.mul_pos (h a (List.mem_cons_self ..)).1 (pr_pos fun x hx => h x (List.mem_cons_of_mem _ hx))
theorem rws_len : ∀ as : List Ax, (rws as).length = pr as
  | [] => rfl
  | a :: r => by
    rw [rws_cons, pr, List.length_flatMap]
    have : ((List.range a.1).map fun x => ((rws r).map fun b => ((x : Nat) : Int) :: b).length) = (List.range a.1).map fun _ => pr r := List.map_congr_left fun x _ => by rw [List.length_map, rws_len r]
    rw [this, List.map_const', List.length_range, List.sum_replicate_nat]
theorem flat_at {α : Type} (g : Nat → List α) (m : Nat) (hg : ∀ x, (g x).length = m) : ∀ (k n p : Nat), 0 < m → p < n * m → ((List.range' k n).flatMap g)[p]? = (g (k + p / m))[p % m]?
  | k, 0, p, _, h => by simp at h
  | k, n + 1, p, h0, h => by
    rw [List.range'_succ, List.flatMap_cons]
    by_cases hp : p < m
    · rw [List.getElem?_append_left (by rw [hg]; exact hp), Nat.div_eq_of_lt hp, Nat.mod_eq_of_lt hp, Nat.add_zero]
    · have hp : m ≤ p := by omega
      rw [List.getElem?_append_right (by rw [hg]; exact hp), hg, flat_at g m hg (k + 1) n (p - m) h0 (by rw [Nat.add_mul, Nat.one_mul] at h; omega)]
      rw [Nat.mod_eq_sub_mod hp, Nat.div_eq_sub_div h0 hp]
      congr 2
      omega
theorem rws_get {a : Ax} {r : List Ax} (hr : 0 < pr r) {p : Nat} (h : p < a.1 * pr r) : (rws (a :: r))[p]? = ((rws r)[p % pr r]?).map fun b => ((p / pr r : Nat) : Int) :: b := by
  rw [rws_cons, List.range_eq_range', flat_at _ (pr r) (fun x => by rw [List.length_map, rws_len]) 0 a.1 p hr h, List.getElem?_map, Nat.zero_add]
theorem rws_at {a : Ax} {r : List Ax} {x b : Nat} {row : List Int} (hx : x < a.1) (hb : (rws r)[b]? = some row) : (rws (a :: r))[x * pr r + b]? = some ((x : Int) :: row) := by
  have hb' : b < pr r := by rw [← rws_len]; exact (List.getElem?_eq_some_iff.mp hb).1
  have hr : 0 < pr r := by omega
  have hlt : x * pr r + b < a.1 * pr r := by
    have : (x + 1) * pr r ≤ a.1 * pr r := Nat.mul_le_mul_right _ hx
    rw [Nat.add_mul, Nat.one_mul] at this
    omega
  rw [rws_get hr hlt]
  have e1 : (x * pr r + b) % pr r = b := by rw [Nat.add_comm, Nat.add_mul_mod_self_right, Nat.mod_eq_of_lt hb']
  have e2 : (x * pr r + b) / pr r = x := by rw [Nat.add_comm, Nat.add_mul_div_right _ _ hr, Nat.div_eq_of_lt hb', Nat.zero_add]
  rw [e1, e2, hb]
  rfl
theorem rws_cut {a : Ax} {r : List Ax} {p : Nat} {row : List Int} (h : (rws (a :: r))[p]? = some row) : ∃ (x b : Nat) (row' : List Int), x < a.1 ∧ p = x * pr r + b ∧ row = (x : Int) :: row' ∧ (rws r)[b]? = some row' := by
  have hlt : p < a.1 * pr r := by
    have := (List.getElem?_eq_some_iff.mp h).1
    rw [rws_len] at this
    exact this
  have hr : 0 < pr r := by
    rcases Nat.eq_zero_or_pos (pr r) with z | z
    · rw [z, Nat.mul_zero] at hlt; omega
    · exact z
  rw [rws_get hr hlt] at h
  cases e : (rws r)[p % pr r]? with
  | none => rw [e] at h; cases h
  | some row' =>
    rw [e] at h
    refine ⟨p / pr r, p % pr r, row', Nat.div_lt_of_lt_mul (by rw [Nat.mul_comm]; exact hlt), ?_, (Option.some.inj h).symm, e⟩
    rw [Nat.mul_comm]
    exact (Nat.div_add_mod p (pr r)).symm
/-- a row stands at one place alone -/
theorem rws_inj : ∀ {as : List Ax} {p q : Nat} {row : List Int}, (rws as)[p]? = some row → (rws as)[q]? = some row → p = q
  | [], p, q, row, h1, h2 => by
    have h1 := (List.getElem?_eq_some_iff.mp h1).1
    have h2 := (List.getElem?_eq_some_iff.mp h2).1
    simp only [rws, List.length_singleton] at h1 h2
    omega
  | a :: r, p, q, row, h1, h2 => by
    obtain ⟨x, b, r1, _, rfl, rfl, g1⟩ := rws_cut h1
    obtain ⟨y, c, r2, _, rfl, e, g2⟩ := rws_cut h2
    injection e with e1 e2
    have e1 : x = y := by omega
    subst e1 e2
    rw [rws_inj g1 g2]
theorem goes_refl : ∀ (ss : List Int) (xs : List Int), lawGoes ss xs xs = true
  | [], _ => by simp [lawGoes]
  | s :: ss, [] => by simp [lawGoes]
  | s :: ss, x :: xs => by simp [lawGoes, goes_refl ss xs]
theorem goes_trans : ∀ (ss xs ys zs : List Int), (∀ s ∈ ss, s = 1 ∨ s = -1) → ys.length = ss.length → lawGoes ss xs ys = true → lawGoes ss ys zs = true → lawGoes ss xs zs = true
  | [], xs, ys, zs, _, _, _, _ => by simp [lawGoes]
  | s :: ss, [], ys, zs, _, _, _, _ => by simp [lawGoes]
  | s :: ss, x :: xs, [], zs, _, h, _, _ => by simp at h
  | s :: ss, x :: xs, y :: ys, [], _, _, _, _ => by simp [lawGoes]
  | s :: ss, x :: xs, y :: ys, z :: zs, hs, hl, h1, h2 => by
    simp only [lawGoes, Bool.and_eq_true, Bool.not_eq_true', decide_eq_false_iff_not] at h1 h2 ⊢
    refine ⟨?_, goes_trans ss xs ys zs (fun s h => hs s (List.mem_cons_of_mem _ h)) (by simpa using hl) h1.2 h2.2⟩
    have g1 := h1.1
    have g2 := h2.1
    rcases hs s (List.mem_cons_self ..) with e | e <;> (subst e; omega)
/-- monotone between neighbours; between all -/
def Nb : List Ax → (Nat → Int) → Prop
  | [], _ => True
  | a :: r, T => (∀ x b, x + 1 < a.1 → b < pr r → 0 ≤ (T ((x + 1) * pr r + b) - T (x * pr r + b)) * a.2) ∧ ∀ x, x < a.1 → Nb r fun b => T (x * pr r + b)
def Al (as : List Ax) (T : Nat → Int) : Prop := ∀ p q xp xq, (rws as)[p]? = some xp → (rws as)[q]? = some xq → lawGoes (as.map (·.2)) xp xq = true → T p ≤ T q
theorem al_nb : ∀ (as : List Ax), AxOk as → ∀ T : Nat → Int, Al as T ↔ Nb as T
  | [], _, T => by
    refine ⟨fun _ => trivial, fun _ p q xp xq h1 h2 _ => ?_⟩
    have h1 := (List.getElem?_eq_some_iff.mp h1).1
    have h2 := (List.getElem?_eq_some_iff.mp h2).1
    simp only [rws, List.length_singleton] at h1 h2
    rw [show p = q by omega]
    exact Int.le_refl _
  | a :: r, h, T => by
    have ha := h a (List.mem_cons_self ..)
    have hr : AxOk r := fun x hx => h x (List.mem_cons_of_mem _ hx)
    have hp := pr_pos hr
    refine ⟨fun A => ⟨fun x b hx hb => ?_, fun x hx => ?_⟩, fun ⟨N1, N2⟩ p q xp xq h1 h2 g => ?_⟩
    · have hb2 : b < (rws r).length := by rw [rws_len]; exact hb
      have e := List.getElem?_eq_getElem hb2
      have e1 := rws_at (a := a) (r := r) (x := x) (by omega) e
      have e2 := rws_at (a := a) (r := r) (x := x + 1) (by omega) e
      rcases ha.2 with s | s
      · have := A _ _ _ _ e1 e2 (by
          rw [List.map_cons, s]
          simp only [lawGoes, goes_refl, Bool.and_true, Bool.not_eq_true', decide_eq_false_iff_not]
          omega)
        rw [s]
        omega
      · have := A _ _ _ _ e2 e1 (by
          rw [List.map_cons, s]
          simp only [lawGoes, goes_refl, Bool.and_true, Bool.not_eq_true', decide_eq_false_iff_not]
          omega)
        rw [s]
        omega
    · refine (al_nb r hr _).mp fun p q xp xq h1 h2 g => ?_
      refine A _ _ _ _ (rws_at hx h1) (rws_at hx h2) ?_
      rw [List.map_cons]
      simp only [lawGoes, g, Bool.and_true, Bool.not_eq_true', decide_eq_false_iff_not, Int.sub_self, Int.mul_zero]
      omega
    · obtain ⟨x, b, r1, hx, rfl, rfl, g1⟩ := rws_cut h1
      obtain ⟨y, c, r2, hy, rfl, rfl, g2⟩ := rws_cut h2
      rw [List.map_cons] at g
      simp only [lawGoes, Bool.and_eq_true, Bool.not_eq_true', decide_eq_false_iff_not] at g
      have s1 : T (x * pr r + b) ≤ T (x * pr r + c) := (al_nb r hr _).mpr (N2 x hx) b c r1 r2 g1 g2 g.2
      have hc : c < pr r := by rw [← rws_len]; exact (List.getElem?_eq_some_iff.mp g2).1
      refine Int.le_trans s1 ?_
      rcases ha.2 with s | s
      · have hxy : x ≤ y := by
          have := g.1
          rw [s] at this
          omega
        have : ∀ d, x + d < a.1 → T (x * pr r + c) ≤ T ((x + d) * pr r + c) := by
          intro d
          induction d with
          | zero => intro _; exact Int.le_refl _
          | succ d ih =>
            intro hd
            have := N1 (x + d) c (by omega) hc
            rw [s] at this
            have := ih (by omega)
            rw [show x + (d + 1) = x + d + 1 by omega]
            omega
        have := this (y - x) (by omega)
        rw [show x + (y - x) = y by omega] at this
        exact this
      · have hxy : y ≤ x := by
          have := g.1
          rw [s] at this
          omega
        have : ∀ d, y + d < a.1 → T ((y + d) * pr r + c) ≤ T (y * pr r + c) := by
          intro d
          induction d with
          | zero => intro _; exact Int.le_refl _
          | succ d ih =>
            intro hd
            have := N1 (y + d) c (by omega) hc
            rw [s] at this
            have := ih (by omega)
            rw [show y + (d + 1) = y + d + 1 by omega]
            omega
        have := this (x - y) (by omega)
        rw [show y + (x - y) = x by omega] at this
        exact this
def Cn (T : Nat → Int) (n s z : Nat) (sg : Int) : Prop := ∀ p, p < n → p / s % z < z - 1 → 0 ≤ (T (p + s) - T p) * sg
def Ga (T : Nat → Int) (n : Nat) : List Ax → Prop
  | [] => True
  | a :: r => Cn T n (pr r) a.1 a.2 ∧ Ga T n r
theorem ga_nb : ∀ (as : List Ax), AxOk as → ∀ (T : Nat → Int) (k : Nat), Ga T (k * pr as) as ↔ ∀ x, x < k → Nb as fun b => T (x * pr as + b)
  | [], _, T, k => ⟨fun _ _ _ => trivial, fun _ => trivial⟩
  | a :: r, h, T, k => by
    have ha := h a (List.mem_cons_self ..)
    have hr : AxOk r := fun x hx => h x (List.mem_cons_of_mem _ hx)
    have hp := pr_pos hr
    have en : k * pr (a :: r) = k * a.1 * pr r := by rw [pr, Nat.mul_assoc]
    have ee : ∀ x y b : Nat, x * pr (a :: r) + (y * pr r + b) = (x * a.1 + y) * pr r + b := fun x y b => by
      rw [pr, Nat.add_mul, ← Nat.mul_assoc, Nat.add_assoc]
    rw [Ga, en, ga_nb r hr T (k * a.1)]
    constructor
    · rintro ⟨C, N⟩ x hx
      refine ⟨fun y b hy hb => ?_, fun y hy => ?_⟩
      · show 0 ≤ (T (x * pr (a :: r) + ((y + 1) * pr r + b)) - T (x * pr (a :: r) + (y * pr r + b))) * a.2
        rw [ee, ee]
        have hlt : x * a.1 + y < k * a.1 := by
          have : (x + 1) * a.1 ≤ k * a.1 := Nat.mul_le_mul_right _ hx
          rw [Nat.add_mul, Nat.one_mul] at this
          omega
        have d1 : ((x * a.1 + y) * pr r + b) / pr r = x * a.1 + y := by rw [Nat.add_comm, Nat.add_mul_div_right _ _ hp, Nat.div_eq_of_lt hb, Nat.zero_add]
        have d2 : (x * a.1 + y) % a.1 = y := by rw [Nat.add_comm, Nat.add_mul_mod_self_right, Nat.mod_eq_of_lt (by omega)]
        have := C ((x * a.1 + y) * pr r + b) (by
          have : (x * a.1 + y + 1) * pr r ≤ k * a.1 * pr r := Nat.mul_le_mul_right _ hlt
          rw [Nat.add_mul, Nat.one_mul] at this
          omega) (by rw [d1, d2]; omega)
        rw [show (x * a.1 + (y + 1)) * pr r + b = (x * a.1 + y) * pr r + b + pr r by rw [← Nat.add_assoc, Nat.add_mul (x * a.1 + y), Nat.one_mul]; omega]
        exact this
      · have := N (x * a.1 + y) (by
          have : (x + 1) * a.1 ≤ k * a.1 := Nat.mul_le_mul_right _ hx
          rw [Nat.add_mul, Nat.one_mul] at this
          omega)
        have e : (fun b => T (x * pr (a :: r) + (y * pr r + b))) = fun b => T ((x * a.1 + y) * pr r + b) := funext fun b => by rw [ee]
        show Nb r fun b => T (x * pr (a :: r) + (y * pr r + b))
        rw [e]
        exact this
    · intro N
      refine ⟨fun p hpn hd => ?_, fun x' hx' => ?_⟩
      · have e1 : p = p / pr r * pr r + p % pr r := by rw [Nat.mul_comm]; exact (Nat.div_add_mod p (pr r)).symm
        have e2 : p / pr r = p / pr r / a.1 * a.1 + p / pr r % a.1 := by rw [Nat.mul_comm]; exact (Nat.div_add_mod _ a.1).symm
        have c1 : p % pr r < pr r := Nat.mod_lt _ hp
        have c2 : p / pr r < k * a.1 := Nat.div_lt_of_lt_mul (by rw [Nat.mul_comm]; exact hpn)
        have c3 : p / pr r / a.1 < k := Nat.div_lt_of_lt_mul (by rw [Nat.mul_comm]; exact c2)
        obtain ⟨N1, _⟩ := N _ c3
        have := N1 (p / pr r % a.1) (p % pr r) (by omega) c1
        have this : 0 ≤ (T (p / pr r / a.1 * pr (a :: r) + ((p / pr r % a.1 + 1) * pr r + p % pr r)) - T (p / pr r / a.1 * pr (a :: r) + (p / pr r % a.1 * pr r + p % pr r))) * a.2 := this
        rw [ee, ee] at this
        rw [show p / pr r / a.1 * a.1 + (p / pr r % a.1 + 1) = p / pr r + 1 by omega, ← e2, ← e1] at this
        rw [show (p / pr r + 1) * pr r + p % pr r = p + pr r by rw [Nat.add_mul, Nat.one_mul]; omega] at this
        exact this
      · have e2 : x' = x' / a.1 * a.1 + x' % a.1 := by rw [Nat.mul_comm]; exact (Nat.div_add_mod _ a.1).symm
        have c3 : x' / a.1 < k := Nat.div_lt_of_lt_mul (by rw [Nat.mul_comm]; exact hx')
        obtain ⟨_, N2⟩ := N _ c3
        have := N2 (x' % a.1) (Nat.mod_lt _ ha.1)
        have this : Nb r fun b => T (x' / a.1 * pr (a :: r) + (x' % a.1 * pr r + b)) := this
        have e : (fun b => T (x' / a.1 * pr (a :: r) + (x' % a.1 * pr r + b))) = fun b => T (x' * pr r + b) := funext fun b => by rw [ee, ← e2]
        rw [e] at this
        exact this
theorem ga_al {as : List Ax} (h : AxOk as) (T : Nat → Int) : Ga T (pr as) as ↔ Al as T := by
  have := ga_nb as h T 1
  rw [Nat.one_mul] at this
  rw [this, al_nb as h T]
  constructor
  · intro N
    have := N 0 Nat.one_pos
    simpa using this
  · intro N x hx
    have : x = 0 := by omega
    subst this
    simpa using N
theorem goes_cn {tb : List Int} {s z : Nat} {sg : Int} : goesAlong tb s z sg = true ↔ Cn (fun p => tb.getD p 0) tb.length s z sg := by
  unfold goesAlong placesOf Cn
  rw [List.all_eq_true]
  constructor
  · intro h p hp hd
    exact of_decide_eq_true (h p (List.mem_filter.mpr ⟨List.mem_range.mpr hp, decide_eq_true hd⟩))
  · intro h p hp
    obtain ⟨h1, h2⟩ := List.mem_filter.mp hp
    exact decide_eq_true (h p (List.mem_range.mp h1) (of_decide_eq_true h2))
/-- the axes of looks -/
def axes (W : Web) (ls : List (Int × Int)) : List Ax := ls.map fun l => ((topAt W l.1 + 1).toNat, l.2)
theorem pr_prod (W : Web) : ∀ ls : List (Int × Int), pr (axes W ls) = prodOf W ls
  | [] => rfl
  | l :: ls => by
    rw [prod_cons, ← pr_prod W ls]
    rfl
theorem loop_ga {W : Web} {tb : List Int} : ∀ (rs done : List (Int × Int)), (goLoop W tb rs (prodOf W done) = true ∧ Ga (fun p => tb.getD p 0) tb.length (axes W done)) ↔ Ga (fun p => tb.getD p 0) tb.length (axes W (rs.reverse ++ done))
  | [], done => by simp [goLoop]
  | l :: rs, done => by
    rw [List.reverse_cons, List.append_assoc]
    show _ ↔ Ga _ _ (axes W (rs.reverse ++ (l :: done)))
    rw [← loop_ga rs (l :: done), prod_cons, goLoop, Bool.and_eq_true, goes_cn]
    show _ ↔ _ ∧ Ga _ _ (((topAt W l.1 + 1).toNat, l.2) :: axes W done)
    rw [Ga, pr_prod, Nat.mul_comm (topAt W l.1 + 1).toNat]
    constructor
    · rintro ⟨⟨h1, h2⟩, h3⟩
      exact ⟨h2, h1, h3⟩
    · rintro ⟨h2, h1, h3⟩
      exact ⟨⟨h1, h2⟩, h3⟩
theorem axes_ok {W : Web} (ok : W.Ok) (f : Int) : AxOk (axes W (looksOf W f)) := by
  intro a ha
  obtain ⟨l, hl, rfl⟩ := List.mem_map.mp ha
  have h := looksOf_ok ok l hl
  have := topAt_ok ok h.1.1 h.1.2
  exact ⟨by show 0 < (topAt W l.1 + 1).toNat; omega, h.2⟩
/-- what is a table -/
theorem isTable_iff {W : Web} (ok : W.Ok) {f : Int} {tb : List Int} : isTable W f tb = true ↔ tb.length = pr (axes W (looksOf W f)) ∧ (∀ m ∈ tb, 0 ≤ m ∧ m ≤ topAt W f) ∧ Al (axes W (looksOf W f)) fun p => tb.getD p 0 := by
  unfold isTable
  rw [Bool.and_eq_true, Bool.and_eq_true, many_eq ok, decide_eq_true_iff, List.all_eq_true, ← pr_prod]
  have hb : (∀ x ∈ tb, isWhole x 0 (topAt W f) = true) ↔ ∀ m ∈ tb, 0 ≤ m ∧ m ≤ topAt W f := by
    unfold isWhole
    simp only [Bool.and_eq_true, decide_eq_true_iff]
  rw [hb]
  have hl := loop_ga (W := W) (tb := tb) (looksOf W f).reverse []
  rw [List.reverse_reverse, List.append_nil] at hl
  have hl2 : goLoop W tb (looksOf W f).reverse 1 = true ↔ Ga (fun p => tb.getD p 0) tb.length (axes W (looksOf W f)) := by
    rw [← hl]
    exact ⟨fun h => ⟨h, trivial⟩, fun h => h.1⟩
  rw [hl2]
  constructor
  · rintro ⟨⟨h1, h2⟩, h3⟩
    have h1 : tb.length = pr (axes W (looksOf W f)) := by omega
    rw [h1, ga_al (axes_ok ok f)] at h3
    exact ⟨h1, h2, h3⟩
  · rintro ⟨h1, h2, h3⟩
    rw [h1, ga_al (axes_ok ok f)]
    exact ⟨⟨rfl, h2⟩, h3⟩
theorem step_rws (W : Web) : ∀ (ls : List (Int × Int)) (rows : List (List Int)), (ls.map fun l => topAt W l.1).foldl rowsStep rows = rows.flatMap fun q => (rws (axes W ls)).map fun b => q ++ b
  | [], rows => by simp [axes, rws]
  | l :: ls, rows => by
    rw [List.map_cons, List.foldl_cons, step_rws W ls]
    unfold rowsStep
    rw [List.flatMap_assoc]
    congr 1
    funext q
    show _ = List.map _ (rws (((topAt W l.1 + 1).toNat, l.2) :: axes W ls))
    rw [rws_cons]
    unfold moods
    rw [List.map_flatMap, List.flatMap_map, List.flatMap_map]
    congr 1
    funext x
    rw [List.map_map]
    congr 1
    funext b
    simp
theorem rowsAt_rws (W : Web) (f : Int) : rowsAt W f = rws (axes W (looksOf W f)) := by
  unfold rowsAt rowsOf
  rw [step_rws]
  simp
theorem place_step (W : Web) (st : List Int) : ∀ (ls : List (Int × Int)) (p : Int), (∀ l ∈ ls, 0 ≤ topAt W l.1) → ls.foldl (placeStep W st) p = p * (pr (axes W ls) : Nat) + ls.foldl (placeStep W st) 0
  | [], p, _ => by simp [axes, pr]
  | l :: ls, p, h => by
    have h1 := h l (List.mem_cons_self ..)
    have h2 : ∀ l ∈ ls, 0 ≤ topAt W l.1 := fun x hx => h x (List.mem_cons_of_mem _ hx)
    rw [List.foldl_cons, List.foldl_cons, place_step W st ls _ h2, place_step W st ls (placeStep W st 0 l) h2]
    show _ = p * ((((topAt W l.1 + 1).toNat * pr (axes W ls) : Nat)) : Int) + _
    rw [Int.natCast_mul, show (((topAt W l.1 + 1).toNat : Nat) : Int) = topAt W l.1 + 1 by omega]
    unfold placeStep
    rw [Int.zero_mul, Int.zero_add, Int.add_mul, Int.mul_assoc, Int.add_assoc]
/-- the place of a row -/
theorem place_row {W : Web} {st : List Int} : ∀ {ls : List (Int × Int)}, (∀ l ∈ ls, 0 ≤ stAt st l.1 ∧ stAt st l.1 ≤ topAt W l.1) → 0 ≤ ls.foldl (placeStep W st) 0 ∧ (rws (axes W ls))[(ls.foldl (placeStep W st) 0).toNat]? = some (ls.map fun l => stAt st l.1)
  | [], _ => ⟨Int.le_refl _, rfl⟩
  | l :: ls, h => by
    have h1 := h l (List.mem_cons_self ..)
    obtain ⟨i0, i1⟩ := place_row (W := W) (st := st) (ls := ls) fun x hx => h x (List.mem_cons_of_mem _ hx)
    have ht : ∀ l ∈ ls, 0 ≤ topAt W l.1 := fun x hx => by have := h x (List.mem_cons_of_mem _ hx); omega
    rw [List.foldl_cons, place_step W st ls _ ht]
    have e : placeStep W st 0 l = stAt st l.1 := by unfold placeStep; rw [Int.zero_mul, Int.zero_add]
    rw [e]
    have hm : 0 ≤ stAt st l.1 * ((pr (axes W ls) : Nat) : Int) := Int.mul_nonneg h1.1 (Int.natCast_nonneg _)
    refine ⟨by omega, ?_⟩
    have e2 : (stAt st l.1 * ((pr (axes W ls) : Nat) : Int) + ls.foldl (placeStep W st) 0).toNat = (stAt st l.1).toNat * pr (axes W ls) + (ls.foldl (placeStep W st) 0).toNat := by
      rw [Int.toNat_add hm i0, Int.toNat_mul h1.1 (Int.natCast_nonneg _), Int.toNat_natCast]
    rw [e2]
    show (rws (((topAt W l.1 + 1).toNat, l.2) :: axes W ls))[_]? = _
    rw [rws_at (a := ((topAt W l.1 + 1).toNat, l.2)) (x := (stAt st l.1).toNat) (by show _ < (topAt W l.1 + 1).toNat; omega) i1, List.map_cons]
    rw [show (((stAt st l.1).toNat : Nat) : Int) = stAt st l.1 by omega]
theorem max_sub {l m : List Int} (h : ∀ x ∈ l, x ∈ m) : maxOf l ≤ maxOf m := by
  obtain ⟨g1, g2⟩ := foldmax l 0
  obtain ⟨k1, k2⟩ := foldmax m 0
  refine k2 _ ?_
  rcases List.mem_cons.mp g1 with e | e
  · show maxOf l ∈ _
    unfold maxOf
    rw [e]
    exact List.mem_cons_self ..
  · exact List.mem_cons_of_mem _ (h _ e)
/-- a drawn table is one -/
theorem table_ok {W : Web} (ok : W.Ok) {f : Int} (hf : 0 ≤ f ∧ f < W.tops.length) {mks : List Mark} (hm : ∀ mk ∈ mks, mk.1 ∈ rowsAt W f ∧ 0 ≤ mk.2 ∧ mk.2 ≤ topAt W f) : isTable W f (tableOf (signsAt W f) (rowsAt W f) mks) = true := by
  have ht := topAt_ok ok hf.1 hf.2
  rw [isTable_iff ok]
  refine ⟨by unfold tableOf; rw [List.length_map, rowsAt_rws, rws_len], fun m h => ?_, fun p q xp xq h1 h2 g => ?_⟩
  · unfold tableOf at h
    obtain ⟨row, _, rfl⟩ := List.mem_map.mp h
    obtain ⟨g1, g2⟩ := foldmax ((mks.filter fun mk => lawGoes (signsAt W f) mk.1 row).map (·.2)) 0
    refine ⟨g2 0 (List.mem_cons_self ..), ?_⟩
    rcases List.mem_cons.mp g1 with e | e
    · show maxOf _ ≤ _
      unfold maxOf
      rw [e]
      omega
    · obtain ⟨mk, hmk, e⟩ := List.mem_map.mp e
      show maxOf _ ≤ _
      unfold maxOf
      rw [← e]
      exact (hm mk (List.mem_filter.mp hmk).1).2.2
  · rw [← rowsAt_rws] at h1 h2
    have at_ : ∀ {p : Nat} {xp : List Int}, (rowsAt W f)[p]? = some xp → (tableOf (signsAt W f) (rowsAt W f) mks).getD p 0 = maxOf ((mks.filter fun mk => lawGoes (signsAt W f) mk.1 xp).map (·.2)) := fun {p xp} h => by
      unfold tableOf
      rw [List.getD_eq_getElem?_getD, List.getElem?_map, h]
      rfl
    show (tableOf (signsAt W f) (rowsAt W f) mks).getD p 0 ≤ (tableOf (signsAt W f) (rowsAt W f) mks).getD q 0
    rw [at_ h1, at_ h2]
    refine max_sub fun x hx => ?_
    obtain ⟨mk, hmk, rfl⟩ := List.mem_map.mp hx
    obtain ⟨m1, m2⟩ := List.mem_filter.mp hmk
    refine List.mem_map.mpr ⟨mk, List.mem_filter.mpr ⟨m1, ?_⟩, rfl⟩
    have es : (axes W (looksOf W f)).map (·.2) = signsAt W f := by
      unfold axes signsAt
      rw [List.map_map]
      rfl
    rw [es] at g
    refine goes_trans _ _ xp _ (signs_ok ok) ?_ m2 g
    rw [rowsAt_row (List.mem_of_getElem? h1)]
    unfold signsAt
    rw [List.length_map]
end Lk

/-! ## D28 -/
set_option Elab.async false
set_option linter.all false
set_option maxRecDepth 100000
set_option maxHeartbeats 2000000
namespace Lk
open PySem PySem.Spec PyProof.Rows L2 Gx
open GxR (TabG Tabbed TabB)
variable [Own]
theorem units1 {k : Nat} {A : Around} (h : Room k A) : A.units + 65 < cLine := by
  have := h.un
  omega
abbrev s__law_told : Stmt := top 51
theorem sc__law_told : FnScope ["web", "rules", "state", "folk", "seen", "one", "sign", "rows"] ["web", "rules", "state", "folk"] (defScope s__law_told) := ⟨rfl, rfl, rfl, by decide +kernel, rfl, by decide +kernel, by decide +kernel⟩
abbrev s__law_behind : Stmt := top 52
theorem sc__law_behind : FnScope ["web", "rules", "state", "folk"] ["web", "rules", "state"] (defScope s__law_behind) := ⟨rfl, rfl, rfl, by decide +kernel, rfl, by decide +kernel, by decide +kernel⟩
abbrev s__law_settled : Stmt := top 53
theorem sc__law_settled : FnScope ["web", "rules", "state"] ["web", "rules"] (defScope s__law_settled) := ⟨rfl, rfl, rfl, by decide +kernel, rfl, by decide +kernel, by decide +kernel⟩
abbrev spLawTold : Sp := spMoodTold
abbrev spLawBehind : Sp := spStateTold
def spLawSettled : Sp := fun vs H Q _ => ∃ (v r : V) (W : Web) (ru : List (List Int)), vs = [v, r] ∧ WebAt H v W ∧ W.Ok ∧ TT2 H r ru ∧ RuOk W ru ∧ ∀ H' u, Ext H H' → LT2 H' (.ref u) (settledStates W ru) → Q (.ref u) H'
section
variable {P : Program} {w : World} {K : PySem.W.Frag} {mg : Str → Option Value} {base : Heap} {Ps : List Addr}
theorem ok_law_told {f : Addr} {fd : FuncData} (F : Fun K "_law_told" "_law_told" s__law_told f fd) (B : Blt mg)
    (c__law_seen : Cal P w K mg base CX0 1 "_law_seen" ["web", "folk"] spLawSeen) (c__law_moods : Cal P w K mg base CX0 1 "_law_moods" ["tops"] spLawMoods) : FnOk P w K mg base CX0 2 f fd ["web", "rules", "state", "folk"] spLawTold := by
  refine F.ok sc__law_told (fun vs H Q E h => ?_) (fun cdv A outer s0 H vs Q E hr h => ?_)
  · obtain ⟨v, r, z, W, ru, st, n, rfl, _⟩ := h
    rfl
  · obtain ⟨v, r, z, W, ru, st, n, rfl, hW, ok, hru, rok, hst, so, hn, k⟩ := h
    obtain ⟨a, t, l, rfl, ha, ⟨tt, rfl, ht⟩, hl⟩ := id hW
    obtain ⟨ra, rv, rfl, hra, hrv⟩ := id hru
    obtain ⟨sa, rfl, hsa⟩ := id hst
    refine ⟨_, (pss_cons (ps_set (i := 4) sc__law_told.nd rfl (by first | exact Or.inl rfl | exact Or.inr rfl) (pe_c0 c__law_seen (hr.mono (by decide)) (by rfl) (pa_cons (pv 0) (pa_cons (pv 3) pa_nil))))
      (pss_cons (ps_set (i := 7) sc__law_told.nd rfl (by first | exact Or.inl rfl | exact Or.inr rfl) (pe_c0 c__law_moods (hr.mono (by decide)) (by rfl) (pa_cons (pe_lc (own := [("one", 5), ("sign", 6)]) rfl sc__law_told.nd (pi_list (pv 4)) (blkOk_by (N := ["web", "rules", "state", "folk", "seen", "one", "sign", "rows"]) (sc := defScope s__law_told) (by decide +kernel)) (fun _ _ _ _ _ => (pg_tupT (n := 2) rfl (pgs_cons (pg_name (i := 5) sc__law_told.nd rfl (by first | exact Or.inl rfl | exact Or.inr rfl)) (pgs_cons (pg_name (i := 6) sc__law_told.nd rfl (by first | exact Or.inl rfl | exact Or.inr rfl)) pgs_nil)))) (fun _ _ _ _ _ => pts_nil) (fun _ _ _ _ _ => (pe_ix ix_tT (pe_ix ix_tT (pv 0) pe_int (fun _ _ => rfl)) (pv 5) (fun _ _ => rfl)))) pa_nil)))
      (pss_one (ps_ret (pe_ix ix_tT (pe_ix ix_tT (pv 1) (pv 3) (fun _ _ => rfl)) (pe_bmL PySem.F.plainAttrs_list PySem.F.slot_list_index PySem.F.type_list_index (mt_indexTI (units1 hr)) (pv 7) (pa_cons (pe_tupleL (by rfl) B.tuple (pe_lc (own := [("one", 5), ("sign", 6)]) rfl sc__law_told.nd (pi_list (pv 4)) (blkOk_by (N := ["web", "rules", "state", "folk", "seen", "one", "sign", "rows"]) (sc := defScope s__law_told) (by decide +kernel)) (fun _ _ _ _ _ => (pg_tupT (n := 2) rfl (pgs_cons (pg_name (i := 5) sc__law_told.nd rfl (by first | exact Or.inl rfl | exact Or.inr rfl)) (pgs_cons (pg_name (i := 6) sc__law_told.nd rfl (by first | exact Or.inl rfl | exact Or.inr rfl)) pgs_nil)))) (fun _ _ _ _ _ => pts_nil) (fun _ _ _ _ _ => (pe_ix ix_tT (pv 2) (pv 5) (fun _ _ => rfl))))) pa_nil)) (fun _ _ => rfl)))))), ?_⟩
    refine ⟨_, rfl, _, rfl, _, W, n, rfl, hW, ok.most, fun H1 p vs E1 hp0 hp hvs => ?_⟩
    have lvs : vs.length = (looksOf W n).length := by rw [paired_len hvs, List.length_map]
    have l4 := looks_len ok n
    refine ⟨_, rfl, p, rfl, ⟨_, SqL.of hp⟩, fun D hD => ?_⟩
    refine lc_list (K := K) (a := p) (xs := vs) (fun i H' => H' D = some (.lst (iv (((looksOf W n).take i).map fun l => topAt W l.1))) ∧ Ext H1 H') ⟨by rw [upd_same]; rfl, Ext.new hD _⟩ (fun i H' _ ⟨_, e⟩ => SqL.of (e.lst hp)) (fun i x H' hi ⟨h1, e1⟩ => ?_) fun H2 ⟨h2, E2⟩ => ?_
    · obtain ⟨lk, q, hlk, rfl, hq⟩ := row2_at (pTI.ext e1 hvs) hi
      have lo := looksOf_ok ok lk (List.mem_of_getElem? hlk)
      refine ⟨q, _, rfl, hq, rfl, _, _, rfl, _, _, rfl, rfl, rfl, yes ?_⟩
      refine ⟨_, rfl, a, _, _, _, rfl, rfl, (E1.trans e1).tup ha, rfl, _, rfl, tt, _, _, _, rfl, rfl, (E1.trans e1).tup ht, at_of (j := lk.1.toNat) (by omega) (iv_at (topAt_get lo.1.1 lo.1.2)), _, h1, ?_, ?_, e1.put hD _⟩
      · rw [iv_len, List.length_map, List.length_take]
        exact small1000 (by omega)
      · rw [upd_same, take_snoc hlk, List.map_append]
        unfold iv
        rw [List.map_append]
        rfl
    rw [lvs, List.take_length] at h2
    have tk := topsAt_ok ok n
    refine ⟨D, true, _, rfl, h2, by rw [List.length_map]; omega, fun t ht => by have := tk t ht; omega, fun H3 rw_ E3 hrw0 hrw => ?_⟩
    have E13 := E2.trans E3
    obtain ⟨_, rvs, e, hrws, hrvs⟩ := id hrw
    cases e
    have hr1 : ru[n.toNat]? = some (ru.getD n.toNat []) := by rw [List.getD_eq_getElem?_getD, List.getElem?_eq_getElem (by rw [rok.len]; omega)]; rfl
    obtain ⟨tv, htv, ta, rfl, hta⟩ := paired_get hrv hr1
    have E3' := E1.trans E13
    refine ⟨_, rfl, _, rfl, ra, _, _, _, rfl, rfl, E3'.tup hra, at_of (j := n.toNat) (by omega) htv, ?_⟩
    refine ⟨_, rfl, ⟨rw_, rvs, rfl, hrws⟩, ?_⟩
    refine ⟨_, rfl, p, rfl, ⟨_, SqL.of (E13.lst hp)⟩, fun D' hD' => ?_⟩
    refine lc_list (K := K) (a := p) (xs := vs) (fun i H' => H' D' = some (.lst (iv (((looksOf W n).take i).map fun l => stAt st l.1))) ∧ Ext H3 H') ⟨by rw [upd_same]; rfl, Ext.new hD' _⟩ (fun i H' _ ⟨_, e⟩ => SqL.of (e.lst (E13.lst hp))) (fun i x H' hi ⟨h1, e1⟩ => ?_) fun H4 ⟨h4, E4⟩ => ?_
    · obtain ⟨lk, q, hlk, rfl, hq⟩ := row2_at (pTI.ext (E13.trans e1) hvs) hi
      have lo := looksOf_ok ok lk (List.mem_of_getElem? hlk)
      refine ⟨q, _, rfl, hq, rfl, _, _, rfl, _, _, rfl, rfl, rfl, yes ?_⟩
      refine ⟨_, rfl, _, rfl, sa, _, _, _, rfl, rfl, (E3'.trans e1).tup hsa, at_of (j := lk.1.toNat) (by omega) (iv_at (stAt_get lo.1.1 (by rw [so.len]; exact lo.1.2))), _, h1, ?_, ?_, e1.put hD' _⟩
      · rw [iv_len, List.length_map, List.length_take]
        exact small1000 (by omega)
      · rw [upd_same, take_snoc hlk, List.map_append]
        unfold iv
        rw [List.map_append]
        rfl
    rw [lvs, List.take_length] at h4
    refine ⟨D', _, rfl, h4, fun u hu => ?_⟩
    have E5 := E4.trans (Ext.new hu (.tup (iv ((looksOf W n).map fun l => stAt st l.1))))
    obtain ⟨p0, p1⟩ := place_row (W := W) (st := st) (ls := looksOf W n) fun l hl => by
      have lo := looksOf_ok ok l hl
      exact so.bd l.1 lo.1.1 lo.1.2
    rw [← rowsAt_rws] at p1
    have hpl : ((ru.getD n.toNat []).length : Int) = manyRows W n := rok.rows n hn.1 hn.2
    have hlt : (placeOf W st n).toNat < (ru.getD n.toNat []).length := by
      have h1 := (List.getElem?_eq_some_iff.mp p1).1
      rw [rowsAt_rws, rws_len, pr_prod] at h1
      rw [many_eq ok] at hpl
      have : (placeOf W st n).toNat < prodOf W (looksOf W n) := h1
      omega
    refine ⟨_, (looksOf W n).map fun l : Int × Int => stAt st l.1, rowsAt W n, (placeOf W st n).toNat, rfl, ⟨u, rfl, upd_same⟩, hrw.ext E5, p1, fun m hm h2 => ?_, ?_⟩
    · rw [rowsAt_rws] at p1 h2
      have := rws_inj p1 h2
      have : (placeOf W st n).toNat = m := this
      omega
    · refine ⟨ta, _, _, _, rfl, rfl, (E3'.trans E5).tup hta, at_of (j := (placeOf W st n).toNat) rfl (iv_at (n := moodTold W ru st n) ?_), k _ (E3'.trans E5)⟩
      unfold moodTold
      rw [List.getD_eq_getElem?_getD (l := ru.getD n.toNat []), List.getElem?_eq_getElem hlt]
      rfl
theorem ok_law_behind {f : Addr} {fd : FuncData} (F : Fun K "_law_behind" "_law_behind" s__law_behind f fd) (B : Blt mg)
    (c__law_told : Cal P w K mg base CX0 2 "_law_told" ["web", "rules", "state", "folk"] spLawTold) : FnOk P w K mg base CX0 3 f fd ["web", "rules", "state"] spLawBehind := by
  refine F.ok sc__law_behind (fun vs H Q E h => ?_) (fun cdv A outer s0 H vs Q E hr h => ?_)
  · obtain ⟨v, r, z, W, ru, st, rfl, _⟩ := h
    rfl
  · obtain ⟨v, r, z, W, ru, st, rfl, hW, ok, hru, rok, hst, so, k⟩ := h
    obtain ⟨a, t, l, rfl, ha, ⟨tt, rfl, ht⟩, hl⟩ := id hW
    refine ⟨_, (pss_one (ps_ret (pe_tupleL (by rfl) B.tuple (pe_lc (own := [("folk", 3)]) rfl sc__law_behind.nd (pi_range1 (by rfl) B.range (pa_cons (pe_callB call_lenT (by rfl) B.len PySem.boot_len (pa_cons (pe_ix ix_tT (pv 0) pe_int (fun _ _ => rfl)) pa_nil)) pa_nil)) (blkOk_by (N := ["web", "rules", "state", "folk"]) (sc := defScope s__law_behind) (by decide +kernel)) (fun _ _ _ _ _ => (pg_name (i := 3) sc__law_behind.nd rfl (by first | exact Or.inl rfl | exact Or.inr rfl))) (fun _ _ _ _ _ => pts_nil) (fun _ _ _ _ _ => (pe_c0 c__law_told (hr.mono (by decide)) (by rfl) (pa_cons (pv 0) (pa_cons (pv 1) (pa_cons (pv 2) (pa_cons (pv 3) pa_nil)))))))))), ?_⟩
    have h6 := ok.few
    refine ⟨_, rfl, a, _, _, _, rfl, rfl, ha, rfl, tt, _, rfl, .inr ht, _, rfl, by omega, by rw [iv_len]; omega, fun D hD => ?_⟩
    have en : ((iv W.tops).length : Int).toNat = W.tops.length := by rw [iv_len]; omega
    rw [en]
    refine lc_range (lo := 0) (n := W.tops.length) (fun i H' => H' D = some (.lst (iv ((List.range i).map fun f : Nat => moodTold W ru st (f : Int)))) ∧ Ext H H') ⟨upd_same, Ext.new hD _⟩ (fun i H' hi ⟨h1, e1⟩ => ?_) fun H' ⟨h1, e1⟩ => ?_
    · have ei : (0 : Int) + (i : Int) = (i : Int) := Int.zero_add _
      rw [ei]
      refine ⟨rfl, yes ?_⟩
      refine ⟨_, rfl, _, rfl, _, rfl, _, rfl, _, _, _, W, ru, st, _, rfl, hW.ext e1, ok, hru.ext e1, rok, hst.ext e1, so, ⟨by omega, by omega⟩, fun H2 e2 => ?_⟩
      refine ⟨_, e2.lst h1, ?_, ?_, (e1.trans e2).put hD _⟩
      · rw [iv_len, List.length_map, List.length_range]
        exact small1000 (by omega)
      · rw [upd_same, List.range_succ, List.map_append]
        unfold iv
        rw [List.map_append]
        rfl
    · refine ⟨D, _, rfl, h1, fun u hu => ?_⟩
      refine k _ u (e1.trans (Ext.new hu _)) (e1.free hu) ?_
      rw [upd_same]
      unfold stateTold
      rw [so.len]
theorem ok_law_settled {f : Addr} {fd : FuncData} (F : Fun K "_law_settled" "_law_settled" s__law_settled f fd) (B : Blt mg)
    (c__law_moods : Cal P w K mg base CX0 1 "_law_moods" ["tops"] spLawMoods) (c__law_behind : Cal P w K mg base CX0 3 "_law_behind" ["web", "rules", "state"] spLawBehind) : FnOk P w K mg base CX0 4 f fd ["web", "rules"] spLawSettled := by
  refine F.ok sc__law_settled (fun vs H Q E h => ?_) (fun cdv A outer s0 H vs Q E hr h => ?_)
  · obtain ⟨v, r, W, ru, rfl, _⟩ := h
    rfl
  · obtain ⟨v, r, W, ru, rfl, hW, ok, hru, rok, k⟩ := h
    obtain ⟨a, t, l, rfl, ha, ⟨tt, rfl, ht⟩, hl⟩ := id hW
    refine ⟨_, (pss_one (ps_ret (pe_lc (own := [("state", 2)]) rfl sc__law_settled.nd (pi_list (pe_c0 c__law_moods (hr.mono (by decide)) (by rfl) (pa_cons (pe_ix ix_tT (pv 0) pe_int (fun _ _ => rfl)) pa_nil))) (blkOk_by (N := ["web", "rules", "state"]) (sc := defScope s__law_settled) (by decide +kernel)) (fun _ _ _ _ _ => (pg_name (i := 2) sc__law_settled.nd rfl (by first | exact Or.inl rfl | exact Or.inr rfl))) (fun _ _ _ _ _ => (pts_one (pt_cmpR (op_eqTI hr.units) (pe_c0 c__law_behind (hr.mono (by decide)) (by rfl) (pa_cons (pv 0) (pa_cons (pv 1) (pa_cons (pv 2) pa_nil)))) (pv 2) (nomark _)))) (fun _ _ _ _ _ => (pv 2))))), ?_⟩
    have h6 := ok.few
    refine ⟨_, rfl, a, _, _, _, rfl, rfl, ha, rfl, tt, false, W.tops, rfl, ht, ok.few, fun t ht => by have := ok.tops t ht; omega, fun H1 p E1 hp0 hpl => ?_⟩
    obtain ⟨_, vs, e, hp, hvs⟩ := id hpl
    cases e
    refine ⟨p, rfl, ⟨_, SqL.of hp⟩, fun D hD => ?_⟩
    have hrl : (rowsOf W.tops).length ≤ 4096 := by
      have h1 := rows_len4 (tops := W.tops) (fun t ht => (ok.tops t ht).2) [[]]
      have h2 : 4 ^ W.tops.length ≤ 4 ^ 6 := Nat.pow_le_pow_right (by decide) ok.few
      simp only [List.length_singleton, Nat.one_mul] at h1
      exact Nat.le_trans h1 h2
    refine lc_list (K := K) (a := p) (xs := vs) (fun i H' => ∃ acc, H' D = some (.lst acc) ∧ Ext H1 H' ∧ acc.length ≤ i ∧ Paired (TI H') acc (((rowsOf W.tops).take i).filter fun st => decide (stateTold W ru st = st))) ⟨[], upd_same, Ext.new hD _, Nat.le_refl _, .nil⟩ (fun i H' _ ⟨_, _, e, _⟩ => SqL.of (e.lst hp)) (fun i x H' hi ⟨acc, hacc, e, hl, hpa⟩ => ?_) fun H' ⟨acc, hacc, e, hl, hpa⟩ => ?_
    · obtain ⟨st, hst, hx⟩ := paired_get' (pTI.ext e hvs) hi
      have E2 := E1.trans e
      have so := rows_st (W := W) (List.mem_of_getElem? hst)
      have hi4 : i < 4096 := by
        have := (List.getElem?_eq_some_iff.mp hst).1
        omega
      refine ⟨rfl, _, rfl, _, rfl, _, rfl, _, _, _, W, ru, st, rfl, hW.ext E2, ok, hru.ext E2, rok, hx, so, fun H3 u E3 hu0 hu => ?_⟩
      refine ⟨_, rfl, _, st, ⟨u, rfl, hu⟩, hx.ext E3, _, rfl, ?_⟩
      rw [List.take_add_one, hst, List.filter_append]
      by_cases hc : stateTold W ru st = st
      · rw [decide_eq_true hc]
        refine iteT ⟨_, rfl, acc, E3.lst hacc, Nat.lt_of_lt_of_le (show acc.length < 5000 by omega) (by decide), acc ++ [x], upd_same, (e.trans E3).put hD _, by rw [List.length_append]; simp; omega, ?_⟩
        · have F1 : List.filter (fun st => decide (stateTold W ru st = st)) (some st).toList = [st] := by simp [hc]
          rw [F1]
          exact pTI.put (E3.lst hacc) (fun _ _ h => h) (paired_snoc (hx.ext E3) (pTI.ext E3 hpa))
      · rw [decide_eq_false hc]
        have F1 : List.filter (fun st => decide (stateTold W ru st = st)) (some st).toList = [] := by simp [hc]
        rw [F1, List.append_nil]
        exact iteF ⟨acc, E3.lst hacc, e.trans E3, by omega, pTI.ext E3 hpa⟩
    · have hvl : vs.length = (rowsOf W.tops).length := paired_len hvs
      rw [hvl, List.take_length] at hpa
      exact k _ D (E1.trans e) ⟨D, acc, rfl, hacc, hpa⟩
end
end Lk

/-! ## D31 -/
set_option Elab.async false
set_option linter.all false
set_option maxRecDepth 100000
set_option maxHeartbeats 2000000
namespace Lk
open PySem PySem.Spec PyProof.Rows L2 Gx
open GxR (TabG Tabbed TabB)
variable [Own]
abbrev s__law_alike : Stmt := top 50
theorem sc__law_alike : FnScope ["found", "due", "k"] ["found", "due"] (defScope s__law_alike) := ⟨rfl, rfl, rfl, by decide +kernel, rfl, by decide +kernel, by decide +kernel⟩
/-- the same int, the same truth value -/
def spAlike0 : Sp := fun vs H Q _ => ((∃ i : Int, vs = [.int i, .int i]) ∨ ∃ b : Bool, vs = [.bl b, .bl b]) ∧ ∀ H', Ext H H' → Q (.bl true) H'
/-- two lists, two tuples, whose items are alike -/
def spAlikeS (sp : Sp) : Sp := fun vs H Q _ => ∃ (a b : Addr) (k : Bool) (xs ys : List V), vs = [.ref a, .ref b] ∧ SqB k H a xs ∧ SqB k H b ys ∧ ys.length = xs.length ∧ xs.length ≤ 1000000 ∧
  (∀ (H' : Hp) (i : Nat) (x y : V) (Q' : VK) (E' : XK), Ext H H' → xs[i]? = some x → ys[i]? = some y → (∀ H'', Ext H' H'' → Q' (.bl true) H'') → sp [x, y] H' Q' E') ∧ ∀ H', Ext H H' → Q (.bl true) H'
def rIxS : R2 := fun x y H Q => ∃ p k xs i v, x = .ref p ∧ y = .int i ∧ SqB k H p xs ∧ atI xs i = some v ∧ Q v H
theorem ix_sT {X : Cx} : IxR X rIxS := by
  intro value slice pins s σ H x y v u Q I rx ry h hs
  obtain ⟨p, k, xs, i, z, e1, e2, hq, he, q⟩ := h
  cases k with
  | true => exact ix_lT value slice pins s σ H x y v u Q I rx ry ⟨p, xs, i, z, e1, e2, hq, he, q⟩ hs
  | false => exact ix_tT value slice pins s σ H x y v u Q I rx ry ⟨p, xs, i, z, e1, e2, hq, he, q⟩ hs
theorem kit2 {K : PySem.W.Frag} {t a b : String} {r1 r2 : Bool} (h1 : kitB t a = some r1) (h2 : kitB t b = some r2) : W.kitAny K (.type t) [.type a, .type b] = some (r1 || r2) := by
  unfold W.kitAny
  rw [kit_ty h1]
  cases r1 with
  | true => rfl
  | false =>
    show W.kitAny K _ _ = _
    unfold W.kitAny
    rw [kit_ty h2]
    cases r2 <;> rfl
theorem isi_seq {K : PySem.W.Frag} {k : Bool} {H : Hp} {a : Addr} {xs : List V} (h : SqB k H a xs) : TyX K H (.ref a) (.type (if k = true then "list" else "tuple")) := by
  cases k with
  | true => exact .base (.lst h)
  | false => exact .base (.tup h)
section
variable {P : Program} {w : World} {K : PySem.W.Frag} {mg : Str → Option Value} {base : Heap} {Ps : List Addr}
theorem ok_alike0 {f : Addr} {fd : FuncData} (F : Fun K "_law_alike" "_law_alike" s__law_alike f fd) (B : Blt mg) : FnOk P w K mg base CX0 1 f fd ["found", "due"] spAlike0 := by
  refine F.ok sc__law_alike (fun vs H Q E h => ?_) (fun cdv A outer s0 H vs Q E hr h => ?_)
  · obtain ⟨⟨i, rfl⟩ | ⟨b, rfl⟩, _⟩ := h <;> rfl
  · obtain ⟨hv, k⟩ := h
    refine ⟨_, (pss_cons (ps_if (pt_val (pe_callB call_isiT (by rfl) B.isi boot_isinstance (pa_cons (pv 1) (pa_cons (pe_tup (pa_cons (pe_bltn (v := .ty "tuple") (by rfl) B.tuple boot_tyTuple rfl) (pa_cons (pe_bltn (v := .ty "list") (by rfl) B.list boot_tyList rfl) pa_nil))) pa_nil))))
        (pss_cons (ps_if (PW.pt (pw_or (pt_not (pt_val (pe_callB call_isiT (by rfl) B.isi boot_isinstance (pa_cons (pv 0) (pa_cons (pe_tup (pa_cons (pe_bltn (v := .ty "tuple") (by rfl) B.tuple boot_tyTuple rfl) (pa_cons (pe_bltn (v := .ty "list") (by rfl) B.list boot_tyList rfl) pa_nil))) pa_nil))))) (pw_or1 (pt_cmpR op_ne (pe_callB call_isi (by rfl) B.isi boot_isinstance (pa_cons (pv 0) (pa_cons (pe_bltn (v := .ty "list") (by rfl) B.list boot_tyList rfl) pa_nil))) (pe_callB call_isi (by rfl) B.isi boot_isinstance (pa_cons (pv 1) (pa_cons (pe_bltn (v := .ty "list") (by rfl) B.list boot_tyList rfl) pa_nil))) (nomark _)))))
          (pss_one (ps_ret pe_bl)) pss_nil)
        (pss_cons (ps_if (pt_cmpR op_ne (pe_callB call_lenT (by rfl) B.len PySem.boot_len (pa_cons (pv 0) pa_nil)) (pe_callB call_lenT (by rfl) B.len PySem.boot_len (pa_cons (pv 1) pa_nil)) (nomark _))
          (pss_one (ps_ret pe_bl)) pss_nil)
        (pss_one ps_never))) pss_nil)
      (pss_cons (ps_if (PW.pt (pw_or (pt_cmpR op_isN (pv 1) pe_non (nomark _)) (pw_or1 (pt_val (pe_callB call_isi (by rfl) B.isi boot_isinstance (pa_cons (pv 1) (pa_cons (pe_bltn (v := .ty "str") (by rfl) B.str boot_tyStr rfl) pa_nil)))))))
        (pss_one (ps_ret (pe_and (pe_cmpR op_eq (pv 0) (pv 1) (nomark _)) (pe_one (pe_cmpR op_eq (pe_callB call_isi (by rfl) B.isi boot_isinstance (pa_cons (pv 0) (pa_cons (pe_bltn (v := .ty "str") (by rfl) B.str boot_tyStr rfl) pa_nil))) (pe_callB call_isi (by rfl) B.isi boot_isinstance (pa_cons (pv 1) (pa_cons (pe_bltn (v := .ty "str") (by rfl) B.str boot_tyStr rfl) pa_nil))) (nomark _)))))) pss_nil)
      (pss_one (ps_ret (pe_and (pe_callB call_isi (by rfl) B.isi boot_isinstance (pa_cons (pv 0) (pa_cons (pe_bltn (v := .ty "int") (by rfl) B.int boot_tyInt rfl) pa_nil))) (pe_and (pe_cmpR op_eq (pe_callB call_isi (by rfl) B.isi boot_isinstance (pa_cons (pv 0) (pa_cons (pe_bltn (v := .ty "bool") (by rfl) B.bool boot_tyBool rfl) pa_nil))) (pe_callB call_isi (by rfl) B.isi boot_isinstance (pa_cons (pv 1) (pa_cons (pe_bltn (v := .ty "bool") (by rfl) B.bool boot_tyBool rfl) pa_nil))) (nomark _)) (pe_one (pe_cmpR op_eq (pv 0) (pv 1) (nomark _))))))))), ?_⟩
    obtain ⟨t, r1, x, hx, k1, k2, k3, k4, k5, ty, nn, sc⟩ : ∃ (t : String) (r1 : Bool) (x : V), vs = [x, x] ∧ kitB t "tuple" = some false ∧ kitB t "list" = some false ∧ kitB t "str" = some false ∧ kitB t "int" = some true ∧ kitB t "bool" = some r1 ∧ (∀ H', TyX K H' x (.type t)) ∧ x ≠ .non ∧ scal x x = true := by
      rcases hv with ⟨i, rfl⟩ | ⟨b, rfl⟩
      · exact ⟨"int", false, _, rfl, by decide +kernel, by decide +kernel, by decide +kernel, by decide +kernel, by decide +kernel, fun H' => .base (.int i), (by intro z; cases z), rfl⟩
      · exact ⟨"bool", true, _, rfl, by decide +kernel, by decide +kernel, by decide +kernel, by decide +kernel, by decide +kernel, fun H' => .base (.bl b), (by intro z; cases z), rfl⟩
    subst hx
    refine ⟨_, rfl, (by show 2 ≤ sizeLine; decide), fun p hp => ⟨_, p, _, _, _, _, rfl, upd_same, .cons (.ty _) (.cons (.ty _) .nil), ty _, kit2 k1 k2, _, rfl, iteF ?_⟩⟩
    have e := Ext.new hp (.tup [V.ty "tuple", V.ty "list"])
    refine ⟨_, rfl, rfl, _, rfl, ?_⟩
    rw [decide_eq_false nn]
    refine iteF ?_
    refine ⟨_, rfl, _, _, _, _, false, rfl, .ty "str", ty _, kit_ty k3, _, rfl, iteF ?_⟩
    refine ⟨_, rfl, _, _, _, _, true, rfl, .ty "int", ty _, kit_ty k4, _, rfl, iteT ?_⟩
    refine ⟨_, rfl, _, _, _, _, r1, rfl, .ty "bool", ty _, kit_ty k5, _, rfl, _, _, _, _, r1, rfl, .ty "bool", ty _, kit_ty k5, rfl, _, rfl, ?_⟩
    rw [decide_eq_true rfl]
    refine iteT ⟨_, rfl, _, rfl, sc, ?_⟩
    rw [decide_eq_true rfl]
    exact k _ e
theorem ok_alikeS {n : Nat} {sp : Sp} (len : ∀ vs H Q E, sp vs H Q E → vs.length = 2) {f : Addr} {fd : FuncData} (F : Fun K "_law_alike" "_law_alike" s__law_alike f fd) (B : Blt mg) (c__law_alike : Cal P w K mg base CX0 (n + 1) "_law_alike" ["found", "due"] sp) : FnOk P w K mg base CX0 (n + 2) f fd ["found", "due"] (spAlikeS sp) := by
  refine F.ok sc__law_alike (fun vs H Q E h => ?_) (fun cdv A outer s0 H vs Q E hr h => ?_)
  · obtain ⟨a, b, k, xs, ys, rfl, _⟩ := h
    rfl
  · obtain ⟨a, b, kk, xs, ys, rfl, ha, hb, ly, hl, ks, k⟩ := h
    refine ⟨_, (pss_cons (ps_if (pt_val (pe_callB call_isiT (by rfl) B.isi boot_isinstance (pa_cons (pv 1) (pa_cons (pe_tup (pa_cons (pe_bltn (v := .ty "tuple") (by rfl) B.tuple boot_tyTuple rfl) (pa_cons (pe_bltn (v := .ty "list") (by rfl) B.list boot_tyList rfl) pa_nil))) pa_nil))))
        (pss_cons (ps_if (PW.pt (pw_or (pt_not (pt_val (pe_callB call_isiT (by rfl) B.isi boot_isinstance (pa_cons (pv 0) (pa_cons (pe_tup (pa_cons (pe_bltn (v := .ty "tuple") (by rfl) B.tuple boot_tyTuple rfl) (pa_cons (pe_bltn (v := .ty "list") (by rfl) B.list boot_tyList rfl) pa_nil))) pa_nil))))) (pw_or1 (pt_cmpR op_ne (pe_callB call_isi (by rfl) B.isi boot_isinstance (pa_cons (pv 0) (pa_cons (pe_bltn (v := .ty "list") (by rfl) B.list boot_tyList rfl) pa_nil))) (pe_callB call_isi (by rfl) B.isi boot_isinstance (pa_cons (pv 1) (pa_cons (pe_bltn (v := .ty "list") (by rfl) B.list boot_tyList rfl) pa_nil))) (nomark _)))))
          (pss_one (ps_ret pe_bl)) pss_nil)
        (pss_cons (ps_if (pt_cmpR op_ne (pe_callB call_lenT (by rfl) B.len PySem.boot_len (pa_cons (pv 0) pa_nil)) (pe_callB call_lenT (by rfl) B.len PySem.boot_len (pa_cons (pv 1) pa_nil)) (nomark _))
          (pss_one (ps_ret pe_bl)) pss_nil)
        (pss_one (ps_ret (pe_cmpR (op_eqLn hr.units) (pe_lc (own := [("k", 2)]) rfl sc__law_alike.nd (pi_range1 (by rfl) B.range (pa_cons (pe_callB call_lenT (by rfl) B.len PySem.boot_len (pa_cons (pv 1) pa_nil)) pa_nil)) (blkOk_by (N := ["found", "due", "k"]) (sc := defScope s__law_alike) (by decide +kernel)) (fun _ _ _ _ _ => (pg_name (i := 2) sc__law_alike.nd rfl (by first | exact Or.inl rfl | exact Or.inr rfl))) (fun _ _ _ _ _ => (pts_one (pt_not (pt_val (pe_c0 c__law_alike hr (by rfl) (pa_cons (pe_ix ix_sT (pv 0) (pv 2) (fun _ _ => rfl)) (pa_cons (pe_ix ix_sT (pv 1) (pv 2) (fun _ _ => rfl)) pa_nil))))))) (fun _ _ _ _ _ => (pv 2))) (pe_lst pa_nil) (nomark _)))))) pss_nil)
      (pss_cons (ps_if (PW.pt (pw_or (pt_cmpR op_isN (pv 1) pe_non (nomark _)) (pw_or1 (pt_val (pe_callB call_isi (by rfl) B.isi boot_isinstance (pa_cons (pv 1) (pa_cons (pe_bltn (v := .ty "str") (by rfl) B.str boot_tyStr rfl) pa_nil)))))))
        (pss_one (ps_ret (pe_and (pe_cmpR op_eq (pv 0) (pv 1) (nomark _)) (pe_one (pe_cmpR op_eq (pe_callB call_isi (by rfl) B.isi boot_isinstance (pa_cons (pv 0) (pa_cons (pe_bltn (v := .ty "str") (by rfl) B.str boot_tyStr rfl) pa_nil))) (pe_callB call_isi (by rfl) B.isi boot_isinstance (pa_cons (pv 1) (pa_cons (pe_bltn (v := .ty "str") (by rfl) B.str boot_tyStr rfl) pa_nil))) (nomark _)))))) pss_nil)
      (pss_one (ps_ret (pe_and (pe_callB call_isi (by rfl) B.isi boot_isinstance (pa_cons (pv 0) (pa_cons (pe_bltn (v := .ty "int") (by rfl) B.int boot_tyInt rfl) pa_nil))) (pe_and (pe_cmpR op_eq (pe_callB call_isi (by rfl) B.isi boot_isinstance (pa_cons (pv 0) (pa_cons (pe_bltn (v := .ty "bool") (by rfl) B.bool boot_tyBool rfl) pa_nil))) (pe_callB call_isi (by rfl) B.isi boot_isinstance (pa_cons (pv 1) (pa_cons (pe_bltn (v := .ty "bool") (by rfl) B.bool boot_tyBool rfl) pa_nil))) (nomark _)) (pe_one (pe_cmpR op_eq (pv 0) (pv 1) (nomark _))))))))), ?_⟩
    have both : W.kitAny K (.type (if kk = true then "list" else "tuple")) [.type "tuple", .type "list"] = some true := by
      cases kk with
      | true => exact kit2 (r1 := false) (r2 := true) (by decide +kernel) (by decide +kernel)
      | false => exact kit2 (r1 := true) (r2 := false) (by decide +kernel) (by decide +kernel)
    have isl : W.kitOne K (.type (if kk = true then "list" else "tuple")) (.type "list") = some kk := by
      cases kk with
      | true => exact kit_ty (by decide +kernel)
      | false => exact kit_ty (by decide +kernel)
    refine ⟨_, rfl, (by show 2 ≤ sizeLine; decide), fun p hp => ?_⟩
    have e1 := Ext.new hp (.tup [V.ty "tuple", V.ty "list"])
    refine ⟨_, p, _, _, _, _, rfl, upd_same, .cons (.ty _) (.cons (.ty _) .nil), isi_seq (hb.ext e1), both, _, rfl, iteT ?_⟩
    refine ⟨_, rfl, (by show 2 ≤ sizeLine; decide), fun p2 hp2 => ?_⟩
    have e2 := e1.trans (Ext.new hp2 (.tup [V.ty "tuple", V.ty "list"]))
    refine ⟨_, p2, _, _, _, _, rfl, upd_same, .cons (.ty _) (.cons (.ty _) .nil), isi_seq (ha.ext e2), both, _, rfl, iteF ?_⟩
    refine ⟨_, rfl, _, _, _, _, _, rfl, .ty "list", isi_seq (ha.ext e2), isl, _, rfl, _, _, _, _, _, rfl, .ty "list", isi_seq (hb.ext e2), isl, rfl, _, rfl, ?_⟩
    have en : (!decide (V.bl kk = V.bl kk)) = false := by rw [decide_eq_true rfl]; rfl
    rw [en]
    refine iteF ?_
    have lenOf : ∀ {H' : Hp} {c : Addr} {zs : List V}, SqB kk H' c zs → H' c = some (.lst zs) ∨ H' c = some (.tup zs) := fun {H' c zs} h => by
      cases kk with
      | true => exact .inl h
      | false => exact .inr h
    refine ⟨_, rfl, a, xs, rfl, lenOf (ha.ext e2), _, rfl, b, ys, rfl, lenOf (hb.ext e2), rfl, _, rfl, ?_⟩
    have en2 : (!decide (V.int (xs.length : Nat) = V.int (ys.length : Nat))) = false := by rw [ly, decide_eq_true rfl]; rfl
    rw [en2]
    refine iteF ?_
    refine ⟨_, rfl, b, ys, rfl, lenOf (hb.ext e2), _, rfl, by omega, by omega, fun D hD => ?_⟩
    have en3 : ((ys.length : Nat) : Int).toNat = xs.length := by omega
    rw [en3]
    generalize hH2 : L2.upd (L2.upd H p _) p2 _ = H2 at e2 hD ⊢
    clear hH2
    refine lc_range (lo := 0) (n := xs.length) (fun i H' => H' D = some (.lst []) ∧ Ext H2 H') ⟨upd_same, Ext.new hD _⟩ (fun i H' hi ⟨h1, e⟩ => ?_) fun H' ⟨h1, e⟩ => ?_
    · have ei : (0 : Int) + (i : Int) = (i : Int) := Int.zero_add _
      rw [ei]
      have hx : xs[i]? = some xs[i] := List.getElem?_eq_getElem hi
      have hy : ys[i]? = some (ys[i]'(by omega)) := List.getElem?_eq_getElem (by omega)
      refine ⟨rfl, ?_⟩
      refine ⟨_, rfl, _, rfl, a, kk, xs, _, _, rfl, rfl, (ha.ext e2).ext e, at_of (j := i) rfl hx, _, rfl, _, rfl, b, kk, ys, _, _, rfl, rfl, (hb.ext e2).ext e, at_of (j := i) rfl hy, ?_⟩
      refine ks H' i _ _ _ _ (e2.trans e) hx hy fun H'' e'' => ⟨_, rfl, iteF ⟨e''.lst h1, e.trans e''⟩⟩
    · refine ⟨(by show 0 ≤ sizeLine; decide), fun u hu => ?_⟩
      refine ⟨D, u, 0, rfl, rfl, by rw [upd_ne (ne_of_none h1 hu)]; exact h1, upd_same, ?_⟩
      exact k _ ((e2.trans e).trans (Ext.new hu _))
end
end Lk

/-! ## D30 -/
set_option Elab.async false
set_option linter.all false
set_option maxRecDepth 100000
set_option maxHeartbeats 2000000
namespace Lk
open PySem PySem.Spec PyProof.Rows L2 Gx
open GxR (TabG Tabbed TabB)
variable [Own]
abbrev s__law_web : Stmt := top 42
theorem sc__law_web : FnScope ["row", "folk", "most", "looks", "one", "tops", "found", "seen", "turn", "other", "sign", "key"] ["row", "folk", "most", "looks"] (defScope s__law_web) := ⟨rfl, rfl, rfl, by decide +kernel, rfl, by decide +kernel, by decide +kernel⟩
def spLawWeb (K : PySem.W.Frag) : Sp := fun vs H Q _ => ∃ (r sc : Addr) (ns : List Int) (n most looks : Nat), vs = [.ref r, .int n, .int most, .int looks] ∧ Rw K H r sc ns ∧ (1 ≤ n ∧ n ≤ 6) ∧ (1 ≤ most ∧ most ≤ 3) ∧ looks ≤ 1000 ∧
  ∀ H' v W, ExtB r H H' → Rw K H' r sc ns → WebAt H' v W → W.Ok → W.tops.length = n → (∀ t ∈ W.tops, t ≤ most) → Q v H'
/-- looks drawn so far, the first first -/
structure FdOk (n : Nat) (L : List Look3) : Prop where
  nd : (L.map fun l => (l.1, l.2.1)).Nodup
  rng : ∀ l ∈ L, (0 ≤ l.1 ∧ l.1 < n) ∧ (0 ≤ l.2.1 ∧ l.2.1 < n) ∧ (l.2.2 = 1 ∨ l.2.2 = -1)
  len : L.length ≤ 14
  four : ∀ f : Int, (L.filter fun l => l.2.1 == f).length ≤ 4
def kvOf (L : List Look3) : List (List Key × V) := L.map fun l => ([Sum.inl l.1, Sum.inl l.2.1], V.int l.2.2)
def cntOf (n : Nat) (L : List Look3) : List Int := (List.range n).map fun o : Nat => (((L.filter fun l => l.2.1 == (o : Int)).length : Nat) : Int)
theorem cntOf_len (n : Nat) (L : List Look3) : (cntOf n L).length = n := by unfold cntOf; rw [List.length_map, List.length_range]
theorem cntOf_at {n : Nat} {L : List Look3} {b : Int} (h0 : 0 ≤ b) (h1 : b < n) : (cntOf n L)[b.toNat]? = some (((L.filter fun l => l.2.1 == b).length : Nat) : Int) := by
  unfold cntOf
  rw [List.getElem?_map, List.getElem?_range (by omega)]
  show some (((L.filter fun l => l.2.1 == ((b.toNat : Nat) : Int)).length : Nat) : Int) = _
  rw [show ((b.toNat : Nat) : Int) = b by omega]
theorem cntOf_snoc {n : Nat} {L : List Look3} {l : Look3} (h0 : 0 ≤ l.2.1) (h1 : l.2.1 < n) : (cntOf n L).set l.2.1.toNat ((((L.filter fun k => k.2.1 == l.2.1).length : Nat) : Int) + 1) = cntOf n (L ++ [l]) := by
  refine List.ext_getElem? fun j => ?_
  rw [List.getElem?_set, cntOf_len]
  by_cases hj : j < n
  · have e : (cntOf n (L ++ [l]))[j]? = some ((((L ++ [l]).filter fun k => k.2.1 == (j : Int)).length : Nat) : Int) := by
      unfold cntOf
      rw [List.getElem?_map, List.getElem?_range hj]
      rfl
    rw [e, List.filter_append, List.length_append]
    by_cases hb : l.2.1.toNat = j
    · have hb2 : (j : Int) = l.2.1 := by omega
      rw [if_pos hb, if_pos (by omega), hb2, List.filter_cons, if_pos (by simp)]
      simp
    · have e1 : (cntOf n L)[j]? = some (((L.filter fun k => k.2.1 == (j : Int)).length : Nat) : Int) := by
        unfold cntOf
        rw [List.getElem?_map, List.getElem?_range hj]
        rfl
      have hb2 : (l.2.1 == (j : Int)) = false := by
        rw [beq_eq_false_iff_ne]
        omega
      rw [if_neg hb, e1, List.filter_cons, hb2]
      simp
  · have e : (cntOf n (L ++ [l]))[j]? = none := List.getElem?_eq_none (by rw [cntOf_len]; omega)
    have e1 : (cntOf n L)[j]? = none := List.getElem?_eq_none (by rw [cntOf_len]; omega)
    rw [e, e1]
    by_cases hb : l.2.1.toNat = j
    · omega
    · rw [if_neg hb]
theorem kv_not {L : List Look3} {a b : Int} (h : valV (kvOf L) [Sum.inl a, Sum.inl b] = none) : (a, b) ∉ L.map fun l => (l.1, l.2.1) := by
  intro hm
  refine valV_not h ?_
  obtain ⟨l, hl, e⟩ := List.mem_map.mp hm
  refine List.mem_map.mpr ⟨([Sum.inl l.1, Sum.inl l.2.1], V.int l.2.2), List.mem_map.mpr ⟨l, hl, rfl⟩, ?_⟩
  injection e with e1 e2
  show [Sum.inl l.1, Sum.inl l.2.1] = _
  rw [e1, e2]
theorem kv_get : ∀ {L : List Look3} {l : Look3}, (L.map fun l => (l.1, l.2.1)).Nodup → l ∈ L → valV (kvOf L) [Sum.inl l.1, Sum.inl l.2.1] = some (.int l.2.2)
  | [], l, _, h => by cases h
  | k :: L, l, nd, h => by
    rw [List.map_cons, List.nodup_cons] at nd
    show valV (([Sum.inl k.1, Sum.inl k.2.1], V.int k.2.2) :: kvOf L) _ = _
    rcases List.mem_cons.mp h with e | h
    · rw [e]
      exact valV_pos rfl
    · rw [valV_neg]
      · exact kv_get nd.2 h
      · intro e
        injection e with e1 e2
        injection e1 with e1
        injection e2 with e2
        injection e2 with e2
        exact nd.1 (List.mem_map.mpr ⟨l, h, by rw [e1, e2]⟩)
theorem FdOk.nil (n : Nat) : FdOk n [] := ⟨by simp, (fun _ h => by cases h), by simp, fun _ => by simp⟩
theorem FdOk.snoc {n : Nat} {L : List Look3} (h : FdOk n L) {l : Look3} (h1 : (l.1, l.2.1) ∉ L.map fun l => (l.1, l.2.1)) (h2 : (0 ≤ l.1 ∧ l.1 < n) ∧ (0 ≤ l.2.1 ∧ l.2.1 < n) ∧ (l.2.2 = 1 ∨ l.2.2 = -1)) (h3 : L.length < 14) (h4 : (L.filter fun k => k.2.1 == l.2.1).length < 4) : FdOk n (L ++ [l]) := by
  refine ⟨?_, fun k hk => ?_, by rw [List.length_append]; simp; omega, fun f => ?_⟩
  · rw [List.map_append, List.nodup_append]
    refine ⟨h.nd, by simp, fun x hx y hy e => ?_⟩
    rw [List.mem_singleton.mp hy] at e
    rw [e] at hx
    exact h1 hx
  · rcases List.mem_append.mp hk with q | q
    · exact h.rng k q
    · rw [List.mem_singleton.mp q]
      exact h2
  · rw [List.filter_append, List.length_append]
    by_cases hf : l.2.1 = f
    · rw [← hf]
      have := List.length_filter_le (fun k : Look3 => k.2.1 == l.2.1) [l]
      simp only [List.length_singleton] at this
      omega
    · have hb2 : (l.2.1 == f) = false := by rw [beq_eq_false_iff_ne]; exact hf
      rw [List.filter_cons, hb2]
      simp
      exact h.four f
theorem perm_paired {α β : Type} {R : α → β → Prop} {ys xs : List α} (p : ys.Perm xs) : ∀ {L : List β}, Paired R xs L → ∃ L', L'.Perm L ∧ Paired R ys L' := by
  induction p with
  | nil => intro L h; exact ⟨L, .refl _, h⟩
  | cons x _ ih =>
    intro L h
    cases h with
    | cons r t =>
      obtain ⟨L', p', q⟩ := ih t
      exact ⟨_, p'.cons _, .cons r q⟩
  | swap x y l =>
    intro L h
    cases h with
    | cons r t =>
      cases t with
      | cons r2 t => exact ⟨_, .swap _ _ _, .cons r2 (.cons r t)⟩
  | trans _ _ ih1 ih2 =>
    intro L h
    obtain ⟨L1, p1, q1⟩ := ih2 h
    obtain ⟨L2, p2, q2⟩ := ih1 q1
    exact ⟨L2, p2.trans p1, q2⟩
theorem paired_pw {α β : Type} {R : α → β → Prop} {S : α → α → Prop} {T : β → β → Prop} (h : ∀ x y a b, R x a → R y b → S x y → T a b) : ∀ {ys : List α} {L : List β}, Paired R ys L → ys.Pairwise S → L.Pairwise T
  | _, _, .nil, _ => .nil
  | x :: ys, a :: L, .cons r t, p => by
    obtain ⟨p1, p2⟩ := List.pairwise_cons.mp p
    refine List.pairwise_cons.mpr ⟨fun b hb => ?_, paired_pw h t p2⟩
    obtain ⟨i, hi, rfl⟩ := List.getElem_of_mem hb
    obtain ⟨y, hy, ry⟩ := paired_get t (List.getElem?_eq_getElem hi)
    exact h x y _ _ r ry (p1 y (List.mem_of_getElem? hy))
/-- a key as a value -/
def KyAt (H : Hp) (y : V) (l : Look3) : Prop := ∃ b, y = .ref b ∧ H b = some (.tup [.int l.1, .int l.2.1])
theorem keys_ky {H : Hp} : ∀ {L : List Look3} {bs : List Addr}, IsKeys H (kvOf L) bs → Paired (KyAt H) (bs.map V.ref) L
  | [], _, .nil => .nil
  | l :: L, _, .cons r t => .cons ⟨_, rfl, r⟩ (keys_ky t)
section
variable {P : Program} {w : World} {K : PySem.W.Frag} {mg : Str → Option Value} {base : Heap} {Ps : List Addr}
theorem ok_law_web {f : Addr} {fd : FuncData} (F : Fun K "_law_web" "_law_web" s__law_web f fd) (B : Blt mg) (c__law_taken : Cal P w K mg base CX0 1 "_law_taken" ["row", "many"] (spTaken K)) : FnOk P w K mg base CX0 2 f fd ["row", "folk", "most", "looks"] (spLawWeb K) := by
  refine F.ok sc__law_web (fun vs H Q E h => ?_) (fun cdv A outer s0 H vs Q E hr h => ?_)
  · obtain ⟨r, sc, ns, n, most, looks, rfl, _⟩ := h
    rfl
  · obtain ⟨r, sc, ns, n, most, looks, rfl, hR, hn, hmost, hlooks, k⟩ := h
    refine ⟨_, (pss_cons (ps_asg (pe_tup (pa_cons (pe_tupleL (by rfl) B.tuple (pe_lc (own := [("one", 4)]) rfl sc__law_web.nd (pi_range1 (by rfl) B.range (pa_cons (pv 1) pa_nil)) (blkOk_by (N := ["row", "folk", "most", "looks", "one", "tops", "found", "seen", "turn", "other", "sign", "key"]) (sc := defScope s__law_web) (by decide +kernel)) (fun _ _ _ _ _ => (pg_name (i := 4) sc__law_web.nd rfl (by first | exact Or.inl rfl | exact Or.inr rfl))) (fun _ _ _ _ _ => pts_nil) (fun _ _ _ _ _ => (pe_op op_add pe_int (pe_c0 c__law_taken (hr.mono (by decide)) (by rfl) (pa_cons (pv 0) (pa_cons (pv 2) pa_nil))))))) (pa_cons pe_dnewT (pa_cons (pe_op op_rep (pe_lst (pa_cons pe_int pa_nil)) (pv 1)) pa_nil)))) (pg_tupT (n := 3) rfl (pgs_cons (pg_name (i := 5) sc__law_web.nd rfl (by first | exact Or.inl rfl | exact Or.inr rfl)) (pgs_cons (pg_name (i := 6) sc__law_web.nd rfl (by first | exact Or.inl rfl | exact Or.inr rfl)) (pgs_cons (pg_name (i := 7) sc__law_web.nd rfl (by first | exact Or.inl rfl | exact Or.inr rfl)) pgs_nil)))))
      (pss_cons (ps_for PassesOwn.never rfl (pi_range1 (by rfl) B.range (pa_cons (pe_c0 c__law_taken (hr.mono (by decide)) (by rfl) (pa_cons (pv 0) (pa_cons (pe_op op_add (pv 3) pe_int) pa_nil))) pa_nil)) (pg_name (i := 8) sc__law_web.nd rfl (by first | exact Or.inl rfl | exact Or.inr rfl))
        (pss_cons (ps_par (i := 4) (j := 9) rfl sc__law_web.nd rfl rfl (by decide) rfl rfl (pa_cons (pe_c0 c__law_taken (hr.mono (by decide)) (by rfl) (pa_cons (pv 0) (pa_cons (pv 1) pa_nil))) (pa_cons (pe_c0 c__law_taken (hr.mono (by decide)) (by rfl) (pa_cons (pv 0) (pa_cons (pv 1) pa_nil))) pa_nil)) (by rfl))
        (pss_cons (ps_set (i := 10) sc__law_web.nd rfl (by first | exact Or.inl rfl | exact Or.inr rfl) (pe_ix ix_lT (pe_lst (pa_cons pe_int (pa_cons (pe_un un_neg pe_int) pa_nil))) (pe_c0 c__law_taken (hr.mono (by decide)) (by rfl) (pa_cons (pv 0) (pa_cons pe_int pa_nil))) (fun _ _ => rfl)))
        (pss_one (ps_if (PW.pt (pw_and (pt_cmp (pc_dnotin (hu_of hr) (pe_tup (pa_cons (pv 4) (pa_cons (pv 9) pa_nil))) (pv 6))) (pw_and (pt_cmpR op_lt (pe_ix ix_lT (pv 7) (pv 9) (fun _ _ => rfl)) pe_int (nomark _)) (pw_and1 (pt_cmpR op_lt (pe_callB call_lenT (by rfl) B.len PySem.boot_len (pa_cons (pe_callTy (call_list_dT rfl) (by rfl) B.list boot_tyList (pa_cons (pv 6) pa_nil)) pa_nil)) pe_int (nomark _))))))
          (pss_cons (ps_dput (hu_of hr) (pv 6) (pe_tup (pa_cons (pv 4) (pa_cons (pv 9) pa_nil))) (pv 10) rfl)
          (pss_one (ps_asg (pe_op op_add (pe_ix ix_lT (pv 7) (pv 9) (fun _ _ => rfl)) pe_int) (pg_sub (pv 7) (pv 9) set_list)))) pss_nil)))))
      (pss_one (ps_ret (pe_tup (pa_cons (pv 5) (pa_cons (pe_tupleL (by rfl) B.tuple (pe_lc (own := [("key", 11)]) rfl sc__law_web.nd (pi_list (pe_callB (cr_sortT (d := 2) (B := 64) (by decide)) (by rfl) B.sorted boot_sorted (pa_cons (pe_callTy (call_list_dT rfl) (by rfl) B.list boot_tyList (pa_cons (pv 6) pa_nil)) pa_nil))) (blkOk_by (N := ["row", "folk", "most", "looks", "one", "tops", "found", "seen", "turn", "other", "sign", "key"]) (sc := defScope s__law_web) (by decide +kernel)) (fun _ _ _ _ _ => (pg_name (i := 11) sc__law_web.nd rfl (by first | exact Or.inl rfl | exact Or.inr rfl))) (fun _ _ _ _ _ => pts_nil) (fun _ _ _ _ _ => (pe_op op_catTT (pv 11) (pe_tup (pa_cons (pe_dget (hu_of hr) (pv 6) (pv 11) (fun _ _ => rfl)) pa_nil)))))) pa_nil))))))), ?_⟩
    refine ⟨_, rfl, n, rfl, by omega, by omega, fun D hD => ?_⟩
    have hDr := hR.ne_none hD
    have en : ((n : Nat) : Int).toNat = n := by omega
    rw [en]
    refine lc_range (lo := 0) (n := n) (fun i H' => ∃ ts, H' D = some (.lst (iv ts)) ∧ ExtB r H H' ∧ Rw K H' r sc ns ∧ ts.length = i ∧ ∀ t ∈ ts, 1 ≤ t ∧ t ≤ most) ⟨[], upd_same, (Ext.new hD _).b, hR.new hD _, rfl, (fun _ h => by cases h)⟩ (fun i H' hi ⟨ts, h1, e1, R1, l1, b1⟩ => ?_) fun H1 ⟨ts, h1, e1, R1, l1, b1⟩ => ?_
    · refine ⟨rfl, yes ?_⟩
      refine ⟨_, rfl, _, rfl, r, sc, ns, _, rfl, R1, ⟨by omega, by omega⟩, fun H2 m e2 R2 same hm => ?_⟩
      refine ⟨_, _, rfl, rfl, iv ts, same_at same hDr h1, by rw [iv_len]; exact small1000 (by omega), ts ++ [1 + m], ?_, (e1.trans e2).put hD _, R2.put hR hD _, by rw [List.length_append, l1]; rfl, fun t ht => ?_⟩
      · rw [upd_same]
        unfold iv
        rw [List.map_append]
        rfl
      · rcases List.mem_append.mp ht with q | q
        · exact b1 t q
        · rw [List.mem_singleton.mp q]
          omega
    refine ⟨D, _, rfl, h1, fun tu htu => ?_⟩
    refine fun d hd => ?_
    refine ⟨(by show 1 ≤ sizeLine; decide), fun z hz => ?_⟩
    refine ⟨_, rfl, z, _, _, rfl, rfl, upd_same, by omega, by omega, by rw [en]; exact Nat.le_of_lt (small1000 (by simp only [List.length_singleton]; omega)), fun s hs => ?_⟩
    refine ⟨(by show 3 ≤ sizeLine; decide), fun u hu => ⟨u, _, rfl, upd_same, rfl, _, _, rfl, _, _, rfl, _, _, rfl, rfl, ?_⟩⟩
    have erep : (List.replicate ((n : Nat) : Int).toNat [V.int 0]).flatten = iv (cntOf n []) := by
      rw [en]
      refine List.ext_getElem? fun j => ?_
      unfold iv cntOf
      rw [List.flatten_replicate_singleton, List.getElem?_map, List.getElem?_map, List.getElem?_replicate]
      by_cases hj : j < n
      · rw [if_pos hj, List.getElem?_range hj]
        rfl
      · rw [if_neg hj, List.getElem?_eq_none (by rw [List.length_range]; omega)]
        rfl
    rw [erep] at hu ⊢
    generalize hH2 : L2.upd _ tu _ = H2 at hd hz hs hu ⊢
    have ed : H2 d = none := hd
    generalize hH3 : L2.upd H2 d _ = H3 at hz hs hu ⊢
    have ez : H3 z = none := hz
    generalize hH4 : L2.upd H3 z _ = H4 at hs hu ⊢
    have es : H4 s = none := hs
    generalize hH5 : L2.upd H4 s _ = H5 at hu ⊢
    have X2 : Ext H1 H2 := by rw [← hH2]; exact Ext.new htu _
    have X3 : Ext H2 H3 := by rw [← hH3]; exact Ext.new ed _
    have X4 : Ext H3 H4 := by rw [← hH4]; exact Ext.new ez _
    have X5 : Ext H4 H5 := by rw [← hH5]; exact Ext.new es _
    have X6 : Ext H5 (L2.upd H5 u (.tup [.ref tu, .ref d, .ref s])) := Ext.new hu _
    have E6 : ExtB r H (L2.upd H5 u (.tup [.ref tu, .ref d, .ref s])) := e1.trans ((((X2.trans X3).trans X4).trans X5).trans X6).b
    have R6 : Rw K (L2.upd H5 u (.tup [.ref tu, .ref d, .ref s])) r sc ns := R1.ext ((((X2.trans X3).trans X4).trans X5).trans X6)
    have t6 : L2.upd H5 u (.tup [.ref tu, .ref d, .ref s]) tu = some (.tup (iv ts)) := (((X3.trans X4).trans X5).trans X6).tup (by rw [← hH2]; exact upd_same)
    have d3 : H3 d = some (.dT []) := by rw [← hH3]; exact upd_same
    have d6 : L2.upd H5 u (.tup [.ref tu, .ref d, .ref s]) d = some (.dT []) := ((X4.trans X5).trans X6).keep _ _ d3 rfl
    have s6 : L2.upd H5 u (.tup [.ref tu, .ref d, .ref s]) s = some (.lst (iv (cntOf n []))) := X6.lst (by rw [← hH5]; exact upd_same)
    have d0 : H d = none := e1.free (X2.free ed)
    have s0' : H s = none := e1.free (X2.free (X3.free (X4.free es)))
    have htd : tu ≠ d := ne_of t6 d6 (by intro q; cases q)
    have hts : tu ≠ s := ne_of t6 s6 (by intro q; cases q)
    have hds : d ≠ s := ne_of d6 s6 (by intro q; cases q)
    have hdr := hR.ne_none d0
    have hsr := hR.ne_none s0'
    have htr : tu ≠ r := by
      have : H1 tu = none := htu
      exact R1.ne_none this
    clear hH2 hH3 hH4 hH5 X2 X3 X4 X5 X6 erep
    generalize L2.upd H5 u (.tup [.ref tu, .ref d, .ref s]) = H6 at E6 R6 t6 d6 s6 ⊢
    refine ⟨_, rfl, _, rfl, _, _, rfl, rfl, r, sc, ns, _, rfl, R6, ⟨by omega, by omega⟩, fun H7 m E7 R7 same7 hm => ?_⟩
    refine ⟨_, rfl, by omega, by omega, for_range (lo := 0) (n := m.toNat) (fun i σ H' => ∃ (L : List Look3) (o4 o8 o9 o10 o11 : Option V), σ = [some (.ref r), some (.int n), some (.int most), some (.int looks), o4, some (.ref tu), some (.ref d), some (.ref s), o8, o9, o10, o11] ∧ ExtB r H H' ∧ Rw K H' r sc ns ∧ H' tu = some (.tup (iv ts)) ∧ H' d = some (.dT (kvOf L)) ∧ H' s = some (.lst (iv (cntOf n L))) ∧ FdOk n L)
      ⟨[], _, _, _, _, _, rfl, E6.trans E7, R7, E7.keep _ _ htr t6 rfl, same_at same7 hdr d6, same_at same7 hsr s6, .nil n⟩ ?_ ?_⟩
    · rintro i σ H8 hi ⟨L, o4, o8, o9, o10, o11, rfl, e8, R8, t8, d8, s8, ok8⟩
      refine ⟨_, rfl, _, rfl, r, sc, ns, _, rfl, R8, ⟨by omega, by omega⟩, fun H9 a E9 R9 same9 ha => ?_⟩
      refine ⟨_, rfl, _, rfl, r, sc, ns, _, rfl, R9, ⟨by omega, by omega⟩, fun HA b EA RA sameA hb => ?_⟩
      refine ⟨_, _, rfl, ?_⟩
      refine ⟨_, rfl, (by show 2 ≤ sizeLine; decide), fun q hq => ?_⟩
      refine ⟨_, rfl, r, sc, ns, _, rfl, RA.new hq _, ⟨by decide, by decide⟩, fun HB g EB RB sameB hg => ?_⟩
      have hqr := RA.ne_none hq
      have q8 : HB q = some (.lst [.int 1, .int (-1)]) := same_at sameB hqr upd_same
      have tB := EB.keep _ _ htr ((Ext.new hq (.lst [.int 1, .int (-1)])).keep _ _ (EA.keep _ _ htr (E9.keep _ _ htr t8 rfl) rfl) rfl) rfl
      have dA : HA d = some (.dT (kvOf L)) := same_at sameA hdr (same_at same9 hdr d8)
      have sA : HA s = some (.lst (iv (cntOf n L))) := same_at sameA hsr (same_at same9 hsr s8)
      have dB : HB d = some (.dT (kvOf L)) := same_at sameB hdr ((Ext.new hq (.lst [.int 1, .int (-1)])).keep _ _ dA rfl)
      have sB : HB s = some (.lst (iv (cntOf n L))) := same_at sameB hsr ((Ext.new hq (.lst [.int 1, .int (-1)])).keep _ _ sA rfl)
      have eB : ExtB r H HB := ((e8.trans E9).trans EA).trans ((Ext.new hq _).b.trans EB)
      obtain ⟨sg, hsg, hat⟩ : ∃ sg : Int, (sg = 1 ∨ sg = -1) ∧ atI [V.int 1, V.int (-1)] g = some (.int sg) := by
        rcases (by omega : g = 0 ∨ g = 1) with e | e <;> subst e
        · exact ⟨1, .inl rfl, rfl⟩
        · exact ⟨-1, .inr rfl, rfl⟩
      refine ⟨q, _, _, _, rfl, rfl, q8, hat, ?_⟩
      refine ⟨_, rfl, _, rfl, (by show 2 ≤ sizeLine; decide), fun y hy => ?_⟩
      have XC := Ext.new hy (.tup [.int a, .int b])
      have tC := XC.tup tB
      have dC := XC.keep _ _ dB rfl
      have sC := XC.lst sB
      have RC := RB.ext XC
      have eC := eB.trans XC.b
      have inv0 : ∀ (H' : Hp) (L' : List Look3), ExtB r H H' → Rw K H' r sc ns → H' tu = some (.tup (iv ts)) → H' d = some (.dT (kvOf L')) → H' s = some (.lst (iv (cntOf n L'))) → FdOk n L' →
          ∃ (L : List Look3) (p4 p8 p9 p10 p11 : Option V), ([some (.ref r), some (.int n), some (.int most), some (.int looks), some (.int a), some (.ref tu), some (.ref d), some (.ref s), some (.int (0 + (i : Int))), some (.int b), some (.int sg), o11] : L2.St) = [some (.ref r), some (.int n), some (.int most), some (.int looks), p4, some (.ref tu), some (.ref d), some (.ref s), p8, p9, p10, p11] ∧ ExtB r H H' ∧ Rw K H' r sc ns ∧ H' tu = some (.tup (iv ts)) ∧ H' d = some (.dT (kvOf L)) ∧ H' s = some (.lst (iv (cntOf n L))) ∧ FdOk n L :=
        fun H' L' h1 h2 h3 h4 h5 h6 => ⟨L', _, _, _, _, _, rfl, h1, h2, h3, h4, h5, h6⟩
      refine ⟨_, rfl, d, valV (kvOf L) [Sum.inl a, Sum.inl b], rfl, .inr ⟨kvOf L, _, y, .inl dC, rfl, upd_same, rfl⟩, _, rfl, ?_⟩
      cases ev : valV (kvOf L) [Sum.inl a, Sum.inl b] with
      | some v => exact iteF (inv0 _ L eC RC tC dC sC ok8)
      | none =>
        refine iteT ?_
        have hbn : 0 ≤ b ∧ b < n := by omega
        refine ⟨_, rfl, _, rfl, s, _, _, _, rfl, rfl, sC, at_of (j := b.toNat) (by omega) (iv_at (cntOf_at hbn.1 hbn.2)), _, _, rfl, rfl, _, rfl, ?_⟩
        by_cases h4 : (((L.filter fun l => l.2.1 == b).length : Nat) : Int) < 4
        · rw [decide_eq_true h4]
          refine iteT ?_
          refine ⟨_, rfl, d, kvOf L, rfl, .inl dC, fun p bs hp hk => ?_⟩
          have XD := Ext.new hp (.lst (bs.map V.ref))
          have lbs : (bs.map V.ref).length = L.length := by rw [paired_len (keys_ky hk)]
          refine ⟨p, _, rfl, .inl upd_same, _, _, rfl, rfl, _, rfl, ?_⟩
          rw [lbs]
          have tD := XD.tup tC
          have dD := XD.keep _ _ dC rfl
          have sD := XD.lst sC
          have RD := RC.ext XD
          have eD := eC.trans XD.b
          by_cases h14 : ((L.length : Nat) : Int) < 14
          · rw [decide_eq_true h14]
            refine iteT ?_
            refine ⟨_, rfl, _, rfl, _, rfl, _, rfl, (by show 2 ≤ sizeLine; decide), fun y2 hy2 => ?_⟩
            have XE := Ext.new hy2 (.tup [.int a, .int b])
            have dE := XE.keep _ _ dD rfl
            have lkv : (kvOf L).length = L.length := by unfold kvOf; rw [List.length_map]
            refine ⟨d, _, rfl, .inr ⟨kvOf L, [Sum.inl a, Sum.inl b], y2, dE, rfl, upd_same, by rw [lkv]; exact small1000 (by omega), rfl⟩, ?_⟩
            have ek : putK (kvOf L) [Sum.inl a, Sum.inl b] (V.int sg) = kvOf (L ++ [(a, b, sg)]) := by
              rw [putK_new _ ev]
              unfold kvOf
              rw [List.map_append]
              rfl
            rw [ek]
            have eE := (eD.trans XE.b).put d0 (.dT (kvOf (L ++ [(a, b, sg)])))
            have RE := (RD.ext XE).put hR d0 (.dT (kvOf (L ++ [(a, b, sg)])))
            have sE : L2.upd (L2.upd (L2.upd (L2.upd HB y (.tup [.int a, .int b])) p (.lst (bs.map V.ref))) y2 (.tup [.int a, .int b])) d (.dT (kvOf (L ++ [(a, b, sg)]))) s = some (.lst (iv (cntOf n L))) := by rw [upd_ne hds.symm]; exact XE.lst sD
            refine ⟨_, rfl, _, rfl, s, _, _, _, rfl, rfl, sE, at_of (j := b.toNat) (by omega) (iv_at (cntOf_at hbn.1 hbn.2)), _, _, rfl, rfl, ?_⟩
            refine ⟨_, rfl, _, rfl, s, _, _, b.toNat, rfl, rfl, sE, ?_, ?_⟩
            · rw [iv_len, cntOf_len]
              unfold ixN
              rw [if_pos hbn.1, if_pos hbn.2]
            · have es : (iv (cntOf n L)).set b.toNat (V.int ((((L.filter fun l => l.2.1 == b).length : Nat) : Int) + 1)) = iv (cntOf n (L ++ [(a, b, sg)])) := by
                rw [← cntOf_snoc (l := (a, b, sg)) hbn.1 hbn.2]
                unfold iv
                rw [List.map_set]
              rw [es]
              refine inv0 _ (L ++ [(a, b, sg)]) (eE.put s0' _) (RE.put hR s0' _) ?_ ?_ upd_same (ok8.snoc (kv_not ev) ⟨by omega, hbn, hsg⟩ (by omega) (by show (L.filter fun k => k.2.1 == b).length < 4; omega))
              · rw [upd_ne hts, upd_ne htd]
                exact XE.tup tD
              · rw [upd_ne hds, upd_same]
          · rw [decide_eq_false h14]
            exact iteF (inv0 _ L eD RD tD dD sD ok8)
        · rw [decide_eq_false h4]
          exact iteF (inv0 _ L eC RC tC dC sC ok8)
    · rintro σ H8 ⟨L, o4, o8, o9, o10, o11, rfl, e8, R8, t8, d8, s8, ok8⟩
      refine ⟨_, rfl, _, rfl, d, kvOf L, rfl, .inl d8, fun p bs hp hk => ?_⟩
      have XA := Ext.new hp (.lst (bs.map V.ref))
      have hky : Paired (KyAt (L2.upd H8 p (.lst (bs.map V.ref)))) (bs.map V.ref) L := paired_mono (fun x l ⟨b, e, h⟩ => ⟨b, e, XA.tup h⟩) (keys_ky hk)
      have lbs : (bs.map V.ref).length = L.length := paired_len hky
      refine ⟨p, _, rfl, SqL.of upd_same, by rw [lbs]; have := ok8.len; omega, fun x hx => ?_, fun ys q perm pw hq => ?_⟩
      · obtain ⟨i, hi, rfl⟩ := List.getElem_of_mem hx
        obtain ⟨l, hl, b, e, hb⟩ := paired_get' hky (List.getElem?_eq_getElem hi)
        have h1 := ok8.rng l (List.mem_of_getElem? hl)
        rw [e]
        refine ⟨[l.1, l.2.1], ⟨b, rfl, SqT.of hb⟩, rfl, fun m hm => ?_⟩
        rcases List.mem_cons.mp hm with h | hm
        · omega
        · rw [List.mem_singleton.mp hm]
          omega
      obtain ⟨L', pL, hys⟩ := perm_paired perm hky
      have rng' : ∀ l ∈ L', (0 ≤ l.1 ∧ l.1 < n) ∧ (0 ≤ l.2.1 ∧ l.2.1 < n) ∧ (l.2.2 = 1 ∨ l.2.2 = -1) := fun l hl => ok8.rng l (pL.mem_iff.mp hl)
      have pw1 : L'.Pairwise fun k l => TS.code 64 [k.1, k.2.1] ≤ TS.code 64 [l.1, l.2.1] := paired_pw (fun x y k l ⟨b, e1, h1⟩ ⟨c, e2, h2⟩ hs => hs _ _ ⟨b, e1, SqT.of h1⟩ ⟨c, e2, SqT.of h2⟩) hys pw
      have nd' : (L'.map fun l => (l.1, l.2.1)).Nodup := (pL.map _).nodup_iff.mpr ok8.nd
      have asc : L'.Pairwise fun k l => k.1 < l.1 ∨ k.1 = l.1 ∧ k.2.1 < l.2.1 := by
        refine List.Pairwise.imp_of_mem (fun {k l} hk hl h => ?_) (pw1.and (List.pairwise_map.mp nd'))
        have g1 := rng' k hk
        have g2 := rng' l hl
        refine pair_lt h.1 (fun e => h.2 ?_) ⟨by omega, by omega⟩ ⟨by omega, by omega⟩ ⟨by omega, by omega⟩ ⟨by omega, by omega⟩
        injection e with e1 e2
        injection e2 with e2
        rw [e1, e2]
      have lL : L'.length = L.length := pL.length_eq
      have l14 := ok8.len
      have Wok : Web.Ok ⟨ts, L'⟩ := by
        refine ⟨by show 1 ≤ ts.length; omega, by show ts.length ≤ 6; omega, fun t ht => by have := b1 t ht; omega, by show L'.length ≤ 14; omega, fun l hl => ?_, asc, fun f => ?_⟩
        · have := rng' l hl
          have e : ts.length = n := l1
          show (0 ≤ l.1 ∧ l.1 < (ts.length : Int)) ∧ (0 ≤ l.2.1 ∧ l.2.1 < (ts.length : Int)) ∧ _
          rw [e]
          exact this
        · show ((L'.map fun l => l.2.1).filter fun o => o == f).length ≤ 4
          rw [List.filter_map, List.length_map, (pL.filter _).length_eq]
          exact ok8.four f
      have XB := XA.trans (Ext.new hq (.lst ys))
      have hys2 : Paired (KyAt (L2.upd (L2.upd H8 p (.lst (bs.map V.ref))) q (.lst ys))) ys L' := paired_mono (fun x l ⟨b, e, h⟩ => ⟨b, e, (Ext.new hq (.lst ys)).tup h⟩) hys
      refine ⟨q, rfl, ⟨_, SqL.of upd_same⟩, fun D2 hD2 => ?_⟩
      have lys : ys.length = L'.length := paired_len hys
      generalize hHB : L2.upd (L2.upd H8 p (.lst (bs.map V.ref))) q (.lst ys) = HB at XB hys2 hD2 ⊢
      have hqB : HB q = some (.lst ys) := by rw [← hHB]; exact upd_same
      clear hHB
      refine lc_list (K := K) (a := q) (xs := ys) (fun i H' => ∃ acc, H' D2 = some (.lst acc) ∧ Ext HB H' ∧ acc.length = i ∧ Paired (TI H') acc ((L'.take i).map row3)) ⟨[], upd_same, Ext.new hD2 _, rfl, by simpa using Paired.nil⟩ (fun i H' _ ⟨_, _, e, _⟩ => SqL.of (e.lst hqB)) (fun i x H' hi ⟨acc, hacc, e, hl, hpa⟩ => ?_) fun H' ⟨acc, hacc, e, hl, hpa⟩ => ?_
      · obtain ⟨l, hlk, b, rfl, hb⟩ := paired_get' hys2 hi
        have hlL : l ∈ L := pL.mem_iff.mp (List.mem_of_getElem? hlk)
        have hi14 : i < L'.length := (List.getElem?_eq_some_iff.mp hlk).1
        refine ⟨rfl, yes ?_⟩
        refine ⟨_, rfl, _, rfl, _, rfl, d, .int l.2.2, rfl, .inr ⟨kvOf L, [Sum.inl l.1, Sum.inl l.2.1], b, .inl ((XB.trans e).keep _ _ d8 rfl), rfl, e.tup hb, (kv_get ok8.nd hlL).symm⟩, (by show 1 ≤ sizeLine; decide), fun w hw => ?_⟩
        have hb' := e.tup hb
        have hbw : b ≠ w := ne_of_none hb' hw
        refine ⟨b, w, [.int l.1, .int l.2.1], [.int l.2.2], rfl, rfl, by rw [upd_ne hbw]; exact hb', upd_same, (by show 3 ≤ sizeLine; decide), (fun h => by cases h), (fun _ h => by cases h), fun _ _ x hx => ?_⟩
        have EE := (Ext.new hw (.tup [V.int l.2.2])).trans (Ext.new hx (.tup ([.int l.1, .int l.2.1] ++ [.int l.2.2])))
        have hac := EE.lst hacc
        refine ⟨acc, hac, small1000 (by omega), acc ++ [.ref x], upd_same, (e.trans EE).put hD2 _, by rw [List.length_append, hl]; rfl, ?_⟩
        rw [take_snoc hlk, List.map_append]
        exact pTI.put hac (fun _ _ h => h) (paired_snoc ⟨x, rfl, upd_same⟩ (pTI.ext EE hpa))
      · rw [lys, List.take_length] at hpa
        refine ⟨D2, acc, rfl, hacc, fun v hv => ⟨(by show 2 ≤ sizeLine; decide), fun wv hwv => ?_⟩⟩
        have EV := (XB.trans e).trans ((Ext.new hv (.tup acc)).trans (Ext.new hwv (.tup [.ref tu, .ref v])))
        refine k _ _ ⟨ts, L'⟩ (e8.trans EV.b) (R8.ext EV) ⟨wv, .ref tu, .ref v, rfl, upd_same, ⟨tu, rfl, EV.tup t8⟩, ⟨v, acc, rfl, ?_, pTI.ext ((Ext.new hv _).trans (Ext.new hwv _)) hpa⟩⟩ Wok l1 fun t ht => (b1 t ht).2
        exact (Ext.new hwv _).tup upd_same
end
end Lk

/-! ## D25 -/
set_option Elab.async false
set_option linter.all false
set_option maxRecDepth 100000
set_option maxHeartbeats 2000000
namespace Lk
open PySem PySem.Spec PyProof.Rows L2 Gx
open GxR (TabG Tabbed TabB)
variable [Own]
abbrev s__law_state : Stmt := top 49
theorem sc__law_state : FnScope ["row", "web", "top"] ["row", "web"] (defScope s__law_state) := ⟨rfl, rfl, rfl, by decide +kernel, rfl, by decide +kernel, by decide +kernel⟩
def spLawState (K : PySem.W.Frag) : Sp := fun vs H Q _ => ∃ (r sc : Addr) (ns : List Int) (v : V) (W : Web), vs = [.ref r, v] ∧ Rw K H r sc ns ∧ WebAt H v W ∧ W.Ok ∧
  ∀ H' u st, ExtB r H H' → Rw K H' r sc ns → H u = none → H' u = some (.tup (iv st)) → StOk W st → Q (.ref u) H'
section
variable {P : Program} {w : World} {K : PySem.W.Frag} {mg : Str → Option Value} {base : Heap} {Ps : List Addr}
theorem ok_law_state {f : Addr} {fd : FuncData} (F : Fun K "_law_state" "_law_state" s__law_state f fd) (B : Blt mg) (c__law_taken : Cal P w K mg base CX0 1 "_law_taken" ["row", "many"] (spTaken K)) : FnOk P w K mg base CX0 2 f fd ["row", "web"] (spLawState K) := by
  refine F.ok sc__law_state (fun vs H Q E h => ?_) (fun cdv A outer s0 H vs Q E hr h => ?_)
  · obtain ⟨r, sc, ns, v, W, rfl, _⟩ := h
    rfl
  · obtain ⟨r, sc, ns, v, W, rfl, hR, ⟨a, t, l, rfl, ha, ⟨tt, rfl, ht⟩, hl⟩, ok, k⟩ := h
    refine ⟨_, (pss_one (ps_ret (pe_tupleL (by rfl) B.tuple (pe_lc (own := [("top", 2)]) rfl sc__law_state.nd (pi_tup (pe_ix ix_tT (pv 1) pe_int (fun _ _ => rfl))) (blkOk_by (N := ["row", "web", "top"]) (sc := defScope s__law_state) (by decide +kernel)) (fun _ _ _ _ _ => (pg_name (i := 2) sc__law_state.nd rfl (by first | exact Or.inl rfl | exact Or.inr rfl))) (fun _ _ _ _ _ => pts_nil) (fun _ _ _ _ _ => (pe_c0 c__law_taken (hr.mono (by decide)) (by rfl) (pa_cons (pv 0) (pa_cons (pe_op op_add (pv 2) pe_int) pa_nil)))))))), ?_⟩
    have h6 := ok.few
    refine ⟨_, rfl, a, _, _, _, rfl, rfl, ha, rfl, tt, rfl, ⟨_, SqT.of ht⟩, fun D hD => ?_⟩
    have hDr := hR.ne_none hD
    refine lc_tup (K := K) (a := tt) (xs := iv W.tops) (fun i H' => ∃ st, H' D = some (.lst (iv st)) ∧ ExtB r H H' ∧ Rw K H' r sc ns ∧ st.length = i ∧ ∀ j, j < i → 0 ≤ st.getD j 0 ∧ st.getD j 0 ≤ W.tops.getD j 0) ⟨[], upd_same, (Ext.new hD _).b, hR.new hD _, rfl, fun j hj => by omega⟩ (fun i H' _ ⟨_, _, e, _⟩ => SqT.of (hR.tup e ht)) (fun i x H' hi ⟨st, h1, e1, R1, l1, b1⟩ => ?_) fun H' ⟨st, h1, e1, R1, l1, b1⟩ => ?_
    · obtain ⟨t, et, rfl⟩ := iv_get hi
      have tb := ok.tops t (List.mem_of_getElem? et)
      have hi6 : i < W.tops.length := (List.getElem?_eq_some_iff.mp et).1
      refine ⟨rfl, yes ?_⟩
      refine ⟨_, rfl, _, rfl, _, _, rfl, rfl, r, sc, ns, _, rfl, R1, ⟨by omega, by omega⟩, fun H2 m e2 R2 same hm => ?_⟩
      refine ⟨iv st, same_at same hDr h1, by rw [iv_len]; exact small1000 (by omega), st ++ [m], ?_, (e1.trans e2).put hD _, R2.put hR hD _, by rw [List.length_append, l1]; rfl, fun j hj => ?_⟩
      · rw [upd_same]
        unfold iv
        rw [List.map_append]
        rfl
      · by_cases hj2 : j < i
        · rw [List.getD_eq_getElem?_getD, List.getElem?_append_left (by omega), ← List.getD_eq_getElem?_getD]
          exact b1 j hj2
        · have ej : j = i := by omega
          rw [ej, List.getD_eq_getElem?_getD, List.getElem?_append_right (by omega), l1, Nat.sub_self, List.getD_eq_getElem?_getD (l := W.tops), et]
          show 0 ≤ m ∧ m ≤ t
          omega
    · rw [iv_len] at l1 b1
      refine ⟨D, iv st, rfl, h1, fun u hu => ?_⟩
      exact k _ u st (e1.trans (Ext.new hu _).b) (R1.new hu _) (e1.free hu) upd_same ⟨l1, fun i h0 hi => b1 i.toNat (by omega)⟩
end
end Lk

/-! ## D27 -/
set_option Elab.async false
set_option linter.all false
set_option maxRecDepth 100000
set_option maxHeartbeats 2000000
namespace Lk
open PySem PySem.Spec PyProof.Rows L2 Gx
open GxR (TabG Tabbed TabB)
variable [Own]
abbrev s__law_rules : Stmt := top 48
theorem sc__law_rules : FnScope ["row", "web", "folk"] ["row", "web"] (defScope s__law_rules) := ⟨rfl, rfl, rfl, by decide +kernel, rfl, by decide +kernel, by decide +kernel⟩
def spLawRules (K : PySem.W.Frag) : Sp := fun vs H Q _ => ∃ (r sc : Addr) (ns : List Int) (v : V) (W : Web), vs = [.ref r, v] ∧ Rw K H r sc ns ∧ WebAt H v W ∧ W.Ok ∧
  ∀ H' u us ru, ExtB r H H' → Rw K H' r sc ns → H u = none → H' u = some (.tup us) → Paired (TI H') us ru → Ru0 W ru → firstBad W ru = none → Q (.ref u) H'
theorem bad_none {W : Web} {ru : List (List Int)} (h : ∀ f, f < W.tops.length → isTable W (f : Int) (ru.getD f []) = true) : firstBad W ru = none := by
  unfold firstBad
  rw [List.find?_eq_none]
  intro f hf
  rw [h f (List.mem_range.mp hf)]
  simp
theorem table_len {W : Web} (ok : W.Ok) {f : Int} {tb : List Int} (h : isTable W f tb = true) : tb.length ≤ 256 := by
  rw [isTable_iff ok] at h
  rw [h.1, ← rws_len, ← rowsAt_rws]
  exact (rowsAt_len ok f).2
section
variable {P : Program} {w : World} {K : PySem.W.Frag} {mg : Str → Option Value} {base : Heap} {Ps : List Addr}
theorem ok_law_rules {f : Addr} {fd : FuncData} (F : Fun K "_law_rules" "_law_rules" s__law_rules f fd) (B : Blt mg) (c__law_table : Cal P w K mg base CX0 3 "_law_table" ["row", "web", "folk"] (spLawTable K)) : FnOk P w K mg base CX0 4 f fd ["row", "web"] (spLawRules K) := by
  refine F.ok sc__law_rules (fun vs H Q E h => ?_) (fun cdv A outer s0 H vs Q E hr h => ?_)
  · obtain ⟨r, sc, ns, v, W, rfl, _⟩ := h
    rfl
  · obtain ⟨r, sc, ns, v, W, rfl, hR, hW, ok, k⟩ := h
    obtain ⟨a, t, l, rfl, ha, ⟨tt, rfl, ht⟩, hl⟩ := id hW
    refine ⟨_, (pss_one (ps_ret (pe_tupleL (by rfl) B.tuple (pe_lc (own := [("folk", 2)]) rfl sc__law_rules.nd (pi_range1 (by rfl) B.range (pa_cons (pe_callB call_lenT (by rfl) B.len PySem.boot_len (pa_cons (pe_ix ix_tT (pv 1) pe_int (fun _ _ => rfl)) pa_nil)) pa_nil)) (blkOk_by (N := ["row", "web", "folk"]) (sc := defScope s__law_rules) (by decide +kernel)) (fun _ _ _ _ _ => (pg_name (i := 2) sc__law_rules.nd rfl (by first | exact Or.inl rfl | exact Or.inr rfl))) (fun _ _ _ _ _ => pts_nil) (fun _ _ _ _ _ => (pe_c0 c__law_table (hr.mono (by decide)) (by rfl) (pa_cons (pv 0) (pa_cons (pv 1) (pa_cons (pv 2) pa_nil))))))))), ?_⟩
    have h6 := ok.few
    refine ⟨_, rfl, a, _, _, _, rfl, rfl, ha, rfl, tt, _, rfl, .inr ht, _, rfl, by omega, by rw [iv_len]; omega, fun D hD => ?_⟩
    have hDr := hR.ne_none hD
    have en : ((iv W.tops).length : Int).toNat = W.tops.length := by rw [iv_len]; omega
    rw [en]
    refine lc_range (lo := 0) (n := W.tops.length) (fun i H' => ∃ us ru, H' D = some (.lst us) ∧ ExtB r H H' ∧ Rw K H' r sc ns ∧ Paired (TI H') us ru ∧ ru.length = i ∧ ∀ j, j < i → isTable W (j : Int) (ru.getD j []) = true) ⟨[], [], upd_same, (Ext.new hD _).b, hR.new hD _, .nil, rfl, fun j hj => by omega⟩ (fun i H' hi ⟨us, ru, h1, e1, R1, p1, l1, b1⟩ => ?_) fun H' ⟨us, ru, h1, e1, R1, p1, l1, b1⟩ => ?_
    · have ei : (0 : Int) + (i : Int) = (i : Int) := Int.zero_add _
      rw [ei]
      refine ⟨rfl, yes ?_⟩
      refine ⟨_, rfl, _, rfl, _, rfl, r, sc, ns, _, W, _, rfl, R1, hR.web e1 hW, ok, ⟨by omega, by omega⟩, fun H2 u mks e2 R2 hu0 okm hu => ?_⟩
      have htb := table_ok ok (f := (i : Int)) ⟨by omega, by omega⟩ okm
      have hDH2 : H2 D = some (.lst us) := e2.lst hDr h1
      have hlen := paired_len p1
      refine ⟨us, hDH2, small1000 (by omega), us ++ [.ref u], ru ++ [tableOf (signsAt W i) (rowsAt W i) mks], upd_same, (e1.trans e2).put hD _, R2.put hR hD _, ?_, by rw [List.length_append, l1]; rfl, fun j hj => ?_⟩
      · exact pTI.put hDH2 (fun _ _ h => h) (paired_snoc ⟨u, rfl, hu⟩ (R1.pTI e2 p1))
      · by_cases hj2 : j < i
        · rw [List.getD_eq_getElem?_getD, List.getElem?_append_left (by omega), ← List.getD_eq_getElem?_getD]
          exact b1 j hj2
        · have ej : j = i := by omega
          rw [ej, List.getD_eq_getElem?_getD, List.getElem?_append_right (by omega), l1, Nat.sub_self]
          exact htb
    · refine ⟨D, us, rfl, h1, fun u hu => ?_⟩
      refine k _ u us ru (e1.trans (Ext.new hu _).b) (R1.new hu _) (e1.free hu) upd_same (pTI.ext (Ext.new hu _) p1) ⟨l1, fun t ht => ?_⟩ (bad_none b1)
      obtain ⟨j, hj, rfl⟩ := List.getElem_of_mem ht
      have := table_len ok (b1 j (by omega))
      rw [List.getD_eq_getElem?_getD, List.getElem?_eq_getElem hj] at this
      have : ru[j].length ≤ 256 := this
      omega
end
end Lk

/-! ## ForW -/
set_option Elab.async false
set_option linter.all false
set_option maxRecDepth 100000
set_option maxHeartbeats 2000000
namespace Lk
open PySem PySem.Spec PyProof.Rows L2 Gx
variable [Own]
/-- a for over any walk -/
theorem for_walk {J : It} {n : Nat} {G : Hp → Prop} {Y : Nat → Hp → V → Hp → Prop} (w : Walk J n G Y) {g : TG} {tb : TS} {D : Ends} {σ : L2.St} {H : Hp} (Pv : Nat → L2.St → Hp → Prop) (h0 : Pv 0 σ H) (hG : ∀ i σ H, i ≤ n → Pv i σ H → G H)
    (hs : ∀ i x σ H H', i < n → Pv i σ H → Y i H x H' → g x σ H' fun σ2 H2 => tb { nx := Pv (i + 1), rt := D.rt, bk := D.nx, ct := Pv (i + 1) } σ2 H2) (hd : ∀ σ H, Pv n σ H → D.nx σ H) :
    ∃ W : Nat → Nat → L2.St → Hp → Prop, (∃ m, W 0 m σ H) ∧ ∀ i m σ H, W i m σ H → J.stop i H ∧ D.nx σ H ∨ J.go i H ∧
      ∃ N : L2.St → Hp → Prop, (∀ σ' H', N σ' H' → ∃ m', m' < m ∧ W (i + 1) m' σ' H') ∧ ∀ x H', J.yld i H x H' → g x σ H' fun σ2 H2 => tb { nx := N, rt := D.rt, bk := D.nx, ct := N } σ2 H2 := by
  refine ⟨fun i m σ H => m = n - i ∧ i ≤ n ∧ Pv i σ H, ⟨n, by simp, Nat.zero_le _, h0⟩, ?_⟩
  rintro i m σ H ⟨rfl, hi, p⟩
  have q := hG i σ H hi p
  by_cases hlt : i < n
  · exact .inr ⟨w.goes i H hlt q, Pv (i + 1), fun σ' H' p' => ⟨n - (i + 1), by omega, rfl, hlt, p'⟩, fun x H' y => hs i x σ H H' hlt p (w.yields i H x H' hlt q y)⟩
  · have e : i = n := by omega
    subst e
    exact .inl ⟨w.stops H q, hd σ H p⟩
end Lk

/-! ## D29 -/
set_option Elab.async false
set_option linter.all false
set_option maxRecDepth 100000
set_option maxHeartbeats 2000000
namespace Lk
open PySem PySem.Spec PyProof.Rows L2 Gx
open GxR (TabG Tabbed TabB)
variable [Own]
abbrev s__law_is_table : Stmt := top 54
theorem sc__law_is_table : FnScope ["web", "folk", "table", "seen", "one", "sign", "rows", "signs", "at", "here", "k"] ["web", "folk", "table"] (defScope s__law_is_table) := ⟨rfl, rfl, rfl, by decide +kernel, rfl, by decide +kernel, by decide +kernel⟩
def spLawIsTable : Sp := fun vs H Q _ => ∃ (v t : V) (W : Web) (f : Int) (tb : List Int), vs = [v, .int f, t] ∧ WebAt H v W ∧ W.Ok ∧ (0 ≤ f ∧ f < W.tops.length) ∧ TI H t tb ∧ tb.length = pr (axes W (looksOf W f)) ∧ (∀ m ∈ tb, 0 ≤ m ∧ m ≤ topAt W f) ∧ ∀ H', Ext H H' → Q (.bl (isTable W f tb)) H'
/-- one pair of rows -/
def pairOk (W : Web) (f : Int) (tb : List Int) (i j : Nat) : Bool := !(lawGoes (signsAt W f) ((rowsAt W f).getD j []) ((rowsAt W f).getD i []) && decide (tb.getD i 0 < tb.getD j 0))
theorem signs_axes (W : Web) (f : Int) : (axes W (looksOf W f)).map (·.2) = signsAt W f := by
  unfold axes signsAt
  rw [List.map_map]
  rfl
theorem pairs_table {W : Web} (ok : W.Ok) {f : Int} {tb : List Int} (h1 : tb.length = pr (axes W (looksOf W f))) (h2 : ∀ m ∈ tb, 0 ≤ m ∧ m ≤ topAt W f) : isTable W f tb = true ↔ ∀ i, i < (rowsAt W f).length → ∀ j, j < (rowsAt W f).length → pairOk W f tb i j = true := by
  rw [isTable_iff ok]
  constructor
  · rintro ⟨_, _, h3⟩ i hi j hj
    unfold pairOk
    have e1 : (rws (axes W (looksOf W f)))[i]? = some ((rowsAt W f).getD i []) := by rw [← rowsAt_rws, List.getD_eq_getElem?_getD, List.getElem?_eq_getElem hi]; rfl
    have e2 : (rws (axes W (looksOf W f)))[j]? = some ((rowsAt W f).getD j []) := by rw [← rowsAt_rws, List.getD_eq_getElem?_getD, List.getElem?_eq_getElem hj]; rfl
    have := h3 j i _ _ e2 e1
    rw [signs_axes] at this
    cases hg : lawGoes (signsAt W f) ((rowsAt W f).getD j []) ((rowsAt W f).getD i []) with
    | false => rfl
    | true =>
      have := this hg
      have : tb.getD j 0 ≤ tb.getD i 0 := this
      rw [decide_eq_false (by omega)]
      rfl
  · intro h
    refine ⟨h1, h2, fun p q xp xq e1 e2 g => ?_⟩
    rw [← rowsAt_rws] at e1 e2
    have l1 := (List.getElem?_eq_some_iff.mp e1).1
    have l2 := (List.getElem?_eq_some_iff.mp e2).1
    have := h q l2 p l1
    unfold pairOk at this
    have g1 : (rowsAt W f).getD p [] = xp := by rw [List.getD_eq_getElem?_getD, e1]; rfl
    have g2 : (rowsAt W f).getD q [] = xq := by rw [List.getD_eq_getElem?_getD, e2]; rfl
    rw [signs_axes] at g
    rw [g1, g2, g, Bool.true_and, Bool.not_eq_true', decide_eq_false_iff_not] at this
    show tb.getD p 0 ≤ tb.getD q 0
    omega
section
variable {P : Program} {w : World} {K : PySem.W.Frag} {mg : Str → Option Value} {base : Heap} {Ps : List Addr}
theorem ok_law_is_table {f : Addr} {fd : FuncData} (F : Fun K "_law_is_table" "_law_is_table" s__law_is_table f fd) (B : Blt mg)
    (c__law_seen : Cal P w K mg base CX0 1 "_law_seen" ["web", "folk"] spLawSeen) (c__law_moods : Cal P w K mg base CX0 1 "_law_moods" ["tops"] spLawMoods) (c__law_goes : Cal P w K mg base CX0 1 "_law_goes" ["signs", "one", "other"] spLawGoes) : FnOk P w K mg base CX0 2 f fd ["web", "folk", "table"] spLawIsTable := by
  refine F.ok sc__law_is_table (fun vs H Q E h => ?_) (fun cdv A outer s0 H vs Q E hr h => ?_)
  · obtain ⟨v, t, W, n, tb, rfl, _⟩ := h
    rfl
  · obtain ⟨v, t, W, n, tb, rfl, hW, ok, hn, ⟨ta, rfl, hta⟩, ltb, btb, k⟩ := h
    obtain ⟨a, t, l, rfl, ha, ⟨tt, rfl, ht⟩, hl⟩ := id hW
    refine ⟨_, (pss_cons (ps_set (i := 3) sc__law_is_table.nd rfl (by first | exact Or.inl rfl | exact Or.inr rfl) (pe_c0 c__law_seen (hr.mono (by decide)) (by rfl) (pa_cons (pv 0) (pa_cons (pv 1) pa_nil))))
      (pss_cons (ps_par (i := 6) (j := 7) rfl sc__law_is_table.nd rfl rfl (by decide) rfl rfl (pa_cons (pe_c0 c__law_moods (hr.mono (by decide)) (by rfl) (pa_cons (pe_lc (own := [("one", 4), ("sign", 5)]) rfl sc__law_is_table.nd (pi_list (pv 3)) (blkOk_by (N := ["web", "folk", "table", "seen", "one", "sign", "rows", "signs", "at", "here", "k"]) (sc := defScope s__law_is_table) (by decide +kernel)) (fun _ _ _ _ _ => (pg_tupT (n := 2) rfl (pgs_cons (pg_name (i := 4) sc__law_is_table.nd rfl (by first | exact Or.inl rfl | exact Or.inr rfl)) (pgs_cons (pg_name (i := 5) sc__law_is_table.nd rfl (by first | exact Or.inl rfl | exact Or.inr rfl)) pgs_nil)))) (fun _ _ _ _ _ => pts_nil) (fun _ _ _ _ _ => (pe_ix ix_tT (pe_ix ix_tT (pv 0) pe_int (fun _ _ => rfl)) (pv 4) (fun _ _ => rfl)))) pa_nil)) (pa_cons (pe_lc (own := [("one", 4), ("sign", 5)]) rfl sc__law_is_table.nd (pi_list (pv 3)) (blkOk_by (N := ["web", "folk", "table", "seen", "one", "sign", "rows", "signs", "at", "here", "k"]) (sc := defScope s__law_is_table) (by decide +kernel)) (fun _ _ _ _ _ => (pg_tupT (n := 2) rfl (pgs_cons (pg_name (i := 4) sc__law_is_table.nd rfl (by first | exact Or.inl rfl | exact Or.inr rfl)) (pgs_cons (pg_name (i := 5) sc__law_is_table.nd rfl (by first | exact Or.inl rfl | exact Or.inr rfl)) pgs_nil)))) (fun _ _ _ _ _ => pts_nil) (fun _ _ _ _ _ => (pv 5))) pa_nil)) (by rfl))
      (pss_cons (ps_for PassesOwn.never rfl (pi_enum (by rfl) B.enum (pa_cons (pv 6) pa_nil)) (pg_tupT (n := 2) rfl (pgs_cons (pg_name (i := 8) sc__law_is_table.nd rfl (by first | exact Or.inl rfl | exact Or.inr rfl)) (pgs_cons (pg_name (i := 9) sc__law_is_table.nd rfl (by first | exact Or.inl rfl | exact Or.inr rfl)) pgs_nil)))
        (pss_one (ps_for PassesOwn.never rfl (pi_range1 (by rfl) B.range (pa_cons (pe_callB call_lenT (by rfl) B.len PySem.boot_len (pa_cons (pv 6) pa_nil)) pa_nil)) (pg_name (i := 10) sc__law_is_table.nd rfl (by first | exact Or.inl rfl | exact Or.inr rfl))
          (pss_one (ps_if (PW.pt (pw_and (pt_val (pe_c0 c__law_goes (hr.mono (by decide)) (by rfl) (pa_cons (pv 7) (pa_cons (pe_ix ix_lT (pv 6) (pv 10) (fun _ _ => rfl)) (pa_cons (pv 9) pa_nil))))) (pw_and1 (pt_cmpR op_gt (pe_ix ix_tT (pv 2) (pv 10) (fun _ _ => rfl)) (pe_ix ix_tT (pv 2) (pv 8) (fun _ _ => rfl)) (nomark _)))))
            (pss_one (ps_ret pe_bl)) pss_nil)))))
      (pss_one (ps_ret pe_bl))))), ?_⟩
    refine ⟨_, rfl, _, rfl, _, W, n, rfl, hW, ok.most, fun H1 p vs E1 hp0 hp hvs => ?_⟩
    have lvs : vs.length = (looksOf W n).length := by rw [paired_len hvs, List.length_map]
    have l4 := looks_len ok n
    refine ⟨_, rfl, p, rfl, ⟨_, SqL.of hp⟩, fun D hD => ?_⟩
    refine lc_list (K := K) (a := p) (xs := vs) (fun i H' => H' D = some (.lst (iv (((looksOf W n).take i).map fun l => topAt W l.1))) ∧ Ext H1 H') ⟨by rw [upd_same]; rfl, Ext.new hD _⟩ (fun i H' _ ⟨_, e⟩ => SqL.of (e.lst hp)) (fun i x H' hi ⟨h1, e1⟩ => ?_) fun H2 ⟨h2, E2⟩ => ?_
    · obtain ⟨lk, q, hlk, rfl, hq⟩ := row2_at (pTI.ext e1 hvs) hi
      have lo := looksOf_ok ok lk (List.mem_of_getElem? hlk)
      refine ⟨q, _, rfl, hq, rfl, _, _, rfl, _, _, rfl, rfl, rfl, yes ?_⟩
      refine ⟨_, rfl, a, _, _, _, rfl, rfl, (E1.trans e1).tup ha, rfl, _, rfl, tt, _, _, _, rfl, rfl, (E1.trans e1).tup ht, at_of (j := lk.1.toNat) (by omega) (iv_at (topAt_get lo.1.1 lo.1.2)), _, h1, ?_, ?_, e1.put hD _⟩
      · rw [iv_len, List.length_map, List.length_take]
        exact small1000 (by omega)
      · rw [upd_same, take_snoc hlk, List.map_append]
        unfold iv
        rw [List.map_append]
        rfl
    rw [lvs, List.take_length] at h2
    have tk := topsAt_ok ok n
    refine ⟨D, true, _, rfl, h2, by rw [List.length_map]; omega, fun t ht => by have := tk t ht; omega, fun H3 rw_ E3 hrw0 hrw => ?_⟩
    have E13 := E2.trans E3
    refine ⟨_, rfl, p, rfl, ⟨_, SqL.of (E13.lst hp)⟩, fun D' hD' => ?_⟩
    refine lc_list (K := K) (a := p) (xs := vs) (fun i H' => H' D' = some (.lst (iv (((looksOf W n).take i).map fun l => l.2))) ∧ Ext H3 H') ⟨by rw [upd_same]; rfl, Ext.new hD' _⟩ (fun i H' _ ⟨_, e⟩ => SqL.of (e.lst (E13.lst hp))) (fun i x H' hi ⟨h1, e1⟩ => ?_) fun H4 ⟨h4, E4⟩ => ?_
    · obtain ⟨lk, q, hlk, rfl, hq⟩ := row2_at (pTI.ext (E13.trans e1) hvs) hi
      refine ⟨q, _, rfl, hq, rfl, _, _, rfl, _, _, rfl, rfl, rfl, yes ?_⟩
      refine ⟨_, rfl, _, h1, ?_, ?_, e1.put hD' _⟩
      · rw [iv_len, List.length_map, List.length_take]
        exact small1000 (by omega)
      · rw [upd_same, take_snoc hlk, List.map_append]
        unfold iv
        rw [List.map_append]
        rfl
    rw [lvs, List.take_length] at h4
    obtain ⟨_, rvs, e, hrws, hrvs⟩ := hrw.ext E4
    cases e
    have hrvs : Paired (TI H4) rvs (rowsAt W n) := hrvs
    have lrv : rvs.length = (rowsAt W n).length := paired_len hrvs
    have l256 := rowsAt_len ok n
    have E14 := (E1.trans E13).trans E4
    have ltb2 : tb.length = (rowsAt W n).length := by rw [ltb, rowsAt_rws, rws_len]
    have PT := pairs_table ok (f := n) ltb btb
    have tn := topAt_ok ok hn.1 hn.2
    refine ⟨_, _, rfl, ?_⟩
    refine ⟨_, rfl, rw_, rvs, rfl, SqL.of hrws, for_walk (walk_enum (K := K) (a := rw_) (xs := rvs)) (fun i σ H' => ∃ (o8 o9 o10 : Option V), σ = [some (.ref a), some (.int n), some (.ref ta), some (.ref p), none, none, some (.ref rw_), some (.ref D'), o8, o9, o10] ∧ Ext H4 H' ∧ ∀ i', i' < i → ∀ j, j < (rowsAt W n).length → pairOk W n tb i' j = true)
      ⟨none, none, none, rfl, Ext.refl _, fun i' h => by omega⟩ (fun i σ H' _ ⟨_, _, _, _, e, _⟩ => SqL.of (e.lst hrws)) ?_ ?_⟩
    · rintro i x σ H5 H6 hi ⟨o8, o9, o10, rfl, e5, b5⟩ ⟨T, xi, xr, rfl, hT, rfl, ei, er⟩
      cases ei
      have e6 := e5.trans (Ext.new hT (.tup [V.int i, xr]))
      obtain ⟨row, hrow, z, rfl, hz⟩ := paired_get' (pTI.ext e6 hrvs) er
      have hrm := List.mem_of_getElem? hrow
      have hi2 : i < (rowsAt W n).length := (List.getElem?_eq_some_iff.mp hrow).1
      have gi : (rowsAt W n).getD i [] = row := by rw [List.getD_eq_getElem?_getD, hrow]; rfl
      refine ⟨T, _, rfl, upd_same, rfl, _, _, rfl, _, _, rfl, rfl, ?_⟩
      refine ⟨_, rfl, rw_, rvs, rfl, .inl (e6.lst hrws), _, rfl, by omega, by omega, ?_⟩
      have en : (rvs.length : Int).toNat = (rowsAt W n).length := by omega
      rw [en]
      refine for_range (lo := 0) (n := (rowsAt W n).length) (fun j σ H' => ∃ (o10 : Option V), σ = [some (.ref a), some (.int n), some (.ref ta), some (.ref p), none, none, some (.ref rw_), some (.ref D'), some (.int i), some (.ref z), o10] ∧ Ext H4 H' ∧ ∀ j', j' < j → pairOk W n tb i j' = true) ⟨_, rfl, e6, fun j' h => by omega⟩ ?_ ?_
      · rintro j σ H' hj ⟨o10, rfl, e, bj⟩
        have ej : (0 : Int) + (j : Int) = (j : Int) := Int.zero_add _
        rw [ej]
        have hrj : (rowsAt W n)[j]? = some ((rowsAt W n).getD j []) := by rw [List.getD_eq_getElem?_getD, List.getElem?_eq_getElem hj]; rfl
        obtain ⟨vj, hvj, hTj⟩ := paired_get (pTI.ext e hrvs) hrj
        have hjm := List.mem_of_getElem? hrj
        obtain ⟨row2, hrow2, z2, e2, hz2⟩ := paired_get' (pTI.ext e hrvs) er
        cases e2
        rw [hrow] at hrow2
        cases hrow2
        refine ⟨_, rfl, _, rfl, _, rfl, rw_, rvs, _, _, rfl, rfl, e.lst hrws, at_of (j := j) rfl hvj, _, rfl, D', _, _, signsAt W n, (rowsAt W n).getD j [], row, rfl, e.lst h4, hTj, ⟨z, rfl, hz2⟩, ?_, ?_, ?_, signs_ok ok, fun x hx => ?_, fun x hx => ?_, fun H7 e7 => ⟨_, rfl, ?_⟩⟩
        · rw [rowsAt_row hjm]; unfold signsAt; rw [List.length_map]
        · rw [rowsAt_row hrm]; unfold signsAt; rw [List.length_map]
        · unfold signsAt; rw [List.length_map]; omega
        · have := rowsAt_bd ok hjm x hx; omega
        · have := rowsAt_bd ok hrm x hx; omega
        · have htj : tb[j]? = some (tb.getD j 0) := getD_get (by omega)
          have hti : tb[i]? = some (tb.getD i 0) := getD_get (by omega)
          have E7 := E14.trans (e.trans e7)
          have nxt : pairOk W n tb i j = true → ∀ j', j' < j + 1 → pairOk W n tb i j' = true := fun h j' hj' => by
            by_cases h2 : j' < j
            · exact bj j' h2
            · rw [show j' = j by omega]
              exact h
          refine ite_of (fun hg => ?_) (fun hg => ?_)
          · refine ⟨_, rfl, _, rfl, ta, _, _, _, rfl, rfl, E7.tup hta, at_of (j := j) rfl (iv_at htj), _, rfl, _, rfl, ta, _, _, _, rfl, rfl, E7.tup hta, at_of (j := i) rfl (iv_at hti), _, _, rfl, rfl, _, rfl, ?_⟩
            by_cases hc : tb.getD i 0 < tb.getD j 0
            · rw [decide_eq_true hc]
              refine iteT ?_
              have hf : isTable W n tb = false := by
                rw [Bool.eq_false_iff]
                intro ht
                have := PT.mp ht i hi2 j hj
                unfold pairOk at this
                rw [gi, hg, decide_eq_true hc] at this
                cases this
              have := k H7 E7
              rw [hf] at this
              exact this
            · rw [decide_eq_false hc]
              refine iteF ⟨_, rfl, e.trans e7, nxt ?_⟩
              unfold pairOk
              rw [gi, hg, decide_eq_false hc]
              rfl
          · refine ⟨_, rfl, e.trans e7, nxt ?_⟩
            unfold pairOk
            rw [gi, hg]
            rfl
      · rintro σ H' ⟨o10, rfl, e, bj⟩
        refine ⟨_, _, _, rfl, e, fun i' hi' j hj => ?_⟩
        by_cases h2 : i' < i
        · exact b5 i' h2 j hj
        · rw [show i' = i by omega]
          exact bj j hj
    · rintro σ H' ⟨o8, o9, o10, rfl, e, b⟩
      have ht : isTable W n tb = true := PT.mpr fun i hi j hj => b i (by omega) j hj
      have := k H' (E14.trans e)
      rw [ht] at this
      exact this
end
end Lk

/-! ## D32 -/
set_option Elab.async false
set_option linter.all false
set_option maxRecDepth 100000
set_option maxHeartbeats 2000000
namespace Lk
open PySem PySem.Spec PyProof.Rows L2 Gx
open GxR (TabG Tabbed TabB)
variable [Own]
section
variable {P : Program} {w : World} {K : PySem.W.Frag} {mg : Str → Option Value} {base : Heap} {Ps : List Addr}
theorem ok_run {f : Addr} {fd : FuncData} (F : Fun K "run" "run" s_run f fd) (B : Blt mg) (M : Nums mg)
    (c_check_standing : Cal P w K mg base CX0 7 "check_standing" ["web", "rules", "state"] (spCheckStanding Ps)) (c_is_whole : Cal P w K mg base CX0 1 "is_whole" ["value", "least", "most"] spIsWhole)
    (c_state_told : Cal P w K mg base CX0 4 "state_told" ["web", "rules", "state"] spStateTold) : FnOk P w K mg base CX0 8 f fd ["web", "rules", "state", "ticks"] (spRun Ps) := by
  refine F.ok sc_run (fun vs H Q E h => ?_) (fun cdv A outer s0 H vs Q E hr h => ?_)
  · obtain ⟨v, r, z, W, ru, st, n, rfl, _⟩ := h
    rfl
  · obtain ⟨v, r, z, W, ru, st, n, rfl, hn, hW, ok, hru, r0, hb, hs, so, hTb, k⟩ := h
    refine ⟨_, (pss_cons (ps_expr (pe_c0 c_check_standing (hr.mono (by decide)) (by rfl) (pa_cons (pv 0) (pa_cons (pv 1) (pa_cons (pv 2) pa_nil)))))
      (pss_cons (ps_if (pt_not (pt_val (pe_c0 c_is_whole (hr.mono (by decide)) (by rfl) (pa_cons (pv 3) (pa_cons pe_int (pa_cons (pe_num M.MOST_TICKS (by rfl)) pa_nil))))))
        (pss_one ps_never) pss_nil)
      (pss_cons (ps_set (i := 4) sc_run.nd rfl (by first | exact Or.inl rfl | exact Or.inr rfl) (pe_lst (pa_cons (pv 2) pa_nil)))
      (pss_cons (ps_for PassesOwn.never rfl (pi_range1 (by rfl) B.range (pa_cons (pv 3) pa_nil)) (pg_name (i := 5) sc_run.nd rfl (by first | exact Or.inl rfl | exact Or.inr rfl))
        (pss_one (ps_expr (pe_bmL PySem.F.plainAttrs_list PySem.F.slot_list_append PySem.F.type_list_append mt_append (pv 4) (pa_cons (pe_c0 c_state_told (hr.mono (by decide)) (by rfl) (pa_cons (pv 0) (pa_cons (pv 1) (pa_cons (pe_ix ix_lT (pv 4) (pe_un un_neg pe_int) (fun _ _ => rfl)) pa_nil)))) pa_nil)))))
      (pss_one (ps_ret (pe_tupleL (by rfl) B.tuple (pv 4)))))))), ?_⟩
    refine ⟨_, rfl, _, rfl, _, rfl, _, _, _, W, ru, st, rfl, hW, ok, hru, r0, hb, hs, so, hTb, fun H1 e1 => ?_⟩
    refine ⟨_, rfl, _, _, _, rfl, _, rfl, ?_⟩
    have ew : isWhole (n : Int) 0 200 = true := by
      unfold isWhole
      rw [Bool.and_eq_true]
      exact ⟨decide_eq_true (by omega), decide_eq_true (by omega)⟩
    rw [ew]
    refine iteF ?_
    have hs1 := hs.ext e1
    obtain ⟨za, rfl, hza⟩ := id hs1
    refine ⟨_, rfl, (by show 1 ≤ sizeLine; decide), fun L hL => ?_⟩
    have rok := rules_ok r0 hb
    refine ⟨_, rfl, _, rfl, by omega, by omega, ?_⟩
    have en : ((n : Nat) : Int).toNat = n := by omega
    rw [en]
    refine for_range (lo := 0) (n := n) (fun i σ H' => ∃ (us : List V) (y : V) (o5 : Option V), σ = [some v, some r, some (.ref za), some (.int n), some (.ref L), o5] ∧ Ext H1 H' ∧ H' L = some (.lst (us ++ [y])) ∧ us.length = i ∧ Paired (TI H') us ((List.range i).map (ticks W ru st)) ∧ TI H' y (ticks W ru st i))
      ⟨[], _, none, rfl, Ext.new hL _, upd_same, rfl, .nil, hs1.ext (Ext.new hL _)⟩ ?_ ?_
    · rintro i σ H' hi ⟨us, y, o5, rfl, e, hLs, lus, hp, hy⟩
      have E' := e1.trans e
      refine ⟨_, rfl, ⟨L, _, rfl, hLs⟩, _, rfl, _, rfl, _, rfl, _, rfl, L, _, _, y, rfl, rfl, hLs, atI_last us y, ?_⟩
      refine ⟨_, _, _, W, ru, _, rfl, hW.ext E', ok, hru.ext E', rok, hy, ticks_ok ok r0 hb so i, fun H2 u e2 hu0 hu => ?_⟩
      refine ⟨L, _, _, rfl, rfl, e2.lst hLs, ?_, us ++ [y], .ref u, _, rfl, (e.trans e2).put hL _, upd_same, by rw [List.length_append, lus]; rfl, ?_, ?_⟩
      · rw [List.length_append, lus]
        exact small1000 (by simp only [List.length_singleton]; omega)
      · rw [List.range_succ, List.map_append]
        exact pTI.put (e2.lst hLs) (fun _ _ h => h) (paired_snoc (hy.ext e2) (pTI.ext e2 hp))
      · refine ⟨u, rfl, ?_⟩
        rw [upd_ne (ne_of (e2.lst hLs) hu (by intro q; cases q)).symm]
        exact hu
    · rintro σ H' ⟨us, y, o5, rfl, e, hLs, lus, hp, hy⟩
      refine ⟨_, rfl, L, _, rfl, hLs, fun u hu => ?_⟩
      refine k _ u ((e1.trans e).trans (Ext.new hu _)) ⟨u, _, rfl, upd_same, ?_⟩
      rw [List.range_succ, List.map_append]
      exact pTI.ext (Ext.new hu _) (paired_snoc hy hp)
end
end Lk

/-! ## LawT -/
set_option Elab.async false
set_option linter.all false
set_option maxRecDepth 100000
set_option maxHeartbeats 2000000
namespace Lk
open PySem PySem.Spec PyProof.Rows L2 Gx
variable [Own]
/-- t[a:b], one tuple of these or another -/
def rSlU : V → Option Int → Option Int → Hp → VK → Prop := fun x lo hi H Q => ∃ a xs, x = .ref a ∧ H a = some (.tup xs) ∧ ∀ H' p, Ext H H' → H' p = some (.tup (cutV xs lo hi)) → Q (.ref p) H'
theorem sl_tU {X : Cx} : SlR X rSlU := by
  intro pins s σ H x v vl vu lo hi sl Q I rx hs h1 h2 h
  obtain ⟨a, xs, rfl, ha, k⟩ := h
  refine sl_tupA pins s σ H _ v vl vu lo hi sl Q I rx hs h1 h2 ⟨a, xs, rfl, SqT.of ha, fun hf => k H a (Ext.refl H) ?_, fun _ p hp => k _ p (Ext.new hp _) upd_same⟩
  rw [ha]
  unfold cutV
  rw [hf.1, hf.2]
  simp
/-- t + u, one tuple of these or another -/
def rCatU : R2 := fun x y H Q => ∃ a b xs ys, x = .ref a ∧ y = .ref b ∧ H a = some (.tup xs) ∧ H b = some (.tup ys) ∧ xs.length + ys.length ≤ sizeLine ∧ ∀ H' p, Ext H H' → H' p = some (.tup (xs ++ ys)) → Q (.ref p) H'
theorem op_catU {X : Cx} : OpR X (binaryOp .Add) rCatU := by
  intro pins s σ H x y v u Q I rx ry h
  obtain ⟨a, b, xs, ys, e1, e2, h1, h2, hl, k⟩ := h
  refine op_catTT pins s σ H x y v u Q I rx ry ⟨a, b, xs, ys, e1, e2, h1, h2, hl, fun e => ?_, fun _ e => ?_, fun _ _ p hp => k _ p (Ext.new hp _) upd_same⟩
  · subst e
    exact k H b (Ext.refl H) h2
  · subst e
    exact k H a (Ext.refl H) (by rw [List.append_nil]; exact h1)
/-- two lists of ints -/
def rNeLI : R2 := fun x y H Q => ∃ a b : List Int, LI H x a ∧ LI H y b ∧ Q (.bl (!decide (a = b))) H
def rEqLI : R2 := fun x y H Q => ∃ a b : List Int, LI H x a ∧ LI H y b ∧ Q (.bl (decide (a = b))) H
theorem eqv_li (a b : List Int) : PyData.eqv (.list (a.map .int)) (.list (b.map .int)) = decide (a = b) := by
  simp only [PyData.eqv]
  exact eqvAll_ints a b
theorem LI.dp {K : PySem.W.Frag} {H : Hp} {v : V} {ns : List Int} (h : LI H v ns) : Dp K H v (.list (ns.map .int)) := by
  obtain ⟨a, rfl, h⟩ := h
  exact .lst (SqL.of h) (dpAll_ints ns)
theorem op_eqLI {X : Cx} (hu : X.A.units + 64 < cLine) : OpR X (compareOp .Eq) rEqLI := by
  intro pins s σ H x y v u Q I rx ry h
  obtain ⟨a, b, h1, h2, q⟩ := h
  exact op_eqD hu pins s σ H x y v u Q I rx ry ⟨_, _, h1.dp, h2.dp, shaped_li a, shaped_li b, by rw [eqv_li]; exact q⟩
theorem op_neLI {X : Cx} (hu : X.A.units + 64 < cLine) : OpR X (compareOp .NotEq) rNeLI := by
  intro pins s σ H x y v u Q I rx ry h
  obtain ⟨a, b, h1, h2, q⟩ := h
  exact op_neD hu pins s σ H x y v u Q I rx ry ⟨_, _, h1.dp, h2.dp, shaped_li a, shaped_li b, by rw [eqv_li]; exact q⟩
theorem sIx_nat (n d k : Nat) (h : k ≤ n) : HT.sIx n d (some (k : Int)) = k := by
  show (if (k : Int) < 0 then ((k : Int) + n).toNat else min (k : Int).toNat n) = k
  rw [if_neg (by omega)]
  omega
theorem cut_take (xs : List V) (n : Nat) (h : n ≤ xs.length) : cutV xs none (some (n : Int)) = xs.take n := by
  unfold cutV
  rw [sIx_nat _ _ _ h]
  rfl
theorem cut_drop (xs : List V) (n : Nat) (h : n ≤ xs.length) : cutV xs (some (n : Int)) none = xs.drop n := by
  unfold cutV
  rw [sIx_nat _ _ _ h]
  exact List.take_of_length_le (by rw [List.length_drop]; exact Nat.le_refl _)
/-- what the law asks of BadRules -/
structure BadK (K : PySem.W.Frag) (mg : Str → Option Value) (C : Addr) : Prop where
  gC : mg "BadRules" = some (.ref C)
  xf : XfC K C
  no : PySem.W.findIn K (.ref C) "folk" = some none
  te : PySem.W.exmOne K (.ref C) (.ref C) = some true
end Lk

/-! ## LawL -/
set_option Elab.async false
set_option linter.all false
set_option maxRecDepth 100000
set_option maxHeartbeats 2000000
namespace Lk
open PySem PySem.Spec PyProof.Rows L2 Gx
open GxR (TabG Tabbed TabB)
variable [Own]
/-- settled at that tick -/
def Fix (W : Web) (ru : List (List Int)) (st : List Int) (k : Nat) : Prop := ticks W ru st k = ticks W ru st (k + 1)
instance (W : Web) (ru : List (List Int)) (st : List Int) (k : Nat) : Decidable (Fix W ru st k) := inferInstanceAs (Decidable (_ = _))
def FirstFix (W : Web) (ru : List (List Int)) (st : List Int) (v : V) : Prop := (∃ k : Nat, v = .int (k : Nat) ∧ Fix W ru st k ∧ ∀ j, j < k → ¬ Fix W ru st j) ∨ v = .non ∧ ∀ k, ¬ Fix W ru st k
def spSettledBy (Ps : List Addr) : Sp := fun vs H Q _ => ∃ (v r z : V) (W : Web) (ru : List (List Int)) (st : List Int), vs = [v, r, z] ∧ WebAt H v W ∧ W.Ok ∧ W.tops.length ≤ 4 ∧ TT2 H r ru ∧ Ru0 W ru ∧ firstBad W ru = none ∧ TI H z st ∧ StOk W st ∧ Tabs Ps H ∧
  ∀ v H', Ext H H' → FirstFix W ru st v → Q v H'
theorem alikeS0 {k : Bool} {H : Hp} {a b : Addr} {l : List Int} {Q : VK} {E : XK} (ha : SqB k H a (iv l)) (hb : SqB k H b (iv l)) (hl : l.length ≤ 1000000) (q : ∀ H', Ext H H' → Q (.bl true) H') : spAlikeS spAlike0 [.ref a, .ref b] H Q E :=
  ⟨a, b, k, iv l, iv l, rfl, ha, hb, rfl, by rw [iv_len]; exact hl, fun H' i x y Q' E' e hx hy k' => by
    obtain ⟨n, hn, rfl⟩ := iv_get hx
    obtain ⟨m, hm, rfl⟩ := iv_get hy
    rw [hn] at hm
    cases hm
    exact ⟨.inl ⟨n, rfl⟩, k'⟩, q⟩
theorem alike_el (l : List Int) (H : Hp) : ∀ (H' : Hp) (i : Nat) (x y : V) (Q' : VK) (E' : XK), Ext H H' → (iv l)[i]? = some x → (iv l)[i]? = some y → (∀ H'', Ext H' H'' → Q' (.bl true) H'') → spAlike0 [x, y] H' Q' E' := fun H' i x y Q' E' e hx hy k' => by
  obtain ⟨n, hn, rfl⟩ := iv_get hx
  obtain ⟨m, hm, rfl⟩ := iv_get hy
  rw [hn] at hm
  cases hm
  exact ⟨.inl ⟨n, rfl⟩, k'⟩
theorem alike_el2 {H : Hp} {xs ys : List V} {rows : List (List Int)} (p1 : Paired (TI H) xs rows) (p2 : Paired (TI H) ys rows) (hr : ∀ r ∈ rows, r.length ≤ 1000000) :
    ∀ (H' : Hp) (i : Nat) (x y : V) (Q' : VK) (E' : XK), Ext H H' → xs[i]? = some x → ys[i]? = some y → (∀ H'', Ext H' H'' → Q' (.bl true) H'') → spAlikeS spAlike0 [x, y] H' Q' E' := fun H' i x y Q' E' e hx hy k' => by
  obtain ⟨r1, g1, c, rfl, hc⟩ := paired_get' (pTI.ext e p1) hx
  obtain ⟨r2, g2, d, rfl, hd⟩ := paired_get' (pTI.ext e p2) hy
  rw [g1] at g2
  cases g2
  exact alikeS0 (k := false) hc hd (hr _ (List.mem_of_getElem? g1)) k'
theorem rows_has : ∀ (tops st p : List Int) (rows : List (List Int)), st.length = tops.length → (∀ i, i < tops.length → 0 ≤ st.getD i 0 ∧ st.getD i 0 ≤ tops.getD i 0) → p ∈ rows → p ++ st ∈ tops.foldl rowsStep rows
  | [], [], p, rows, _, _, h => by simpa using h
  | t :: ts, m :: st, p, rows, hl, hb, h => by
    rw [List.foldl_cons]
    have h0 := hb 0 (by simp)
    simp only [List.getD_cons_zero] at h0
    have := rows_has ts st (p ++ [m]) (rowsStep rows t) (by simpa using hl) (fun i hi => by
      have := hb (i + 1) (by simpa using hi)
      simpa using this) (by
      unfold rowsStep moods
      refine List.mem_flatMap.mpr ⟨p, h, List.mem_map.mpr ⟨m, List.mem_map.mpr ⟨m.toNat, List.mem_range.mpr (by omega), by omega⟩, rfl⟩⟩)
    simpa using this
  | [], _ :: _, _, _, h, _, _ => by simp at h
  | _ :: _, [], _, _, h, _, _ => by simp at h
theorem st_rows {W : Web} {st : List Int} (so : StOk W st) : st ∈ rowsOf W.tops := by
  have := rows_has W.tops st [] [[]] so.len (fun i hi => by
    have := so.bd (i : Int) (by omega) (by omega)
    exact this) (by simp)
  unfold rowsOf
  simpa using this
theorem mem_settled {W : Web} {ru : List (List Int)} {st : List Int} (so : StOk W st) : decide (stateTold W ru st = st) = decide (st ∈ settledStates W ru) := by
  refine decide_eq_decide.mpr ⟨fun h => List.mem_filter.mpr ⟨st_rows so, decide_eq_true h⟩, fun h => of_decide_eq_true (List.mem_filter.mp h).2⟩
theorem settled_len {W : Web} (ok : W.Ok) (ru : List (List Int)) : (settledStates W ru).length ≤ 4096 := by
  have h1 := rows_len4 (tops := W.tops) (fun t ht => (ok.tops t ht).2) [[]]
  have h2 : 4 ^ W.tops.length ≤ 4 ^ 6 := Nat.pow_le_pow_right (by decide) ok.few
  simp only [List.length_singleton, Nat.one_mul] at h1
  exact Nat.le_trans (List.length_filter_le _ _) (Nat.le_trans h1 h2)
theorem settled_row {W : Web} (ok : W.Ok) {ru : List (List Int)} : ∀ r ∈ settledStates W ru, r.length ≤ 1000000 := by
  intro r hr
  have := (rows_st (List.mem_filter.mp hr).1).len
  have := ok.few
  omega
/-- the ticks settled among the first 70 -/
def fixes (W : Web) (ru : List (List Int)) (st : List Int) (n : Nat) : List Int := ((List.range n).filter fun k => decide (Fix W ru st k)).map fun k : Nat => (k : Int)
theorem fixes_nil {W : Web} {ru : List (List Int)} {st : List Int} {n : Nat} (h : ∀ k, k < n → ¬ Fix W ru st k) : fixes W ru st n = [] := by
  unfold fixes
  rw [List.filter_eq_nil_iff.mpr fun k hk => by simpa using h k (List.mem_range.mp hk)]
  rfl
theorem fixes_head {W : Web} {ru : List (List Int)} {st : List Int} {n k : Nat} (hk : k < n) (h : Fix W ru st k) (hj : ∀ j, j < k → ¬ Fix W ru st j) : (fixes W ru st n)[0]? = some (k : Int) := by
  unfold fixes
  have e : List.range n = List.range k ++ (List.range' k (n - k)) := by
    rw [List.range_eq_range', List.range_eq_range']
    have := List.range'_append (s := 0) (m := k) (n := n - k) (step := 1)
    rw [Nat.one_mul, Nat.zero_add, show k + (n - k) = n by omega] at this
    exact this.symm
  rw [e, List.filter_append, List.filter_eq_nil_iff.mpr fun j hj' => by simpa using hj j (List.mem_range.mp hj'), List.nil_append]
  obtain ⟨m, hm⟩ : ∃ m, n - k = m + 1 := ⟨n - k - 1, by omega⟩
  rw [hm, List.range'_succ, List.filter_cons, if_pos (decide_eq_true h)]
  rfl
theorem first_false {W : Web} {ru : List (List Int)} {st : List Int} {fv : V} {D : Addr} {σ : L2.St} {H : Hp} {Q : Bool → Hp → Prop} (h10 : σ[10]? = some (some (.ref D))) (hD : H D = some (.lst (iv (fixes W ru st 70)))) (h11 : σ[11]? = some (some fv)) (hv : FirstFix W ru st fv) (k : ∀ H', Ext H H' → Q false H') :
    (tOr (tAnd (tTest (tOp rNeLI (tVar 10) (tLst tNil))) (tTest (tOp rNe (tVar 11) (tOp rIxLT (tVar 10) (tC (V.int 0))))))
      (tAnd (tTest (tOp rEqLI (tVar 10) (tLst tNil))) (tAnd (tTest (tOp (fun x y H Q => y = V.non ∧ Q (V.bl !decide (x = V.non)) H) (tVar 11) (tC V.non))) (tTest (tOp (rI0 fun i j => V.bl (decide (i < j))) (tVar 11) (tC (V.int 70))))))) σ H Q := by
  have big : ∀ j : Nat, fixes W ru st 70 ≠ [] ∨ fixes W ru st 70 = [] := fun _ => by
    by_cases h : fixes W ru st 70 = []
    · exact .inr h
    · exact .inl h
  refine ⟨_, h10, (by show 0 ≤ sizeLine; decide), fun u hu => ?_⟩
  have e1 := Ext.new hu (.lst [])
  refine ⟨fixes W ru st 70, [], ⟨D, rfl, e1.lst hD⟩, ⟨u, rfl, upd_same⟩, _, rfl, ?_⟩
  by_cases hn : fixes W ru st 70 = []
  · rw [decide_eq_true hn]
    refine iteF ?_
    refine iteF ?_
    refine ⟨_, h10, (by show 0 ≤ sizeLine; decide), fun u2 hu2 => ?_⟩
    have e2 := e1.trans (Ext.new hu2 (.lst []))
    refine ⟨fixes W ru st 70, [], ⟨D, rfl, e2.lst hD⟩, ⟨u2, rfl, upd_same⟩, _, rfl, ?_⟩
    rw [decide_eq_true hn]
    refine iteT ?_
    rcases hv with ⟨j, rfl, hf, hj⟩ | ⟨rfl, hf⟩
    · refine ⟨_, h11, rfl, _, rfl, iteT ?_⟩
      refine ⟨_, h11, _, _, rfl, rfl, _, rfl, ?_⟩
      have hge : ¬ ((j : Nat) : Int) < 70 := fun hlt => by
        have := fixes_head (n := 70) (k := j) (by omega) hf hj
        rw [hn] at this
        cases this
      rw [decide_eq_false hge]
      exact k _ e2
    · refine ⟨_, h11, rfl, _, rfl, iteF ?_⟩
      exact k _ e2
  · rw [decide_eq_false hn]
    refine iteT ?_
    rcases hv with ⟨j, rfl, hf, hj⟩ | ⟨rfl, hf⟩
    · have hlt : j < 70 := by
        rcases Nat.lt_or_ge j 70 with h | h
        · exact h
        · exact absurd (fixes_nil fun i hi => hj i (by omega)) hn
      refine ⟨_, h11, _, h10, D, _, _, _, rfl, rfl, e1.lst hD, at_of (j := 0) rfl (iv_at (fixes_head hlt hf hj)), rfl, _, rfl, ?_⟩
      have en : (!decide (V.int ((j : Nat) : Int) = V.int ((j : Nat) : Int))) = false := by rw [decide_eq_true rfl]; rfl
      rw [en]
      refine iteF ?_
      refine ⟨_, h10, (by show 0 ≤ sizeLine; decide), fun u2 hu2 => ?_⟩
      have e2 := e1.trans (Ext.new hu2 (.lst []))
      refine ⟨fixes W ru st 70, [], ⟨D, rfl, e2.lst hD⟩, ⟨u2, rfl, upd_same⟩, _, rfl, ?_⟩
      rw [decide_eq_false hn]
      refine iteF ?_
      exact k _ e2
    · exact absurd (fixes_nil fun i _ => hf i) hn
theorem word_false {W : Web} {fo : Int} {tb : List Int} {wv wd : V} {T : Addr} {σ : L2.St} {H : Hp} {Q : Bool → Hp → Prop} (ok : W.Ok) (hfo : 0 ≤ fo ∧ fo < W.tops.length) (hW : WebAt H wv W) (h2 : σ[2]? = some (some wv)) (h6 : σ[6]? = some (some (.int fo))) (h13 : σ[13]? = some (some (.ref T))) (hT : H T = some (.lst (iv tb))) (h16 : σ[16]? = some (some wd))
    (hl : tb.length = pr (axes W (looksOf W fo))) (hb : ∀ m ∈ tb, 0 ≤ m ∧ m ≤ topAt W fo) (hwd : wd = if isTable W fo tb = true then .non else .int fo) (k : ∀ H', Ext H H' → Q false H') :
    (tTest (tOp rNe (tVar 16) (tIf (tB (tCall spLawIsTable [] E0 (tCons (tVar 2) (tCons (tVar 6) (tCons (tTupleL (tVar 13)) tNil))))) (tC V.non) (tVar 6)))) σ H Q := by
  refine ⟨_, h16, ?_⟩
  refine ⟨_, h2, _, h6, _, h13, T, _, rfl, hT, fun u hu => ?_⟩
  have e := Ext.new hu (.tup (iv tb))
  refine ⟨wv, _, W, fo, tb, rfl, hW.ext e, ok, hfo, ⟨u, rfl, upd_same⟩, hl, hb, fun H' e' => ⟨_, rfl, ?_⟩⟩
  have E := e.trans e'
  refine ite_of (fun ht => ?_) (fun ht => ?_)
  · rw [ht, if_pos rfl] at hwd
    rw [hwd]
    exact ⟨rfl, _, rfl, k _ E⟩
  · rw [ht, if_neg (by decide)] at hwd
    rw [hwd]
    refine ⟨_, h6, rfl, _, rfl, ?_⟩
    have en : (!decide (V.int fo = V.int fo)) = false := by rw [decide_eq_true rfl]; rfl
    rw [en]
    exact k _ E
theorem getD_set {ru : List (List Int)} {n f : Nat} {tb : List Int} (hn : n < ru.length) : (ru.set n tb).getD f [] = if f = n then tb else ru.getD f [] := by
  rw [List.getD_eq_getElem?_getD, List.getElem?_set, List.getD_eq_getElem?_getD]
  by_cases h : n = f
  · rw [if_pos h, if_pos (by omega), if_pos h.symm]
    rfl
  · rw [if_neg h, if_neg (fun q => h q.symm)]
theorem bad_set {W : Web} {ru : List (List Int)} {n : Nat} {tb : List Int} (hl : ru.length = W.tops.length) (hn : n < W.tops.length) (hb : firstBad W ru = none) : firstBad W (ru.set n tb) = if isTable W (n : Int) tb = true then none else some n := by
  have okf : ∀ f : Nat, f < W.tops.length → isTable W (f : Int) (ru.getD f []) = true := fun f hf => by
    have := firstBad_none hb (f : Int) (by omega) (by omega)
    exact this
  by_cases ht : isTable W (n : Int) tb = true
  · rw [if_pos ht]
    refine bad_none fun f hf => ?_
    rw [getD_set (by omega)]
    by_cases h : f = n
    · rw [if_pos h, h]; exact ht
    · rw [if_neg h]; exact okf f hf
  · rw [if_neg ht]
    cases e : firstBad W (ru.set n tb) with
    | none =>
      have := firstBad_none e (n : Int) (by omega) (by omega)
      have this : isTable W (n : Int) ((ru.set n tb).getD n []) = true := this
      rw [getD_set (by omega), if_pos rfl] at this
      exact absurd this ht
    | some f =>
      have h1 := List.find?_some e
      have h2 := List.mem_range.mp (List.mem_of_find?_eq_some e)
      rw [getD_set (by omega)] at h1
      by_cases h : f = n
      · rw [h]
      · rw [if_neg h, okf f h2] at h1
        cases h1
theorem paired_set {R : V → List Int → Prop} {v : V} {tb : List Int} : ∀ {n : Nat} {us : List V} {ru : List (List Int)}, Paired R us ru → n < us.length → R v tb → Paired R (us.take n ++ [v] ++ us.drop (n + 1)) (ru.set n tb)
  | _, _, _, .nil, h, _ => by simp at h
  | 0, _, _, .cons r t, _, hv => .cons hv t
  | n + 1, _, _, .cons r t, h, hv => .cons r (paired_set t (by simpa using h) hv)
theorem paired_take {α β : Type} {R : α → β → Prop} : ∀ (n : Nat) {l : List α} {m : List β}, Paired R l m → Paired R (l.take n) (m.take n)
  | 0, _, _, _ => .nil
  | _ + 1, _, _, .nil => .nil
  | n + 1, _, _, .cons r t => .cons r (paired_take n t)
end Lk

/-! ## D40 -/
set_option Elab.async false
set_option linter.all false
set_option maxRecDepth 100000
set_option maxHeartbeats 4000000
namespace Lk
open PySem PySem.Spec PyProof.Rows L2 Gx
open GxR (TabG Tabbed TabB)
variable [Own]
abbrev s_law : Stmt := top 55
theorem sc_law : FnScope ["script", "row", "web", "rules", "state", "many", "folk", "due", "states", "tick", "first", "found", "turn", "table", "change", "value", "word", "e"] ["script"] (defScope s_law) := ⟨rfl, rfl, rfl, by decide +kernel, rfl, by decide +kernel, by decide +kernel⟩
def spLaw (K : PySem.W.Frag) (Ps : List Addr) : Sp := fun vs H Q _ => ∃ (sc : Addr) (ns : List Int), vs = [.ref sc] ∧ SqL K H sc (iv ns) ∧ ns.length ≤ 63 ∧ Tabs Ps H ∧ ∀ H', Q (.bl true) H'
section
variable {P : Program} {w : World} {K : PySem.W.Frag} {mg : Str → Option Value} {base : Heap} {Ps : List Addr} {C : Addr}
theorem ok_law {f : Addr} {fd : FuncData} (F : Fun K "law" "law" s_law f fd) (B : Blt mg) (TK : BadK K mg C)
    (c__law_taken : Cal P w K mg base CX0 1 "_law_taken" ["row", "many"] (spTaken K)) (c__law_web : Cal P w K mg base CX0 2 "_law_web" ["row", "folk", "most", "looks"] (spLawWeb K))
    (c__law_rules : Cal P w K mg base CX0 4 "_law_rules" ["row", "web"] (spLawRules K)) (c__law_state : Cal P w K mg base CX0 2 "_law_state" ["row", "web"] (spLawState K))
    (c_alike0 : Cal P w K mg base CX0 1 "_law_alike" ["found", "due"] spAlike0) (c_alike1 : Cal P w K mg base CX0 2 "_law_alike" ["found", "due"] (spAlikeS spAlike0)) (c_alike2 : Cal P w K mg base CX0 3 "_law_alike" ["found", "due"] (spAlikeS (spAlikeS spAlike0)))
    (c__law_behind : Cal P w K mg base CX0 3 "_law_behind" ["web", "rules", "state"] spLawBehind) (c__law_settled : Cal P w K mg base CX0 4 "_law_settled" ["web", "rules"] spLawSettled) (c__law_is_table : Cal P w K mg base CX0 2 "_law_is_table" ["web", "folk", "table"] spLawIsTable)
    (c_told : Cal P w K mg base CX0 8 "told" ["web", "rules", "state", "folk"] (spTold Ps)) (c_settled : Cal P w K mg base (L2.CX P w) 7 "settled" ["web", "rules"] (spSettled Ps C)) (c_is_settled : Cal P w K mg base CX0 8 "is_settled" ["web", "rules", "state"] (spIsSettled Ps))
    (c_run : Cal P w K mg base CX0 8 "run" ["web", "rules", "state", "ticks"] (spRun Ps)) (c_settled_by : Cal P w K mg base CX0 8 "settled_by" ["web", "rules", "state"] (spSettledBy Ps)) :
    FnOk P w K mg base CX0 9 f fd ["script"] (spLaw K Ps) := by
  refine F.ok sc_law (fun vs H Q E h => ?_) (fun cdv A outer s0 H vs Q E hr h => ?_)
  · obtain ⟨sc, ns, rfl, _⟩ := h
    rfl
  · obtain ⟨sc, ns, rfl, hsc, hlen, hTb, k⟩ := h
    obtain ⟨fS, fdS, mS, kS, bS, GS⟩ := c_settled.ex
    refine ⟨_, (pss_cons (ps_set (i := 1) sc_law.nd rfl (by first | exact Or.inl rfl | exact Or.inr rfl) (pe_lst (pa_cons (pv 0) (pa_cons pe_int (pa_cons pe_int (pa_cons pe_int pa_nil))))))
      (pss_cons (ps_set (i := 2) sc_law.nd rfl (by first | exact Or.inl rfl | exact Or.inr rfl) (pe_c0 c__law_web (hr.mono (by decide)) (by rfl) (pa_cons (pv 1) (pa_cons (pe_op op_add pe_int (pe_c0 c__law_taken (hr.mono (by decide)) (by rfl) (pa_cons (pv 1) (pa_cons pe_int pa_nil)))) (pa_cons pe_int (pa_cons (pe_op op_add pe_int (pe_c0 c__law_taken (hr.mono (by decide)) (by rfl) (pa_cons (pv 1) (pa_cons pe_int pa_nil)))) pa_nil))))))
      (pss_cons (ps_asg (pe_tup (pa_cons (pe_c0 c__law_rules (hr.mono (by decide)) (by rfl) (pa_cons (pv 1) (pa_cons (pv 2) pa_nil))) (pa_cons (pe_c0 c__law_state (hr.mono (by decide)) (by rfl) (pa_cons (pv 1) (pa_cons (pv 2) pa_nil))) pa_nil))) (pg_tupT (n := 2) rfl (pgs_cons (pg_name (i := 3) sc_law.nd rfl (by first | exact Or.inl rfl | exact Or.inr rfl)) (pgs_cons (pg_name (i := 4) sc_law.nd rfl (by first | exact Or.inl rfl | exact Or.inr rfl)) pgs_nil))))
      (pss_cons (ps_set (i := 5) sc_law.nd rfl (by first | exact Or.inl rfl | exact Or.inr rfl) (pe_callB call_lenT (by rfl) B.len PySem.boot_len (pa_cons (pe_ix ix_tT (pv 2) pe_int (fun _ _ => rfl)) pa_nil)))
      (pss_cons (ps_if (pt_not (pt_val (pe_c0 c_alike1 (hr.mono (by decide)) (by rfl) (pa_cons (pe_lc (own := [("folk", 6)]) rfl sc_law.nd (pi_range1 (by rfl) B.range (pa_cons (pv 5) pa_nil)) (blkOk_by (N := ["script", "row", "web", "rules", "state", "many", "folk", "due", "states", "tick", "first", "found", "turn", "table", "change", "value", "word", "e"]) (sc := defScope s_law) (by decide +kernel)) (fun _ _ _ _ _ => (pg_name (i := 6) sc_law.nd rfl (by first | exact Or.inl rfl | exact Or.inr rfl))) (fun _ _ _ _ _ => pts_nil) (fun _ _ _ _ _ => (pe_c0 c_told (hr.mono (by decide)) (by rfl) (pa_cons (pv 2) (pa_cons (pv 3) (pa_cons (pv 4) (pa_cons (pv 6) pa_nil))))))) (pa_cons (pe_callTy call_list_of (by rfl) B.list boot_tyList (pa_cons (pe_c0 c__law_behind (hr.mono (by decide)) (by rfl) (pa_cons (pv 2) (pa_cons (pv 3) (pa_cons (pv 4) pa_nil)))) pa_nil)) pa_nil)))))
        (pss_one (ps_ret pe_bl)) pss_nil)
      (pss_cons (ps_set (i := 7) sc_law.nd rfl (by first | exact Or.inl rfl | exact Or.inr rfl) (pe_c0 c__law_settled (hr.mono (by decide)) (by rfl) (pa_cons (pv 2) (pa_cons (pv 3) pa_nil))))
      (pss_cons (ps_if (PW.pt (pw_or (pt_not (pt_val (pe_c0 c_alike2 (hr.mono (by decide)) (by rfl) (pa_cons (pe_cal c_settled (hr.mono (by decide)) (by rfl) passL (pa_cons (pv 2) (pa_cons (pv 3) pa_nil))) (pa_cons (pe_tupleL (by rfl) B.tuple (pv 7)) pa_nil))))) (pw_or1 (pt_not (pt_val (pe_c0 c_alike0 (hr.mono (by decide)) (by rfl) (pa_cons (pe_c0 c_is_settled (hr.mono (by decide)) (by rfl) (pa_cons (pv 2) (pa_cons (pv 3) (pa_cons (pv 4) pa_nil)))) (pa_cons (pe_cmpR (op_inTI (units1 hr)) (pv 4) (pv 7) (by rfl)) pa_nil))))))))
        (pss_one (ps_ret pe_bl)) pss_nil)
      (pss_cons (ps_set (i := 8) sc_law.nd rfl (by first | exact Or.inl rfl | exact Or.inr rfl) (pe_lst (pa_cons (pv 4) pa_nil)))
      (pss_cons (ps_for PassesOwn.never rfl (pi_range1 (by rfl) B.range (pa_cons pe_int pa_nil)) (pg_name (i := 9) sc_law.nd rfl (by first | exact Or.inl rfl | exact Or.inr rfl))
        (pss_one (ps_expr (pe_bmL PySem.F.plainAttrs_list PySem.F.slot_list_append PySem.F.type_list_append mt_append (pv 8) (pa_cons (pe_c0 c__law_behind (hr.mono (by decide)) (by rfl) (pa_cons (pv 2) (pa_cons (pv 3) (pa_cons (pe_ix ix_lT (pv 8) (pe_un un_neg pe_int) (fun _ _ => rfl)) pa_nil)))) pa_nil)))))
      (pss_cons (ps_if (pt_not (pt_val (pe_c0 c_alike2 (hr.mono (by decide)) (by rfl) (pa_cons (pe_c0 c_run (hr.mono (by decide)) (by rfl) (pa_cons (pv 2) (pa_cons (pv 3) (pa_cons (pv 4) (pa_cons pe_int pa_nil))))) (pa_cons (pe_tupleL (by rfl) B.tuple (pe_slice sl_list (pv 8) po_none (po_some pe_int))) pa_nil)))))
        (pss_one (ps_ret pe_bl)) pss_nil)
      (pss_cons (ps_setLc (i := 10) (own := [("tick", 9)]) rfl sc_law.nd rfl rfl (sw_true rfl rfl rfl (by decide +kernel)) (pi_range1 (by rfl) B.range (pa_cons pe_int pa_nil)) (blkOk_by (N := ["script", "row", "web", "rules", "state", "many", "folk", "due", "states", "tick", "first", "found", "turn", "table", "change", "value", "word", "e"]) (sc := defScope s_law) (by decide +kernel)) (fun _ _ _ _ _ => (pg_name (i := 9) sc_law.nd rfl (by first | exact Or.inl rfl | exact Or.inr rfl))) (fun _ _ _ _ _ => (pts_one (pt_cmpR (op_eqTI hr.units) (pe_ix ix_lT (pv 8) (pv 9) (fun _ _ => rfl)) (pe_ix ix_lT (pv 8) (pe_op op_add (pv 9) pe_int) (fun _ _ => rfl)) (nomark _)))) (fun _ _ _ _ _ => (pv 9)))
      (pss_cons (ps_set (i := 11) sc_law.nd rfl (by first | exact Or.inl rfl | exact Or.inr rfl) (pe_c0 c_settled_by (hr.mono (by decide)) (by rfl) (pa_cons (pv 2) (pa_cons (pv 3) (pa_cons (pv 4) pa_nil)))))
      (pss_cons (ps_if (PW.pt (pw_or (PW.pt (pw_and (pt_cmpR (op_neLI hr.units) (pv 10) (pe_lst pa_nil) (nomark _)) (pw_and1 (pt_cmpR op_ne (pv 11) (pe_ix ix_lT (pv 10) pe_int (fun _ _ => rfl)) (nomark _))))) (pw_or1 (PW.pt (pw_and (pt_cmpR (op_eqLI hr.units) (pv 10) (pe_lst pa_nil) (nomark _)) (pw_and (pt_cmpR op_notN (pv 11) pe_non (nomark _)) (pw_and1 (pt_cmpR op_lt (pv 11) pe_int (nomark _)))))))))
        (pss_one (ps_ret pe_bl)) pss_nil)
      (pss_cons (ps_for PassesOwn.never rfl (pi_range1 (by rfl) B.range (pa_cons pe_int pa_nil)) (pg_name (i := 12) sc_law.nd rfl (by first | exact Or.inl rfl | exact Or.inr rfl))
        (pss_cons (ps_set (i := 6) sc_law.nd rfl (by first | exact Or.inl rfl | exact Or.inr rfl) (pe_c0 c__law_taken (hr.mono (by decide)) (by rfl) (pa_cons (pv 1) (pa_cons (pv 5) pa_nil))))
        (pss_cons (ps_set (i := 13) sc_law.nd rfl (by first | exact Or.inl rfl | exact Or.inr rfl) (pe_callTy call_list_of (by rfl) B.list boot_tyList (pa_cons (pe_ix ix_tT (pv 3) (pv 6) (fun _ _ => rfl)) pa_nil)))
        (pss_cons (ps_for PassesOwn.never rfl (pi_range1 (by rfl) B.range (pa_cons (pe_op op_add pe_int (pe_c0 c__law_taken (hr.mono (by decide)) (by rfl) (pa_cons (pv 1) (pa_cons pe_int pa_nil)))) pa_nil)) (pg_name (i := 14) sc_law.nd rfl (by first | exact Or.inl rfl | exact Or.inr rfl))
          (pss_one (ps_asg (pe_c0 c__law_taken (hr.mono (by decide)) (by rfl) (pa_cons (pv 1) (pa_cons (pe_op op_add (pe_ix ix_tT (pe_ix ix_tT (pv 2) pe_int (fun _ _ => rfl)) (pv 6) (fun _ _ => rfl)) pe_int) pa_nil))) (pg_sub (pv 13) (pe_c0 c__law_taken (hr.mono (by decide)) (by rfl) (pa_cons (pv 1) (pa_cons (pe_callB call_lenT (by rfl) B.len PySem.boot_len (pa_cons (pv 13) pa_nil)) pa_nil))) set_list))))
        (pss_cons (ps_par (i := 15) (j := 16) rfl sc_law.nd rfl rfl (by decide) rfl rfl (pa_cons (pe_op op_catU (pe_op op_catU (pe_slice sl_tU (pv 3) po_none (po_some (pv 6))) (pe_tup (pa_cons (pe_tupleL (by rfl) B.tuple (pv 13)) pa_nil))) (pe_slice sl_tU (pv 3) (po_some (pe_op op_add (pv 6) pe_int)) po_none)) (pa_cons pe_non pa_nil)) (by rfl))
        (pss_cons (ps_try_as (i := 17) rfl rfl sc_law.nd rfl rfl ⟨rfl, by decide, .inl TK.gC⟩ takes0 (fun W pn xe tk _ => (pss_one (ps_expr (pe_callS GS (hr.mono (by decide)) (by rfl) mS kS bS (fun σ => passAt tk σ) (pa_cons (pv 2) (pa_cons (pv 15) pa_nil)))))) (fun a oe cls d pn hz hf => (pss_one (ps_set (i := 16) sc_law.nd rfl (by first | exact Or.inl rfl | exact Or.inr rfl) (pe_xf TK.xf TK.no hz hf (pv 17))))))
        (pss_one (ps_if (pt_cmpR op_ne (pv 16) (pe_ifExp (pt_val (pe_c0 c__law_is_table (hr.mono (by decide)) (by rfl) (pa_cons (pv 2) (pa_cons (pv 6) (pa_cons (pe_tupleL (by rfl) B.tuple (pv 13)) pa_nil))))) pe_non (pv 6)) (nomark _))
          (pss_one (ps_ret pe_bl)) pss_nil))))))))
      (pss_one (ps_ret pe_bl)))))))))))))))), ?_⟩
    -- the row
    refine ⟨_, rfl, (by show 4 ≤ sizeLine; decide), fun rr hrr => ?_⟩
    have X0 := Ext.new hrr (.lst [.ref sc, .int 0, .int 1302, .int 0])
    have R0 : Rw K (L2.upd H rr (.lst [.ref sc, .int 0, .int 1302, .int 0])) rr sc ns := ⟨⟨0, 1302, 0⟩, upd_same, ScrAt.new hsc hrr _, hlen, ⟨by decide, by decide, by decide⟩⟩
    have T0 := hTb.ext X0
    generalize L2.upd H rr (.lst [.ref sc, .int 0, .int 1302, .int 0]) = H0 at X0 R0 T0 ⊢
    -- the web
    refine ⟨_, rfl, _, rfl, rr, sc, ns, _, rfl, R0, ⟨by decide, by decide⟩, fun H1 m1 E1 R1 _ hm1 => ⟨_, _, rfl, rfl, ?_⟩⟩
    refine ⟨_, rfl, rr, sc, ns, _, rfl, R1, ⟨by decide, by decide⟩, fun H2 m2 E2 R2 _ hm2 => ⟨_, _, rfl, rfl, ?_⟩⟩
    have T2 := (T0.extB E1).extB E2
    refine ⟨rr, sc, ns, (1 + m1).toNat, 3, (2 + m2).toNat, by rw [show (((1 + m1).toNat : Nat) : Int) = 1 + m1 by omega, show (((2 + m2).toNat : Nat) : Int) = 2 + m2 by omega]; rfl, R2, ⟨by omega, by omega⟩, ⟨by decide, by decide⟩, by omega, fun H3 wv W E3 R3 hW3 ok hnw hmw => ?_⟩
    have h4 : W.tops.length ≤ 4 := by omega
    have T3 := T2.extB E3
    obtain ⟨wa, tv, lv, rfl, _⟩ := id hW3
    -- rules, state
    refine ⟨_, rfl, _, rfl, rr, sc, ns, _, W, rfl, R3, hW3, ok, fun H4 ra us ru E4 R4 hra0 hra hus r0 hb => ?_⟩
    have hW4 := R3.web E4 hW3
    have T4 := T3.extB E4
    refine ⟨_, rfl, _, rfl, rr, sc, ns, _, W, rfl, R4, hW4, ok, fun H5 sa st E5 R5 hsa0 hsa so => ?_⟩
    have hW5 := R4.web E5 hW4
    have T5 := T4.extB E5
    have hra5 := R4.tup E5 hra
    have hus5 := R4.pTI E5 hus
    refine ⟨(by show 2 ≤ sizeLine; decide), fun pu hpu => ⟨pu, _, rfl, upd_same, rfl, _, _, rfl, _, _, rfl, rfl, ?_⟩⟩
    have X6 := Ext.new hpu (.tup [.ref ra, .ref sa])
    have R6 := R5.ext X6
    have hW6 := hW5.ext X6
    have T6 := T5.ext X6
    have hra6 := X6.tup hra5
    have hus6 := pTI.ext X6 hus5
    have hsa6 := X6.tup hsa
    generalize L2.upd H5 pu (.tup [.ref ra, .ref sa]) = H6 at R6 hW6 T6 hra6 hus6 hsa6 ⊢
    clear X6 hW5 T5 hra5 hus5 hsa R5 hW4 T4 hra hus R4 hW3 T3 R3 T2 R2 R1 T0 R0
    have hru6 : TT2 H6 (.ref ra) ru := ⟨ra, us, rfl, hra6, hus6⟩
    have hst6 : TI H6 (.ref sa) st := ⟨sa, rfl, hsa6⟩
    have rok := rules_ok r0 hb
    obtain ⟨wa', tv', lv', e, hwa, ⟨tt, rfl, htt⟩, hlv⟩ := id hW6
    cases e
    have h6 := ok.few
    have h1 := ok.some_
    have lst : st.length = W.tops.length := so.len
    refine ⟨_, rfl, wa, _, _, _, rfl, rfl, hwa, rfl, tt, _, rfl, .inr htt, ?_⟩
    -- what tables tell
    refine ⟨_, rfl, _, rfl, by rw [iv_len]; omega, by rw [iv_len]; omega, fun D hD => ?_⟩
    have en : ((iv W.tops).length : Int).toNat = W.tops.length := by rw [iv_len]; omega
    rw [en]
    refine lc_range (lo := 0) (n := W.tops.length) (fun i H' => H' D = some (.lst (iv ((List.range i).map fun f : Nat => moodTold W ru st (f : Int)))) ∧ Ext H6 H') ⟨upd_same, Ext.new hD _⟩ (fun i H' hi ⟨h1, e1⟩ => ?_) fun H7 ⟨h7, E7⟩ => ?_
    · have ei : (0 : Int) + (i : Int) = (i : Int) := Int.zero_add _
      rw [ei]
      refine ⟨rfl, yes ?_⟩
      refine ⟨_, rfl, _, rfl, _, rfl, _, rfl, _, _, _, W, ru, st, _, rfl, hW6.ext e1, ok, hru6.ext e1, r0, hb, hst6.ext e1, so, ⟨by omega, by omega⟩, T6.ext e1, fun H2 e2 => ?_⟩
      refine ⟨_, e2.lst h1, ?_, ?_, (e1.trans e2).put hD _⟩
      · rw [iv_len, List.length_map, List.length_range]
        exact small1000 (by omega)
      · rw [upd_same, List.range_succ, List.map_append]
        unfold iv
        rw [List.map_append]
        rfl
    have h7' : H7 D = some (.lst (iv (stateTold W ru st))) := by
      rw [h7]
      unfold stateTold
      rw [lst]
    refine ⟨_, rfl, _, rfl, _, rfl, _, _, _, W, ru, st, rfl, hW6.ext E7, ok, hru6.ext E7, rok, hst6.ext E7, so, fun H8 bu E8 hbu0 hbu => ?_⟩
    refine ⟨bu, _, rfl, .inr (SqT.of hbu), fun l hl => ?_⟩
    have EA := E7.trans (E8.trans (Ext.new hl (.lst (iv (stateTold W ru st)))))
    refine ⟨D, l, true, _, _, rfl, (E8.trans (Ext.new hl (.lst (iv (stateTold W ru st))))).lst h7', upd_same, rfl, by rw [iv_len, told_len]; omega, alike_el _ _, fun H9 E9 => ⟨_, rfl, iteF ?_⟩⟩
    have EB := EA.trans E9
    clear h7 h7' hbu hbu0 EA E9 E8 E7
    -- all settled states
    refine ⟨_, rfl, _, rfl, _, _, W, ru, rfl, hW6.ext EB, ok, hru6.ext EB, rok, fun HA da E hda => ?_⟩
    have EC := EB.trans E
    clear E EB
    refine ⟨_, rfl, _, rfl, _, _, W, ru, rfl, hW6.ext EC, ok, hru6.ext EC, r0, T6.ext EC, (fun _ HB u E hu => ?_), (fun f hf => by rw [hb] at hf; cases hf)⟩
    have ED := EC.trans E
    have hdaB := hda.ext E
    clear E
    obtain ⟨_, dvs, e, hdv, pdv⟩ := id hdaB
    cases e
    refine ⟨_, rfl, da, dvs, rfl, hdv, fun dt hdt => ?_⟩
    have EE := ED.trans (Ext.new hdt (.tup dvs))
    have hdaE := hdaB.ext (Ext.new hdt (.tup dvs))
    obtain ⟨_, uvs, e, huv, puv⟩ := hu.ext (Ext.new hdt (.tup dvs))
    cases e
    have luv := paired_len puv
    have ldv := paired_len pdv
    refine ⟨_, dt, false, uvs, dvs, rfl, huv, upd_same, by omega, by have := settled_len ok ru; omega, alike_el2 puv (pTI.ext (Ext.new hdt _) pdv) (settled_row ok), fun HC E => ⟨_, rfl, iteF ?_⟩⟩
    have EF := EE.trans E
    have hdaF := hdaE.ext E
    clear E EE hdaE pdv hdv hu ED hdaB puv huv
    refine ⟨_, rfl, _, rfl, _, rfl, _, _, _, W, ru, st, rfl, hW6.ext EF, ok, hru6.ext EF, r0, hb, hst6.ext EF, so, T6.ext EF, fun HD E => ?_⟩
    have EG := EF.trans E
    have hdaG := hdaF.ext E
    clear E EF hdaF
    refine ⟨_, rfl, _, rfl, st, settledStates W ru, hst6.ext EG, hdaG, ?_⟩
    refine ⟨.inr ⟨decide (st ∈ settledStates W ru), by rw [mem_settled so]; rfl⟩, fun HE E => ⟨_, rfl, iteF ?_⟩⟩
    have EH := EG.trans E
    have hdaH := hdaG.ext E
    clear E EG hdaG
    -- seventy ticks
    refine ⟨_, rfl, (by show 1 ≤ sizeLine; decide), fun L hL => ?_⟩
    refine ⟨_, rfl, by decide, by decide, for_range (lo := 0) (n := 70) (fun i σ H' => ∃ (us : List V) (y : V) (o9 : Option V), σ = [some (.ref sc), some (.ref rr), some (.ref wa), some (.ref ra), some (.ref sa), some (.int (iv W.tops).length), none, some (.ref da), some (.ref L), o9, none, none, none, none, none, none, none, none] ∧ Ext HE H' ∧ H' L = some (.lst (us ++ [y])) ∧ us.length = i ∧ Paired (TI H') us ((List.range i).map (ticks W ru st)) ∧ TI H' y (ticks W ru st i))
      ⟨[], _, none, rfl, Ext.new hL _, upd_same, rfl, .nil, (hst6.ext EH).ext (Ext.new hL _)⟩ ?_ ?_⟩
    · rintro i σ H' hi ⟨us, y, o9, rfl, e, hLs, lus, hp, hy⟩
      have E' := EH.trans e
      refine ⟨_, rfl, ⟨L, _, rfl, hLs⟩, _, rfl, _, rfl, _, rfl, _, rfl, L, _, _, y, rfl, rfl, hLs, atI_last us y, ?_⟩
      refine ⟨_, _, _, W, ru, _, rfl, hW6.ext E', ok, hru6.ext E', rok, hy, ticks_ok ok r0 hb so i, fun H2 u e2 hu0 hu => ?_⟩
      refine ⟨L, _, _, rfl, rfl, e2.lst hLs, ?_, us ++ [y], .ref u, _, rfl, (e.trans e2).put hL _, upd_same, by rw [List.length_append, lus]; rfl, ?_, ?_⟩
      · rw [List.length_append, lus]
        exact small1000 (by simp only [List.length_singleton]; omega)
      · rw [List.range_succ, List.map_append]
        exact pTI.put (e2.lst hLs) (fun _ _ h => h) (paired_snoc (hy.ext e2) (pTI.ext e2 hp))
      · refine ⟨u, rfl, ?_⟩
        rw [upd_ne (ne_of (e2.lst hLs) hu (by intro q; cases q)).symm]
        exact hu
    rintro σ HF ⟨us70, y70, o9, rfl, e, hLs, lus, hp, hy⟩
    have hall : Paired (TI HF) (us70 ++ [y70]) ((List.range 71).map (ticks W ru st)) := by
      rw [List.range_succ, List.map_append]
      exact paired_snoc hy hp
    have EI := EH.trans e
    clear hp hy lus e
    generalize us70 ++ [y70] = vs at hall hLs
    have lvs : vs.length = 71 := by rw [paired_len hall, List.length_map, List.length_range]
    have rows71 : ∀ n, n ≤ 71 → Paired (TI HF) (vs.take n) ((List.range n).map (ticks W ru st)) := fun n hn => by
      have h1 := paired_take n hall
      rw [← List.map_take, List.take_range, Nat.min_eq_left hn] at h1
      exact h1
    -- run
    refine ⟨_, rfl, _, rfl, _, rfl, _, _, _, W, ru, st, 12, rfl, by decide, hW6.ext EI, ok, hru6.ext EI, r0, hb, hst6.ext EI, so, T6.ext EI, fun HG u E hu => ?_⟩
    have EJ := EI.trans E
    refine ⟨_, rfl, 13, rfl, L, vs, rfl, SqL.of (E.lst hLs), fun p hp => ?_⟩
    have X1 := Ext.new hp (.lst (cutV vs none (some 13)))
    refine ⟨p, _, rfl, upd_same, fun q hq => ?_⟩
    have X2 := Ext.new hq (.tup (cutV vs none (some 13)))
    have ecut : cutV vs none (some 13) = vs.take 13 := cut_take vs 13 (by omega)
    obtain ⟨_, uvs, e, huv, puv⟩ := (hu.ext X1).ext X2
    cases e
    have luv := paired_len puv
    rw [List.length_map, List.length_range] at luv
    have pq := pTI.ext (E.trans ((Ext.new hp (.lst (cutV vs none (some 13)))).trans (Ext.new hq (.tup (cutV vs none (some 13)))))) (rows71 13 (by decide))
    rw [← ecut] at pq
    have lcv := paired_len pq
    rw [List.length_map, List.length_range] at lcv
    refine ⟨_, q, false, uvs, cutV vs none (some 13), rfl, huv, upd_same, by rw [lcv, luv], by rw [luv]; decide, alike_el2 puv pq (fun r hr => ?_), fun HH E' => ⟨_, rfl, iteF ?_⟩⟩
    · obtain ⟨n, _, rfl⟩ := List.mem_map.mp hr
      have := (ticks_ok ok r0 hb so n).len
      omega
    have EK := EJ.trans ((X1.trans X2).trans E')
    have hLH := ((X1.trans X2).trans E').lst (E.lst hLs)
    have hallH := pTI.ext (E.trans ((X1.trans X2).trans E')) hall
    clear X1 X2 E' hu E EJ EI hLs rows71 hall ecut puv pq huv
    -- the first tick that is settled
    have tk : ∀ {H' : Hp} (_ : Ext HH H') (n : Nat), n < 71 → ∃ v, vs[n]? = some v ∧ TI H' v (ticks W ru st n) := fun {H'} e n hn => by
      obtain ⟨v, h1, h2⟩ := paired_get (pTI.ext e hallH) (show ((List.range 71).map (ticks W ru st))[n]? = some (ticks W ru st n) by rw [List.getElem?_map, List.getElem?_range hn]; rfl)
      exact ⟨v, h1, h2⟩
    refine ⟨_, rfl, by decide, by decide, fun D2 hD2 => ?_⟩
    refine lc_range (lo := 0) (n := 70) (fun i H' => H' D2 = some (.lst (iv (fixes W ru st i))) ∧ Ext HH H') ⟨by rw [upd_same]; rfl, Ext.new hD2 _⟩ (fun i H' hi ⟨h1, e1⟩ => ?_) fun HI ⟨hI, EL⟩ => ?_
    · have ei : (0 : Int) + (i : Int) = (i : Int) := Int.zero_add _
      rw [ei]
      obtain ⟨v1, g1, t1⟩ := tk e1 i (by omega)
      obtain ⟨v2, g2, t2⟩ := tk e1 (i + 1) (by omega)
      refine ⟨rfl, ?_⟩
      refine ⟨_, rfl, _, rfl, L, _, _, _, rfl, rfl, e1.lst hLH, at_of (j := i) rfl g1, _, rfl, _, rfl, _, _, rfl, rfl, L, _, _, _, rfl, rfl, e1.lst hLH, at_of (j := i + 1) (by omega) g2, _, _, t1, t2, _, rfl, ?_⟩
      have es : fixes W ru st (i + 1) = fixes W ru st i ++ (if Fix W ru st i then [(i : Int)] else []) := by
        unfold fixes
        rw [List.range_succ, List.filter_append, List.map_append, List.filter_cons]
        by_cases hf : Fix W ru st i <;> simp [hf]
      rw [es]
      by_cases hf : ticks W ru st i = ticks W ru st (i + 1)
      · rw [decide_eq_true hf, if_pos (show Fix W ru st i from hf)]
        refine iteT ⟨_, rfl, _, h1, ?_, ?_, e1.put hD2 _⟩
        · rw [iv_len]
          unfold fixes
          rw [List.length_map]
          have := List.length_filter_le (fun k => decide (Fix W ru st k)) (List.range i)
          rw [List.length_range] at this
          exact small1000 (by omega)
        · rw [upd_same]
          unfold iv
          rw [List.map_append]
          rfl
      · rw [decide_eq_false hf, if_neg (show ¬ Fix W ru st i from hf)]
        refine iteF ⟨?_, e1⟩
        rw [h1, List.append_nil]
    have EM := EK.trans EL
    refine ⟨_, rfl, _, rfl, _, rfl, _, _, _, W, ru, st, rfl, hW6.ext EM, ok, h4, hru6.ext EM, r0, hb, hst6.ext EM, so, T6.ext EM, fun fv HJ E hfv => ?_⟩
    have EN := EM.trans E
    refine first_false rfl (E.lst hI) rfl hfv fun HK E' => ?_
    have EO := EN.trans E'
    clear E E' EN EM EL hI EK hLH tk hallH
    refine iteF ?_
    -- tables bent
    have RO := R6.ext EO
    have WO := hW6.ext EO
    have TO := T6.ext EO
    have raO := EO.tup hra6
    have usO := pTI.ext EO hus6
    have waO := EO.tup hwa
    have ttO := EO.tup htt
    clear EO EH
    have lus : us.length = W.tops.length := by rw [paired_len hus6, r0.len]
    refine ⟨_, rfl, by decide, by decide, for_range (lo := 0) (n := 4) (fun i σ H' => ∃ (o6 o9 o12 o13 o14 o15 o16 : Option V), σ = [some (.ref sc), some (.ref rr), some (.ref wa), some (.ref ra), some (.ref sa), some (.int (iv W.tops).length), o6, some (.ref da), some (.ref L), o9, some (.ref D2), some fv, o12, o13, o14, o15, o16, none] ∧ ExtB rr HK H' ∧ Rw K H' rr sc ns)
      ⟨_, _, _, _, _, _, _, rfl, ExtB.refl _ _, RO⟩ ?_ ?_⟩
    · rintro i σ H' hi ⟨o6, o9, o12, o13, o14, o15, o16, rfl, e, R⟩
      refine ⟨_, rfl, _, rfl, rr, sc, ns, _, rfl, R, ⟨by rw [iv_len]; omega, by rw [iv_len]; omega⟩, fun Ha fo Ea Ra same hfo => ?_⟩
      rw [iv_len] at hfo
      have ea := e.trans Ea
      have hfo' : 0 ≤ fo ∧ fo < W.tops.length := hfo
      have tfo := topAt_ok ok hfo.1 hfo.2
      have gru : ru[fo.toNat]? = some (ru.getD fo.toNat []) := by rw [List.getD_eq_getElem?_getD, List.getElem?_eq_getElem (by rw [r0.len]; omega)]; rfl
      obtain ⟨tv0, gtv, ta, rfl, hta⟩ := paired_get (RO.pTI ea usO) gru
      have htb0 := firstBad_none hb fo hfo.1 hfo.2
      have ltb0 : (ru.getD fo.toNat []).length = pr (axes W (looksOf W fo)) := ((isTable_iff ok).mp htb0).1
      have btb0 := ((isTable_iff ok).mp htb0).2.1
      have l256 := table_len ok htb0
      have lpos : 0 < pr (axes W (looksOf W fo)) := pr_pos (axes_ok ok fo)
      refine ⟨_, rfl, _, rfl, ra, _, _, _, rfl, rfl, RO.tup ea raO, at_of (j := fo.toNat) (by omega) gtv, ta, _, rfl, .inr (SqT.of hta), fun T hT => ?_⟩
      have hTr := Ra.ne_none hT
      have hT0 : HK T = none := ea.free hT
      have eb := ea.trans (Ext.new hT (.lst (iv (ru.getD fo.toNat [])))).b
      refine ⟨_, rfl, rr, sc, ns, _, rfl, Ra.new hT _, ⟨by decide, by decide⟩, fun Hb c Eb Rb sameb hc => ⟨_, _, rfl, rfl, ?_⟩⟩
      refine ⟨_, rfl, by omega, by omega, for_range (lo := 0) (n := (1 + c).toNat) (fun j σ H' => ∃ (tb : List Int) (o14 : Option V), σ = [some (.ref sc), some (.ref rr), some (.ref wa), some (.ref ra), some (.ref sa), some (.int (iv W.tops).length), some (.int fo), some (.ref da), some (.ref L), o9, some (.ref D2), some fv, some (.int (0 + (i : Int))), some (.ref T), o14, o15, o16, none] ∧ ExtB rr HK H' ∧ Rw K H' rr sc ns ∧ H' T = some (.lst (iv tb)) ∧ tb.length = pr (axes W (looksOf W fo)) ∧ ∀ m ∈ tb, 0 ≤ m ∧ m ≤ topAt W fo)
        ⟨_, _, rfl, eb.trans Eb, Rb, same_at sameb hTr upd_same, ltb0, btb0⟩ ?_ ?_⟩
      · rintro j σ H' hj ⟨tb, o14, rfl, e, R, hTt, ltb, btb⟩
        refine ⟨_, rfl, _, rfl, wa, _, _, _, rfl, rfl, RO.tup e waO, rfl, _, rfl, tt, _, _, _, rfl, rfl, RO.tup e ttO, at_of (j := fo.toNat) (by omega) (iv_at (topAt_get hfo.1 hfo.2)), _, _, rfl, rfl, rr, sc, ns, _, rfl, R, ⟨by omega, by omega⟩, fun Hc m Ec Rc samec hm => ?_⟩
        have hTc := same_at samec hTr hTt
        refine ⟨_, rfl, _, rfl, _, rfl, T, _, rfl, .inl hTc, rr, sc, ns, _, rfl, Rc, ⟨by rw [iv_len, ltb]; omega, by rw [iv_len, ltb]; omega⟩, fun Hd x Ed Rd samed hx => ?_⟩
        have hTd := same_at samed hTr hTc
        rw [iv_len] at hx
        refine ⟨T, _, _, x.toNat, rfl, rfl, hTd, ?_, tb.set x.toNat m, _, rfl, ((e.trans Ec).trans Ed).put hT0 _, Rd.put RO hT0 _, ?_, by rw [List.length_set]; exact ltb, fun z hz => ?_⟩
        · unfold ixN
          rw [iv_len, if_pos hx.1, if_pos hx.2]
        · rw [upd_same]
          unfold iv
          rw [List.map_set]
        · rcases List.mem_or_eq_of_mem_set hz with h | h
          · exact btb z h
          · rw [h]; omega
      · rintro σ Hv ⟨tb, o14, rfl, e, R, hTt, ltb, btb⟩
        have hra' := RO.tup e raO
        have hus' := RO.pTI e usO
        -- the rules with that table
        refine ⟨_, rfl, _, rfl, fo, rfl, ra, us, rfl, hra', fun Hs p es hp => ?_⟩
        refine ⟨_, rfl, T, _, rfl, es.lst hTt, fun u hu => ⟨(by show 1 ≤ sizeLine; decide), fun q hq => ?_⟩⟩
        have X := (Ext.new hu (.tup (iv tb))).trans (Ext.new hq (.tup [.ref u]))
        have ec1 : cutV us none (some fo) = us.take fo.toNat := by
          have := cut_take us fo.toNat (by omega)
          rw [show ((fo.toNat : Nat) : Int) = fo by omega] at this
          exact this
        refine ⟨p, q, _, _, rfl, rfl, X.tup hp, upd_same, ?_, fun Hc pc ec hpc => ?_⟩
        · rw [ec1, List.length_take]
          exact Nat.le_of_lt (small1000 (by simp only [List.length_singleton]; omega))
        have Y := (es.trans X).trans ec
        refine ⟨_, rfl, _, rfl, _, _, rfl, rfl, _, rfl, ra, us, rfl, Y.tup hra', fun Hs2 p2 es2 hp2 => ?_⟩
        have ec2 : cutV us (some (fo + 1)) none = us.drop (fo.toNat + 1) := by
          have := cut_drop us (fo.toNat + 1) (by omega)
          rw [show ((fo.toNat + 1 : Nat) : Int) = fo + 1 by omega] at this
          exact this
        refine ⟨pc, p2, _, _, rfl, rfl, es2.tup hpc, hp2, ?_, fun Hw pv ew hpv => ?_⟩
        · rw [ec1, ec2, List.length_append, List.length_take, List.length_drop]
          exact Nat.le_of_lt (small1000 (by simp only [List.length_singleton]; omega))
        have Z := (Y.trans es2).trans ew
        have hu' : TI Hw (.ref u) tb := ⟨u, rfl, (((Ext.new hq (.tup [.ref u])).trans ec).trans (es2.trans ew)).tup upd_same⟩
        have hval : TT2 Hw (.ref pv) (ru.set fo.toNat tb) := by
          refine ⟨pv, _, rfl, hpv, ?_⟩
          rw [ec1, ec2]
          exact paired_set (pTI.ext Z hus') (by omega) hu'
        have r0' : Ru0 W (ru.set fo.toNat tb) := by
          refine ⟨by rw [List.length_set]; exact r0.len, fun t ht => ?_⟩
          rcases List.mem_or_eq_of_mem_set ht with h | h
          · exact r0.few t h
          · rw [h]; omega
        have hbad := bad_set (W := W) (ru := ru) (n := fo.toNat) (tb := tb) r0.len (by omega) hb
        rw [show ((fo.toNat : Nat) : Int) = fo by omega] at hbad
        have eZ := e.trans Z.b
        have RZ := R.ext Z
        have WZ := RO.web eZ WO
        have TZ := TO.extB eZ
        have hTZ := Z.lst hTt
        have inv0 : ∀ (H' : Hp) (w16 : Option V), Ext Hw H' → ∃ (p6 p9 p12 p13 p14 p15 p16 : Option V), ([some (.ref sc), some (.ref rr), some (.ref wa), some (.ref ra), some (.ref sa), some (.int (iv W.tops).length), some (.int fo), some (.ref da), some (.ref L), o9, some (.ref D2), some fv, some (.int (0 + (i : Int))), some (.ref T), o14, some (.ref pv), w16, none] : L2.St) = [some (.ref sc), some (.ref rr), some (.ref wa), some (.ref ra), some (.ref sa), some (.int (iv W.tops).length), p6, some (.ref da), some (.ref L), p9, some (.ref D2), some fv, p12, p13, p14, p15, p16, none] ∧ ExtB rr HK H' ∧ Rw K H' rr sc ns :=
          fun H' w16 x => ⟨_, _, _, _, _, _, _, rfl, eZ.trans x.b, RZ.ext x⟩
        refine ⟨_, _, rfl, ?_⟩
        refine ⟨_, rfl, _, rfl, _, _, W, ru.set fo.toNat tb, rfl, WZ, ok, hval, r0', TZ, (fun hnone Hx ux ex hux => ?_), (fun fb hfb Hx dx ex hdx0 hdx => ⟨true, TK.te, (fun _ ax hax => ?_), (fun q => Bool.noConfusion q)⟩)⟩
        · refine word_false ok hfo (WZ.ext ex) rfl rfl rfl (ex.lst hTZ) rfl ltb btb ?_ fun Hy ey => iteF (inv0 Hy _ (ex.trans ey))
          rw [hbad] at hnone
          by_cases ht : isTable W fo tb = true
          · rw [if_pos ht]
          · rw [if_neg ht] at hnone
            cases hnone
        · rw [hbad] at hfb
          by_cases ht : isTable W fo tb = true
          · rw [if_pos ht] at hfb
            cases hfb
          · rw [if_neg ht] at hfb
            have ef : (fb : Int) = fo := by
              have := Option.some.inj hfb
              omega
            refine ⟨_, rfl, rfl, rfl, dx, _, _, rfl, hdx, rfl, ?_⟩
            refine word_false ok hfo (WZ.ext ex) rfl rfl rfl (ex.lst hTZ) rfl ltb btb ?_ fun Hy ey => iteF (inv0 Hy _ (ex.trans ey))
            rw [if_neg ht, ef]
    · rintro σ H' ⟨o6, o9, o12, o13, o14, o15, o16, rfl, e, R⟩
      exact k H'
end
end Lk

/-! ## S1 -/
set_option Elab.async false
set_option linter.all false
set_option maxRecDepth 100000
set_option maxHeartbeats 2000000
/-! Sets of tuples of ints with up to 300 members: their tables, 512 places and fewer. -/
namespace Lk
open PySem PySem.Spec PyProof.Rows L2
variable [Own]
/-! ### 512 places are all met -/
def orbit : Nat → Nat → List Nat
  | 0, _ => []
  | n + 1, x => x :: orbit n ((x * 5 + 1) % 512)
theorem lcg_tail (m : Nat) : ∀ k i, lcgI m ((i * 5 + 1) % (m + 1)) k = lcgI m i (k + 1)
  | 0, _ => rfl
  | k + 1, i => congrArg (fun x => (x * 5 + 1) % (m + 1)) (lcg_tail m k i)
theorem lcg_plus (m i a : Nat) : ∀ k, lcgI m (lcgI m i a) k = lcgI m i (a + k)
  | 0 => rfl
  | k + 1 => congrArg (fun x => (x * 5 + 1) % (m + 1)) (lcg_plus m i a k)
theorem orbit_mem : ∀ n x y, y ∈ orbit n x → ∃ k, k < n ∧ lcgI 511 x k = y
  | 0, _, _, h => by cases h
  | n + 1, x, y, h => by
    rcases List.mem_cons.mp h with e | h
    · exact ⟨0, by omega, e.symm⟩
    · obtain ⟨k, hk, e⟩ := orbit_mem n _ y h
      exact ⟨k + 1, by omega, by rw [← lcg_tail]; exact e⟩
theorem orbit_all : ((List.range 512).all fun j => (orbit 512 0).contains j) = true := by decide +kernel
theorem orbit_back : lcgI 511 0 512 = 0 := by decide +kernel
theorem from0 {j : Nat} (h : j ≤ 511) : ∃ k, k ≤ 511 ∧ lcgI 511 0 k = j := by
  have a := List.all_eq_true.mp orbit_all j (List.mem_range.mpr (by omega))
  obtain ⟨k, hk, e⟩ := orbit_mem _ _ _ (List.contains_iff_mem.mp a)
  exact ⟨k, by omega, e⟩
/-- the masks of the sets told of here -/
def Msk (m : Nat) : Prop := MaskOk m ∨ m = 511
theorem Msk.le {m : Nat} (h : Msk m) : m ≤ 511 ∧ m % 2 = 1 := by
  rcases h with (e | e | e) | e <;> subst e <;> decide
theorem meets {m : Nat} (hm : Msk m) (h : Int) {j : Nat} (hj : j ≤ m) : ∃ n, n ≤ m + 12 ∧ runI m (SetTable.bits h) n = j := by
  rcases hm with hm | rfl
  · exact run_meets hm h hj
  · obtain ⟨a, ha, ea⟩ := from0 (runI_le 511 (SetTable.bits h) 12)
    obtain ⟨b, hb, eb⟩ := from0 hj
    have go : ∀ k, a + k = b ∨ a + k = 512 + b → k ≤ 511 → ∃ n, n ≤ 511 + 12 ∧ runI 511 (SetTable.bits h) n = j := fun k hk hl => by
      refine ⟨12 + k, by omega, ?_⟩
      rw [runI_tail (bits_lt h), ← ea, lcg_plus]
      rcases hk with e | e
      · rw [e]; exact eb
      · rw [e, ← lcg_plus, orbit_back]; exact eb
    by_cases c : a ≤ b
    · exact go (b - a) (.inl (by omega)) (by omega)
    · exact go (512 + b - a) (.inr (by omega)) (by omega)
theorem way_in (m : Nat) (h : Int) (k : Nat) : way m h k ≤ m := by
  have b := runEnd_bd (m := m) (i := SetTable.bits h % (m + 1)) (Nat.le_of_lt_succ (Nat.mod_lt _ (Nat.succ_pos _)))
  have q : (nth m (runAt m (SetTable.bits h % (m + 1)) (SetTable.bits h)) k).j + (nth m (runAt m (SetTable.bits h % (m + 1)) (SetTable.bits h)) k).more ≤ m := nth_in k _ (by
    show SetTable.bits h % (m + 1) + (SetTable.runEnd m (SetTable.bits h % (m + 1)) - SetTable.bits h % (m + 1)) ≤ m
    omega)
  exact Nat.le_trans (Nat.le_add_right _ _) q
/-! ### tables -/
/-- each hash of hs is met on its own way before a place that is free -/
structure Tb (t : SetTable) (hs : List Int) : Prop where
  ris : Ris t.place.toList
  dm : t.dummies = #[]
  sz : t.place.size = hs.length
  msk : Msk t.mask
  bd : ∀ x ∈ t.place.toList, x ≤ t.mask
  reach : ∀ (i : Nat) (h : Int) (j : Nat), hs[i]? = some h → t.place.toList[i]? = some j → ∃ k, way t.mask h k = j ∧ ∀ c, c < k → way t.mask h c ∈ t.place.toList
theorem Tb.first {t : SetTable} {hs : List Int} (T : Tb t hs) (hl : hs.length ≤ t.mask) (h : Int) : ∃ K, K < 10 * SetTable.turns t.mask ∧ way t.mask h K ∉ t.place.toList ∧ ∀ k, k < K → way t.mask h k ∈ t.place.toList := by
  obtain ⟨j, hj, hn⟩ := st_missing t.place.toList (t.mask + 1) (by rw [Array.length_toList, T.sz]; omega)
  obtain ⟨n, h1, h2⟩ := meets T.msk h (Nat.le_of_lt_succ hj)
  obtain ⟨k, h3, h4⟩ := run_nth t.mask (SetTable.bits h) n
  have h5 : way t.mask h k = j := by rw [← h2]; exact congrArg SetTable.Probe.j h4
  obtain ⟨K, a, b, c⟩ := st_least (p := fun k => ¬ way t.mask h k ∈ t.place.toList) k (fun z => hn (h5 ▸ z))
  refine ⟨K, ?_, b, fun k hk => Decidable.of_not_not (c k hk)⟩
  unfold SetTable.turns
  omega
theorem Tb.before {t : SetTable} {hs : List Int} (T : Tb t hs) {h : Int} {K i j : Nat} (hK : way t.mask h K ∉ t.place.toList) (hi : hs[i]? = some h) (hj : t.place.toList[i]? = some j) : ∃ k, k < K ∧ way t.mask h k = j := by
  obtain ⟨k, e, b⟩ := T.reach i h j hi hj
  refine ⟨k, Nat.lt_of_not_le fun z => hK ?_, e⟩
  rcases Nat.eq_or_lt_of_le z with z | z
  · rw [z, e]; exact List.mem_of_getElem? hj
  · exact b K z
theorem Tb.put {t : SetTable} {hs : List Int} (T : Tb t hs) {h : Int} {K j : Nat} (ej : way t.mask h K = j) (hK : j ∉ t.place.toList) (hb : ∀ k, k < K → way t.mask h k ∈ t.place.toList) :
    SetTable.below t.place j ≤ hs.length ∧ Tb (t.put j).1 (hs.take (SetTable.below t.place j) ++ h :: hs.drop (SetTable.below t.place j)) ∧ (t.put j).1.fill = hs.length + 1 := by
  have hp : SetTable.below t.place j ≤ t.place.size := (below_cut T.ris j).1
  have hp1 : SetTable.below t.place j ≤ t.place.toList.length := hp
  have hp2 : SetTable.below t.place j ≤ hs.length := T.sz ▸ hp
  have pl := put_place t j
  have dm := put_dm T.dm j
  have sz : (t.put j).1.place.size = hs.length + 1 := by
    rw [← Array.length_toList, pl, len_ins _ hp1, Array.length_toList, T.sz]
  have old : ∀ {x}, x ∈ t.place.toList → x ∈ (t.put j).1.place.toList := fun {x} hx => by rw [pl]; exact mem_ins.mpr (.inr hx)
  refine ⟨hp2, ⟨ris_insert T.ris fun e => hK (List.mem_of_getElem? (by rw [Array.getElem?_toList]; exact e)), dm, by rw [sz, len_ins _ hp2], T.msk, fun x hx => ?_, fun i g y h1 h2 => ?_⟩, ?_⟩
  · rw [pl] at hx
    rcases mem_ins.mp hx with e | hx
    · rw [e, ← ej]; exact way_in _ _ _
    · exact T.bd x hx
  · show ∃ k, way t.mask g k = y ∧ ∀ c, c < k → way t.mask g c ∈ (t.put j).1.place.toList
    rw [tins_get hs hp2] at h1
    rw [pl, tins_get _ hp1] at h2
    have lift : ∀ i, hs[i]? = some g → t.place.toList[i]? = some y → ∃ k, way t.mask g k = y ∧ ∀ c, c < k → way t.mask g c ∈ (t.put j).1.place.toList := fun i a b =>
      let ⟨k, e, z⟩ := T.reach i g y a b; ⟨k, e, fun c hc => old (z c hc)⟩
    rcases Nat.lt_trichotomy i (SetTable.below t.place j) with c | c | c
    · rw [if_pos c] at h1 h2
      exact lift i h1 h2
    · rw [if_neg (by omega), if_pos c] at h1 h2
      cases h1
      cases h2
      exact ⟨K, ej, fun c hc => old (hb c hc)⟩
    · rw [if_neg (by omega), if_neg (by omega)] at h1 h2
      exact lift (i - 1) h1 h2
  · show (t.put j).1.place.size + (t.put j).1.dummies.size = _
    rw [sz, dm]
    rfl
/-! ### tables laid anew -/
theorem free_at {m : Nat} (hm : Msk m) (owner : Array (Option Nat)) (h : Int) {j : Nat} (hj : j ≤ m) (hf : oAt owner j = none) :
    ∃ K, SetTable.layClean.free m owner (SetTable.turns m) (SetTable.bits h % (m + 1)) (SetTable.bits h) = some (way m h K) ∧ oAt owner (way m h K) = none ∧ ∀ k, k < K → oAt owner (way m h k) ≠ none := by
  obtain ⟨n, h1, h2⟩ := meets hm h hj
  have h3 : oAt owner (way m h (off m (SetTable.bits h % (m + 1)) (SetTable.bits h) n)) = none := by
    have e : way m h (off m (SetTable.bits h % (m + 1)) (SetTable.bits h) n) = j := by
      have e0 := nth_off m n (SetTable.bits h % (m + 1)) (SetTable.bits h)
      rw [itL_run] at e0
      rw [← h2]
      exact congrArg SetTable.Probe.j e0
    rw [e]; exact hf
  obtain ⟨K, a, b, c⟩ := st_least (p := fun k => oAt owner (way m h k) = none) _ h3
  refine ⟨K, free_spec m owner _ n _ _ K (by unfold SetTable.turns; omega) a (fun k hk => ?_) ?_, b, c⟩
  · cases z : oAt owner (nth m (runAt m (SetTable.bits h % (m + 1)) (SetTable.bits h)) k).j with
    | none => exact (c k hk z).elim
    | some _ => rfl
  · rw [show oAt owner (nth m (runAt m (SetTable.bits h % (m + 1)) (SetTable.bits h)) K).j = none from b]; rfl
theorem own_next {m : Nat} (hm : Msk m) {done : List Int} {owner : Array (Option Nat)} (O : L2.Own m done owner) (hl : done.length ≤ m) (h : Int) :
    ∃ j, SetTable.layClean.free m owner (SetTable.turns m) (SetTable.bits h % (m + 1)) (SetTable.bits h) = some j ∧ L2.Own m (done ++ [h]) (owner.setIfInBounds j (some done.length)) := by
  obtain ⟨ps, p1, p2⟩ := O.ps
  obtain ⟨x, hx, nx⟩ := st_missing ps (m + 1) (by omega)
  have fx : oAt owner x = none := Decidable.of_not_not fun z => nx (p2 x (by omega) z)
  obtain ⟨K, e1, e2, e3⟩ := free_at hm owner h (Nat.le_of_lt_succ hx) fx
  have hw : way m h K < owner.size := by rw [O.sz]; exact Nat.lt_succ_of_le (way_in m h K)
  have self := oAt_set_self (owner := owner) (some done.length) hw
  have other : ∀ {i}, i ≠ way m h K → oAt (owner.setIfInBounds (way m h K) (some done.length)) i = oAt owner i := fun h => oAt_set_ne _ h
  have still : ∀ {i}, oAt owner i ≠ none → oAt (owner.setIfInBounds (way m h K) (some done.length)) i ≠ none := fun {i} z => by
    rw [other fun e => z (by rw [e]; exact e2)]
    exact z
  refine ⟨_, e1, ⟨by rw [Array.size_setIfInBounds, O.sz], fun j k hj e => ?_, fun k hk => ?_, way m h K :: ps, by simp [p1], fun j hj e => ?_⟩⟩
  · by_cases c : j = way m h K
    · subst c
      rw [self] at e
      cases e
      exact ⟨h, K, by simp, rfl, fun k' hk' => still (e3 k' hk')⟩
    · rw [other c] at e
      obtain ⟨g, C, a1, a2, a3⟩ := O.at_ j k hj e
      exact ⟨g, C, by rw [List.getElem?_append_left (List.getElem?_eq_some_iff.mp a1).1]; exact a1, a2, fun k' hk' => still (a3 k' hk')⟩
  · by_cases c : k < done.length
    · obtain ⟨j, hj, e⟩ := O.all k c
      exact ⟨j, hj, by rw [other fun z => by rw [z, e2] at e; cases e]; exact e⟩
    · have ek : k = done.length := by simp at hk; omega
      exact ⟨way m h K, way_in m h K, by rw [ek]; exact self⟩
  · by_cases c : j = way m h K
    · rw [c]; exact .head _
    · rw [other c] at e
      exact .tail _ (p2 j hj e)
theorem own_fold {m : Nat} (hm : Msk m) : ∀ (rest done : List Int) (owner : Array (Option Nat)), L2.Own m done owner → done.length + rest.length ≤ m →
    ∃ o2, rest.foldl (stepF m) (some (owner, done.length)) = some (o2, done.length + rest.length) ∧ L2.Own m (done ++ rest) o2
  | [], done, owner, O, _ => ⟨owner, rfl, by rw [List.append_nil]; exact O⟩
  | h :: rest, done, owner, O, hl => by
    have hl' : done.length + (rest.length + 1) ≤ m := hl
    obtain ⟨j, e, O1⟩ := own_next hm O (by omega) h
    have l1 : (done ++ [h]).length = done.length + 1 := by simp
    obtain ⟨o2, e2, O2⟩ := own_fold hm rest (done ++ [h]) _ O1 (by omega)
    refine ⟨o2, ?_, by rw [List.append_assoc] at O2; exact O2⟩
    rw [List.foldl_cons, stepF_some e, ← l1, e2, l1, List.length_cons]
    congr 2
    omega
theorem laid {m : Nat} (hm : Msk m) {hs : Array Int} (hn : hs.size ≤ m) : ∃ owner, SetTable.layClean m hs = some owner ∧ L2.Own m hs.toList owner := by
  obtain ⟨o, e, O⟩ := own_fold hm hs.toList [] _ (Own.init m) (by rw [Array.length_toList]; simpa using hn)
  refine ⟨o, ?_, O⟩
  rw [layClean_eq]
  rw [List.length_nil] at e
  rw [e]
  rfl
theorem relaid_tb (t : SetTable) {hs : Array Int} {wanted M : Nat} (hw : SetTable.sizeAbove wanted - 1 = M) (hM : Msk M) (hn : hs.size ≤ M) :
    ∃ t' order, t.relaid hs wanted = some (t', order) ∧ order.toList.Perm (List.range hs.size) ∧ Tb t' (order.toList.map fun i => hs.getD i 0) ∧ t'.mask = M ∧ t'.led = t.led ∧ t'.plain = t.plain := by
  obtain ⟨owner, e, O⟩ := laid hM hn
  have rl := ris_live (fun j => owner.getD j none) (List.range (M + 1)) (by unfold Ris; first | exact List.pairwise_lt_range | exact List.pairwise_lt_range _)
  have r1 : Ris ((liveOf M owner).map (·.1)) := rl.1
  have r2 : ∀ x ∈ (liveOf M owner).map (·.1), x ∈ List.range (M + 1) := rl.2
  have got : ∀ {j k}, (j, k) ∈ liveOf M owner ↔ j ≤ M ∧ oAt owner j = some k := mem_live O.sz
  have each : ∀ k, k < hs.size → k ∈ (liveOf M owner).map (·.2) := fun k hk => by
    obtain ⟨j, a, b⟩ := O.all k hk
    exact List.mem_map.mpr ⟨(j, k), got.mpr ⟨a, b⟩, rfl⟩
  have len : (liveOf M owner).length = hs.size := by
    obtain ⟨ps, p1, p2⟩ := O.ps
    have u := nat_nodup_len _ ps (r1.imp fun h => Nat.ne_of_lt h) fun x hx => by
      obtain ⟨⟨y, k⟩, hq, rfl⟩ := List.mem_map.mp hx
      have z := got.mp hq
      exact p2 y z.1 (by rw [z.2]; exact fun q => nomatch q)
    have v := nat_nodup_len (List.range hs.size) _ List.nodup_range fun k hk => each k (List.mem_range.mp hk)
    rw [List.length_map] at u v
    rw [List.length_range] at v
    rw [p1, show hs.toList.length = hs.size from rfl] at u
    omega
  refine ⟨tabOf t M owner, ((liveOf M owner).map (·.2)).toArray, by rw [relaid_eq, hw, e]; rfl, perm_range _ _ (by rw [← len]; simp) each, ⟨r1, rfl, by simp [tabOf], hM, fun x hx => Nat.le_of_lt_succ (List.mem_range.mp (r2 x hx)), fun i h j h1 h2 => ?_⟩, rfl, rfl, rfl⟩
  have h1' : (((liveOf M owner).map (·.2)).map fun i => hs.getD i 0)[i]? = some h := h1
  have h2' : ((liveOf M owner).map (·.1))[i]? = some j := h2
  simp only [List.getElem?_map] at h1' h2'
  cases q : (liveOf M owner)[i]? with
  | none => rw [q] at h2'; cases h2'
  | some y =>
    rw [q] at h1' h2'
    cases h2'
    have eh : hs.getD y.2 0 = h := Option.some.inj h1'
    have z := got.mp (List.mem_of_getElem? q)
    obtain ⟨g, K, a1, a2, a3⟩ := O.at_ y.1 y.2 z.1 z.2
    have eg : g = h := by
      rw [← eh, Array.getD_eq_getD_getElem?, ← Array.getElem?_toList, a1]
      rfl
    subst eg
    refine ⟨K, a2, fun c hc => ?_⟩
    show way M g c ∈ (liveOf M owner).map (·.1)
    cases u : oAt owner (way M g c) with
    | none => exact (a3 c hc u).elim
    | some k2 => exact List.mem_map.mpr ⟨(_, k2), got.mpr ⟨way_in M g c, u⟩, rfl⟩
theorem size_5 : SetTable.sizeAbove (SetTable.grown 5) = 32 := by decide +kernel
theorem size_19 : SetTable.sizeAbove (SetTable.grown 19) = 128 := by decide +kernel
theorem size_77 : SetTable.sizeAbove (SetTable.grown 77) = 512 := by decide +kernel
end Lk

/-! ## S2 -/
set_option Elab.async false
set_option linter.all false
set_option maxRecDepth 100000
set_option maxHeartbeats 2000000
/-! Sets of tuples of ints with up to 300 members: searched, added to, counted. -/
namespace Lk
open PySem PySem.Spec PyProof.Rows L2
variable [Own]
abbrev keysOf (P : Program) (w : World) (L : List (Addr × List Int)) : List Int := L.map fun p => thash P w p.2
/-- the set object at a has the tuples of L -/
structure Tr (P : Program) (w : World) (h : Heap) (a : Addr) (L : List (Addr × List Int)) (es : Array (Int × Value)) (ep : Nat) (t : SetTable) : Prop where
  ob : ∃ o, h.get? a = some o ∧ o.ExactSet ∧ o.data = .set es ep t
  rows : es.toList = L2.rowsOf P w L
  tab : Tb t (keysOf P w L)
  nd : (L.map (·.2)).Nodup
  plain : t.plain = true
  led : w.params.followText "set-order" = true ∨ t.led = true
  room : L.length * 5 < t.mask * 3
  few : L.length ≤ 300
section
variable {P : Program} {w : World} {A : Around} {E : Value → Shared → Prop} {s : Shared} {a : Addr} {L : List (Addr × List Int)} {es : Array (Int × Value)} {ep : Nat} {t : SetTable}
theorem rows_size (h : es.toList = L2.rowsOf P w L) : es.size = L.length := by
  have := congrArg List.length h
  unfold L2.rowsOf at this
  simpa using this
theorem rows_at (h : es.toList = L2.rowsOf P w L) {i : Nat} {p : Addr × List Int} (e : L[i]? = some p) : es[i]? = some (thash P w p.2, Value.ref p.1) := by
  rw [← Array.getElem?_toList, h]
  unfold L2.rowsOf
  rw [List.getElem?_map, e]
  rfl
theorem fits_of {n : Nat} (h1 : t.place.size = n) (h2 : t.dummies = #[]) (h3 : n ≤ t.mask) : t.fits n = true := by
  unfold SetTable.fits SetTable.fill
  rw [h2, h1]
  simpa using h3
theorem Tr.psz {h : Heap} (R : Tr P w h a L es ep t) : t.place.size = es.size := by
  rw [rows_size R.rows, R.tab.sz, List.length_map]
theorem Tr.fits {h : Heap} (R : Tr P w h a L es ep t) : t.fits es.size = true := by
  refine fits_of R.psz R.tab.dm ?_
  rw [rows_size R.rows]
  have := R.room
  omega
theorem not_gave (h : Msk t.mask) : ¬ t.gaveWay = true := by
  unfold SetTable.gaveWay
  rw [h.le.2]
  decide
theorem no_dummy (m : Nat) : ∀ (n : Nat) (p : SetTable.Probe), p.dummy = none → (nth m p n).dummy = none
  | 0, _, h => h
  | n + 1, p, h => no_dummy m n (adv m p) (by unfold adv; split <;> exact h)
abbrev pr0 (m : Nat) (h : Int) : SetTable.Probe := runAt m (SetTable.bits h % (m + 1)) (SetTable.bits h)
/-- a search from its c-th step on -/
theorem find_from (R : Tr P w s.heap a L es ep t) (tup : ∀ p ∈ L, IsT P w s.heap p.2 p.1) {x : Addr} {k : List Int} (hx : IsT P w s.heap k x) (hu : A.units < cLine) (adding : Bool) {K : Nat} (hf0 : K < 10 * SetTable.turns t.mask)
    (hK : way t.mask (thash P w k) K ∉ t.place.toList) (hb : ∀ c, c < K → way t.mask (thash P w k) c ∈ t.place.toList) {Q : SetFound → Shared → Prop}
    (hin : ∀ (i : Nat) p, L[i]? = some p → p.2 = k → Q (.there (if adding then none else some i)) s) (hout : k ∉ L.map (·.2) → Q (.free (way t.mask (thash P w k) K) false) s) :
    ∀ (f c : Nat) (stand : Option SetTable.Probe), stand.getD (t.probeStart (thash P w k)) = nth t.mask (pr0 t.mask (thash P w k)) c → c ≤ K → K - c < f →
      (∀ (i : Nat) p, L[i]? = some p → p.2 = k → ∃ d, c ≤ d ∧ d < K ∧ t.place.toList[i]? = some (way t.mask (thash P w k) d)) → wpAny (model P w) A (setSearchFrom a (.ref x) (thash P w k) adding f stand) Q E s
  | 0, _, _, _, _, h, _ => absurd h (Nat.not_lt_zero _)
  | f + 1, c, stand, hst, hc, hf, hre => by
    obtain ⟨o, ho, hex, hd⟩ := R.ob
    have hg : ∀ q, nth t.mask (nth t.mask (pr0 t.mask (thash P w k)) c) q = nth t.mask (pr0 t.mask (thash P w k)) (c + q) := fun q => (nth_add t.mask c _ q).symm
    have hj : ∀ q, (nth t.mask (nth t.mask (pr0 t.mask (thash P w k)) c) q).j = way t.mask (thash P w k) (c + q) := fun q => by rw [hg]
    have eK : c + (K - c) = K := by omega
    have hash : ∀ {i : Nat} {p : Addr × List Int}, L[i]? = some p → (es[i]?.map (·.1)).getD 0 = thash P w p.2 := fun {i p} e => by
      rw [rows_at R.rows e]
      rfl
    have sp := go_spec t R.tab.ris R.tab.dm (fun i => (es[i]?.map (·.1)).getD 0) (thash P w k) (10 * SetTable.turns t.mask) (K - c) (nth t.mask (pr0 t.mask (thash P w k)) c) (no_dummy _ _ _ rfl) (by omega)
      (fun q hq => by rw [hj]; exact hb _ (by omega)) (by rw [hj, eK]; exact hK)
    rw [setSearchFrom_succ]
    refine wpAny_bind (wpAny_setState_of ho hd R.fits ?_)
    dsimp only
    refine wp_if_neg (not_gave R.tab.msk) ?_
    try refine wpAny_bind (wpAny_pure ?_)
    rw [hst]
    rcases sp with ⟨q, i, hq, hi, hh, hno, hp⟩ | ⟨hno, hp⟩
    · have hp' : t.probe (fun i => (es[i]?.map (·.1)).getD 0) (thash P w k) (nth t.mask (pr0 t.mask (thash P w k)) c) = some (.candidate (way t.mask (thash P w k) (c + q)) i (nth t.mask (pr0 t.mask (thash P w k)) (c + (q + 1)))) := by
        rw [← hj, ← hg]; exact hp
      rw [hp']
      dsimp only
      rw [hj] at hi
      have hlive := slot_live R.tab.ris hi
      obtain ⟨p, hp0⟩ : ∃ p, L[i]? = some p := by
        have h1 := (List.getElem?_eq_some_iff.mp hi).1
        rw [Array.length_toList, R.tab.sz, List.length_map] at h1
        exact ⟨_, List.getElem?_eq_getElem h1⟩
      have go : wpAny (model P w) A (searchRest a (.ref x) (thash P w k) adding f es t (way t.mask (thash P w k) (c + q)) i (nth t.mask (pr0 t.mask (thash P w k)) (c + (q + 1)))) Q E s := by
        unfold searchRest
        rw [rows_at R.rows hp0]
        dsimp only
        refine wpAny_bind (wpAny_holding (wpAny_eqBool_tuple hu (tup p (List.mem_of_getElem? hp0)) hx ?_))
        refine wpAny_bind (wpAny_setState_of ho hd R.fits ?_)
        dsimp only
        have same : ∀ {S : Bool}, (S = true → Q (.there (some i)) s) → (S = false → wpAny (model P w) A (setSearchFrom a (.ref x) (thash P w k) adding f (some (nth t.mask (pr0 t.mask (thash P w k)) (c + (q + 1))))) Q E s) →
            wpAny (model P w) A (do
              let some same := t.sameMemory t.moves t.mask | unsupported "set.changed-during-lookup:is-the-new-block-at-the-old-address"
              let still ← match (if same then t.slot (way t.mask (thash P w k) (c + q)) else .empty) with
                | .live i' => match es[i']? with
                  | some (_, y') => do pure (if ← isSame y' (.ref p.1) then some i' else none)
                  | none => pure none
                | _ => pure none
              match still with
              | none => rule "set.search.anew"; setSearchFrom a (.ref x) (thash P w k) adding f none
              | some i' => if S then return .there (some i') else setSearchFrom a (.ref x) (thash P w k) adding f (some (nth t.mask (pr0 t.mask (thash P w k)) (c + (q + 1))))) Q E s := fun {S} h1 h2 => by
          rw [sameMem]
          dsimp only
          simp only [if_true, hlive, rows_at R.rows hp0]
          refine wpAny_bind (wpAny_isSame_ref_self (wpAny_bind (wpAny_pure ?_)))
          simp only [if_true]
          cases S with
          | true => exact wp_if_pos rfl (wpAny_pure (h1 rfl))
          | false => exact wp_if_neg (by decide) (h2 rfl)
        by_cases hk : p.2 = k
        · have hq0 := hin i p hp0 hk
          cases adding with
          | true => exact wp_if_pos (by simp [hk]) (wpAny_pure hq0)
          | false =>
            refine wp_if_neg (by simp) ?_
            try refine wpAny_bind (wpAny_pure ?_)
            exact same (fun _ => hq0) fun z => absurd z (by simp [hk])
        · refine wp_if_neg (by simp [hk]) ?_
          try refine wpAny_bind (wpAny_pure ?_)
          refine same (fun z => absurd z (by simp [hk])) fun _ => find_from R tup hx hu adding hf0 hK hb hin hout f (c + (q + 1)) _ rfl (by omega) (by omega) fun i0 p0 h0 hk0 => ?_
          obtain ⟨d, d1, d2, d3⟩ := hre i0 p0 h0 hk0
          refine ⟨d, Nat.lt_of_not_le fun z => ?_, d2, d3⟩
          have z : d ≤ c + q := z
          rcases Nat.eq_or_lt_of_le z with z | z
          · rw [z] at d3
            have u := slot_live R.tab.ris d3
            rw [hlive] at u
            cases u
            rw [hp0] at h0
            cases h0
            exact hk hk0
          · refine hno (d - c) i0 (by omega) (by rw [hj, show c + (d - c) = d by omega]; exact d3) ?_
            rw [hash h0, hk0]
      by_cases hl : t.led = true
      · refine wp_if_neg (by simp [hl]) ?_
        try refine wpAny_bind (wpAny_pure ?_)
        exact go
      · refine wp_if_pos (by simp [hl]) ?_
        refine wpAny_bind (seen_tup hx (fun y hy => ?_) ?_)
        · obtain ⟨e, he, rfl⟩ := List.mem_map.mp hy
          have h1 : e ∈ es.toList := by
            have : e ∈ es ∧ e.1 = thash P w k := by simpa using he
            simpa using this.1
          rw [R.rows] at h1
          obtain ⟨p2, m2, rfl⟩ := List.mem_map.mp h1
          exact ⟨p2.2, p2.1, rfl, tup p2 m2⟩
        · refine wp_if_neg (by decide) ?_
          try refine wpAny_bind (wpAny_pure ?_)
          exact go
    · have hp' : t.probe (fun i => (es[i]?.map (·.1)).getD 0) (thash P w k) (nth t.mask (pr0 t.mask (thash P w k)) c) = some (.empty (way t.mask (thash P w k) K) none) := by
        have e2 := hj (K - c)
        rw [eK] at e2
        rw [← e2]; exact hp
      rw [hp']
      dsimp only
      refine wpAny_pure (hout fun hm => ?_)
      obtain ⟨p0, m0, hk0⟩ := List.mem_map.mp hm
      obtain ⟨i0, h0⟩ := List.getElem?_of_mem m0
      obtain ⟨d, d1, d2, d3⟩ := hre i0 p0 h0 hk0
      refine hno (d - c) i0 (by omega) (by rw [hj, show c + (d - c) = d by omega]; exact d3) ?_
      rw [hash h0, hk0]
theorem find_at (R : Tr P w s.heap a L es ep t) (tup : ∀ p ∈ L, IsT P w s.heap p.2 p.1) {x : Addr} {k : List Int} (hx : IsT P w s.heap k x) (hu : A.units < cLine) (adding : Bool) {Q : SetFound → Shared → Prop}
    (hin : ∀ (i : Nat) p, L[i]? = some p → p.2 = k → Q (.there (if adding then none else some i)) s)
    (hout : ∀ K, k ∉ L.map (·.2) → way t.mask (thash P w k) K ∉ t.place.toList → (∀ c, c < K → way t.mask (thash P w k) c ∈ t.place.toList) → Q (.free (way t.mask (thash P w k) K) false) s) :
    wpAny (model P w) A (setSearch a (.ref x) (thash P w k) adding) Q E s := by
  have hr := R.room
  obtain ⟨K, h1, h2, h3⟩ := R.tab.first (by rw [List.length_map]; omega) (thash P w k)
  have hb : K < 100000 := by
    have := R.tab.msk.le.1
    unfold SetTable.turns at h1
    omega
  unfold setSearch
  refine find_from R tup hx hu adding h1 h2 h3 hin (fun z => hout K z h2 h3) 100000 0 none rfl (Nat.zero_le _) (by omega) fun i p hp hk => ?_
  have hi : (keysOf P w L)[i]? = some (thash P w k) := by rw [List.getElem?_map, hp, ← hk]; rfl
  have hl : i < t.place.toList.length := by
    rw [Array.length_toList, R.tab.sz]
    exact (List.getElem?_eq_some_iff.mp hi).1
  obtain ⟨d, h4, h5⟩ := R.tab.before h2 hi (List.getElem?_eq_getElem hl)
  exact ⟨d, Nat.zero_le _, h4, by rw [List.getElem?_eq_getElem hl, h5]⟩
end
end Lk

/-! ## S3 -/
set_option Elab.async false
set_option linter.all false
set_option maxRecDepth 100000
set_option maxHeartbeats 2000000
namespace Lk
open PySem PySem.Spec PyProof.Rows L2
variable [Own]
section
variable {P : Program} {w : World} {A : Around} {E : Value → Shared → Prop} {s : Shared} {a : Addr} {L : List (Addr × List Int)} {es : Array (Int × Value)} {ep : Nat} {t : SetTable}
/-- all laid anew in a larger table -/
theorem relay_tr {o : Obj} (ho : s.heap.get? a = some o) (hex : o.ExactSet) (hd : o.data = .set es ep t) (rows : es.toList = L2.rowsOf P w L) (T : Tb t (keysOf P w L)) (nd : (L.map (·.2)).Nodup) (pl : t.plain = true)
    (ld : w.params.followText "set-order" = true ∨ t.led = true) (few : L.length ≤ 300) (fit : L.length ≤ t.mask) {wanted M : Nat} (hw : SetTable.sizeAbove wanted - 1 = M) (hM : Msk M) (hs : SetTable.sizeAbove wanted ≤ 512) (hn : L.length * 5 < M * 3) {Q : Unit → Shared → Prop}
    (q : ∀ h' L' es' ep' t', Heap.SameBut a s.heap h' → Tr P w h' a L' es' ep' t' → L'.Perm L → Q () { s with heap := h' }) : wpAny (model P w) A (setRelay a wanted) Q E s := by
  have sz := rows_size rows
  have psz : t.place.size = es.size := by rw [sz, T.sz, List.length_map]
  obtain ⟨t', order, e, hp, T', em, el, epl⟩ := relaid_tb t (hs := es.map (·.1)) hw hM (by rw [Array.size_map, sz]; omega)
  rw [Array.size_map, sz] at hp
  obtain ⟨L2, r1, r2, r3⟩ := order_rows L es order rows hp
  have sz2 : (order.filterMap (es[·]?)).size = es.size := by rw [rows_size r1, sz, r2.length_eq]
  rw [setRelay_eq]
  refine wpAny_bind (wpAny_setState_of ho hd (fits_of psz T.dm (by omega)) ?_)
  dsimp only
  refine wp_if_neg (by rw [sizeLine_eq]; omega) ?_
  try refine wpAny_bind (wpAny_pure ?_)
  rw [e]
  dsimp only
  refine wpAny_bind ?_
  refine wp_if_neg (by rw [sz2]; simp) ?_
  try refine wpAny_bind (wpAny_pure ?_)
  refine wpAny_pure ?_
  dsimp only
  refine wpAny_storeSet_of ho hd ?_ (by rw [sz2, sz, sizeLine_eq]; omega)
  refine q _ L2 (order.filterMap (es[·]?)) (ep + 1) t' (Heap.SameBut.update ..) ⟨⟨_, store_at ho hd, ⟨hex.1, hex.2.1, hex.2.2⟩, rfl⟩, r1, by rw [← r3] at T'; exact T', (r2.map (·.2)).nodup_iff.mpr nd, by rw [epl]; exact pl, by rw [el]; exact ld, by rw [r2.length_eq, em]; exact hn, by rw [r2.length_eq]; exact few⟩ r2
/-- one tuple that is not in it yet is added -/
theorem add_tr (R : Tr P w s.heap a L es ep t) (tup : ∀ p ∈ L, IsT P w s.heap p.2 p.1) {x : Addr} {k : List Int} (hx : IsT P w s.heap k x) (hu : A.units < cLine) (few : L.length + 1 ≤ 300) (hm : k ∉ L.map (·.2)) {Q : Bool → Shared → Prop}
    (q : ∀ h' L' es' ep' t', Heap.SameBut a s.heap h' → Tr P w h' a L' es' ep' t' → L'.Perm ((x, k) :: L) → Q true { s with heap := h' }) : wpAny (model P w) A (setAddHashed a (.ref x) (thash P w k)) Q E s := by
  obtain ⟨o, ho, hex, hd⟩ := R.ob
  have sz := rows_size R.rows
  have room := R.room
  unfold setAddHashed
  refine wpAny_holding ?_
  rw [show (100000 : Nat) = 99999 + 1 from rfl, setAddHashedIn_succ]
  refine wpAny_bind (wpAny_setState_of ho hd R.fits ?_)
  dsimp only
  refine wp_if_neg (by simp [byScan, Value.scannable]) ?_
  try refine wpAny_bind (wpAny_pure ?_)
  refine wpAny_bind (find_at R tup hx hu true (fun i p hp hk => absurd (List.mem_map.mpr ⟨p, List.mem_of_getElem? hp, hk⟩) hm) fun K _ hK hb => ?_)
  dsimp only
  refine wpAny_bind (wpAny_setState_of ho hd R.fits ?_)
  dsimp only
  obtain ⟨j, hj⟩ : ∃ j, way t.mask (thash P w k) K = j := ⟨_, rfl⟩
  rw [hj] at hK ⊢
  obtain ⟨b1, T1, fl⟩ := R.tab.put hj hK hb
  have e2 : (t.put j).2 = SetTable.below t.place j := rfl
  have em : (t.put j).1.mask = t.mask := rfl
  have hp1 : (t.put j).1.plain = true := R.plain
  have ld1 : w.params.followText "set-order" = true ∨ (t.put j).1.led = true := R.led
  generalize t.put j = pt at e2 em hp1 ld1 T1 fl ⊢
  obtain ⟨t1, p⟩ := pt
  dsimp only at e2 em hp1 ld1 T1 fl ⊢
  rw [← e2] at b1 T1
  clear e2
  first
    | (refine wpAny_bind ?_; refine wp_if_pos hp1 ?_; refine hashBy_tup hx ?_)
    | refine wp_if_pos hp1 (wpAny_bind (hashBy_tup hx ?_))
  simp only [if_true]
  have rows1 : (SetTable.insertAt es p (thash P w k, Value.ref x)).toList = L2.rowsOf P w (L.take p ++ (x, k) :: L.drop p) := by rw [SetTable.toList_insertAt, rows_put, R.rows]
  have pm := put_perm L p (x, k)
  have T2 : Tb t1 (keysOf P w (L.take p ++ (x, k) :: L.drop p)) := by
    show Tb t1 ((L.take p ++ (x, k) :: L.drop p).map _)
    rw [List.map_append, List.map_cons, List.map_take, List.map_drop]
    exact T1
  have len := pm.length_eq
  rw [List.length_cons] at len
  have nd1 : ((L.take p ++ (x, k) :: L.drop p).map (·.2)).Nodup := (pm.map (·.2)).nodup_iff.mpr (List.nodup_cons.mpr ⟨hm, R.nd⟩)
  generalize SetTable.insertAt es p (thash P w k, Value.ref x) = es1 at rows1 ⊢
  generalize L.take p ++ (x, k) :: L.drop p = L1 at pm T2 nd1 rows1 len
  have sz1 := rows_size rows1
  refine wpAny_bind (wpAny_storeSet_of ho hd ?_ (by rw [sz1, sizeLine_eq]; omega))
  have sb : Heap.SameBut a s.heap (s.heap.update a (Obj.putSet es1 t1)) := Heap.SameBut.update ..
  have ho1 := store_at (es' := es1) (t' := t1) ho hd
  generalize s.heap.update a (Obj.putSet es1 t1) = h1 at sb ho1 ⊢
  rw [List.length_map] at fl
  by_cases hf : t1.tooFull = true
  · first
      | (refine wpAny_bind ?_; refine wp_if_pos (by simp [hf]) ?_)
      | (refine wp_if_pos (by simp [hf]) ?_; refine wpAny_bind ?_)
    have full : (L.length + 1) * 5 ≥ t1.mask * 3 := by
      unfold SetTable.tooFull at hf
      rw [decide_eq_true_eq, fl] at hf
      exact hf
    rw [sz]
    have go : ∀ M, SetTable.sizeAbove (SetTable.grown (L.length + 1)) - 1 = M → Msk M → SetTable.sizeAbove (SetTable.grown (L.length + 1)) ≤ 512 → (L.length + 1) * 5 < M * 3 → L.length + 1 ≤ t.mask →
        wpAny (model P w) A (setRelay a (SetTable.grown (L.length + 1))) (fun _ s' => wpAny (model P w) A (pure true) Q E s') E { s with heap := h1 } := fun M g1 g2 g3 g4 g5 =>
      relay_tr (s := { s with heap := h1 }) ho1 ⟨hex.1, hex.2.1, hex.2.2⟩ rfl rows1 T2 nd1 hp1 ld1 (by omega) (by rw [len, em]; exact g5) g1 g2 g3 (by rw [len]; exact g4) fun h2 L2 es2 ep2 t2 sb2 R2 pm2 => wpAny_pure (q h2 L2 es2 ep2 t2 (sb.trans sb2) R2 (pm2.trans pm))
    rw [em] at full
    rcases R.tab.msk with (e | e | e) | e
    · have hl : L.length = 4 := by omega
      exact go 31 (by rw [hl, size_5]) (.inl (.inr (.inl rfl))) (by rw [hl, size_5]; decide) (by omega) (by omega)
    · have hl : L.length = 18 := by omega
      exact go 127 (by rw [hl, size_19]) (.inl (.inr (.inr rfl))) (by rw [hl, size_19]; decide) (by omega) (by omega)
    · have hl : L.length = 76 := by omega
      exact go 511 (by rw [hl, size_77]) (.inr rfl) (by rw [hl, size_77]; decide) (by omega) (by omega)
    · omega
  · first
      | refine wp_if_neg (by simp [hf]) ?_
      | (refine wpAny_bind ?_; refine wp_if_neg (by simp [hf]) ?_; refine wpAny_pure ?_)
    refine wpAny_pure (q h1 L1 es1 (ep + 1) t1 sb ⟨⟨_, ho1, ⟨hex.1, hex.2.1, hex.2.2⟩, rfl⟩, rows1, T2, nd1, hp1, ld1, ?_, by omega⟩ pm)
    unfold SetTable.tooFull at hf
    rw [decide_eq_true_eq, fl] at hf
    rw [len]
    omega
/-- x in the set, asked -/
theorem has_tr (R : Tr P w s.heap a L es ep t) (tup : ∀ p ∈ L, IsT P w s.heap p.2 p.1) {x : Addr} {k : List Int} (hx : IsT P w s.heap k x) (hu : A.units < cLine) {Q : Option Nat → Shared → Prop}
    (q : ∀ r : Option Nat, r.isSome = decide (k ∈ L.map (·.2)) → Q r s) : wpAny (model P w) A (setFind a (.ref x) (thash P w k)) Q E s := by
  obtain ⟨o, ho, hex, hd⟩ := R.ob
  unfold setFind
  rw [show (100000 : Nat) = 99999 + 1 from rfl]
  unfold setFindIn
  refine wpAny_bind (wpAny_setState_of ho hd R.fits ?_)
  dsimp only
  refine wp_if_neg (by simp [byScan, Value.scannable]) ?_
  try refine wpAny_bind (wpAny_pure ?_)
  refine wpAny_bind (find_at R tup hx hu false (fun i p hp hk => ?_) fun K hn _ _ => ?_)
  · have hm : k ∈ L.map (·.2) := List.mem_map.mpr ⟨p, List.mem_of_getElem? hp, hk⟩
    exact wpAny_pure (q (some i) (by rw [decide_eq_true hm]; rfl))
  · exact wpAny_pure (q none (by rw [decide_eq_false hn]; rfl))
theorem Tr.ty {h : Heap} (R : Tr P w h a L es ep t) : ∃ o, h.get? a = some o ∧ o.cls = .type "set" ∧ o.dict = none := by
  obtain ⟨o, ho, hex, _⟩ := R.ob
  exact ⟨o, ho, hex.1, hex.2.1⟩
/-- k not in seen -/
theorem notin_tr (R : Tr P w s.heap a L es ep t) (tup : ∀ p ∈ L, IsT P w s.heap p.2 p.1) {x : Addr} {k : List Int} (hx : IsT P w s.heap k x) (hu : A.units + 64 < cLine) {Q : Value → Shared → Prop}
    (q : ∀ tk, Q (.bool (!decide (k ∈ L.map (·.2)))) { s with toks := tk }) : wpAny (model P w) A (compareOp .NotIn (.ref x) (.ref a)) Q E s := by
  obtain ⟨o, ho, hc, hn⟩ := R.ty
  have hT : s.TypeIs (.ref a) "set" := ⟨o, ho, hc⟩
  have hu1 : A.in1.units < cLine := show A.units + 1 < cLine by omega
  show wpAny _ _ (do return .bool (!(← contains (.ref a) (.ref x)))) Q E s
  refine wpAny_bind ?_
  unfold contains
  try with_reducible refine wpAny_holding ?_
  refine wpAny_bind (wpAny_specialOf hT F.slot_set_contains.lookup ?_)
  show wpAny _ _ (if (some (Value.builtin "set.__contains__") == some Value.none) = true then _ else _) _ E s
  rw [if_neg (by rw [beq_builtin_none]; exact Bool.false_ne_true)]
  refine wpAny_bind (wpAny_callSpecialUnlessNone?_slot (name := Str.ofString "__contains__") hT F.slot_set_contains (wpAny_call_entry F.slot_set_contains hT entry_set_contains ?_ (F.args_set_contains_2 _ _)))
  unfold Builtin.«frozenset.__contains__» Builtin.Frozenset.oneOther
  simp only [List.isEmpty_nil, bind_assoc]
  unfold Builtin.Frozenset.addrOf Builtin.Frozenset.withSetAsKey setContains
  refine wpAny_bind (wpAny_pure ?_)
  try dsimp only
  refine wpAny_bind (wpAny_pure ?_)
  try dsimp only
  refine wpAny_bind (wpAny_tryCatch ?_)
  refine wpAny_holding ?_
  refine wpAny_bind (wpAny_pyHash_tuple hu1 hx ?_)
  refine wpAny_bind (has_tr (s := { s with toks := s.toks + (k.length + 1) }) R tup hx hu1 fun r hr => ?_)
  refine wpAny_pure ?_
  show wpAny _ _ (ret (Value.bool r.isSome)) _ _ _
  rw [hr]
  exact wpAny_pure ⟨_, rfl, wpAny_truthy_bool (wpAny_pure (q _))⟩
/-- seen.add(k) -/
theorem sadd_tr (R : Tr P w s.heap a L es ep t) (tup : ∀ p ∈ L, IsT P w s.heap p.2 p.1) {x : Addr} {k : List Int} (hx : IsT P w s.heap k x) (hu : A.units + 64 < cLine) (few : L.length + 1 ≤ 300) (hm : k ∉ L.map (·.2)) {Q : Value → Shared → Prop}
    (q : ∀ h' tk L' es' ep' t', Heap.SameBut a s.heap h' → Tr P w h' a L' es' ep' t' → L'.Perm ((x, k) :: L) → Q .none { s with heap := h', toks := tk }) : wpAny (model P w) A (call (.builtin "set.add") [.ref a, .ref x]) Q E s := by
  obtain ⟨o, ho, hc, hn⟩ := R.ty
  have hT : s.TypeIs (.ref a) "set" := ⟨o, ho, hc⟩
  have hu1 : A.in1.units < cLine := show A.units + 1 < cLine by omega
  refine wpAny_call_entry F.slot_set_add hT F.entry_set_add ?_ (F.args_set_add_2 _ _)
  unfold Builtin.«set.add» Builtin.Frozenset.oneOther
  simp only [List.isEmpty_nil, bind_assoc]
  unfold Builtin.Frozenset.addrOf setAdd
  refine wpAny_bind (wpAny_pure ?_)
  try dsimp only
  refine wpAny_bind (wpAny_pure ?_)
  try dsimp only
  refine wpAny_bind ?_
  refine wpAny_holding ?_
  refine wpAny_bind (wpAny_pyHash_tuple hu1 hx ?_)
  refine add_tr (s := { s with toks := s.toks + (k.length + 1) }) R tup hx hu1 few hm fun h' L' es' ep' t' sb R' pm => ?_
  show wpAny _ _ (ret Value.none) _ _ _
  exact wpAny_pure ⟨_, rfl, q h' _ L' es' ep' t' sb R' pm⟩
end
end Lk

/-! ## S4 -/
set_option Elab.async false
set_option linter.all false
set_option maxRecDepth 100000
set_option maxHeartbeats 2000000
namespace Lk
open PySem PySem.Spec PyProof.Rows L2 Gx
variable [Own]
/-- the set at a, the tuples themselves aside -/
structure Ts (P : Program) (w : World) (h : Heap) (a : Addr) (L : List (Addr × List Int)) : Prop where
  ex : ∃ es ep t, Tr P w h a L es ep t
def SetTs (P : Program) (w : World) (a : Addr) (L : List (Addr × List Int)) : HO := .ext fun h => Ts P w h a L
theorem setTs_new {P : Program} {w : World} {H : Hp} {h : Heap} {a : Addr} {L : List (Addr × List Int)} (R : Ts P w h a L) : ObjOk P w H h a (SetTs P w a L) := by
  obtain ⟨es, ep, t, T⟩ := R.ex
  obtain ⟨o, ho, r⟩ := T.ob
  refine ⟨R, ⟨o, ho⟩, fun h1 h2 p k => ?_⟩
  obtain ⟨es, ep, t, T⟩ := Ts.ex p
  obtain ⟨o, ho, r⟩ := T.ob
  exact ⟨es, ep, t, ⟨⟨o, k o ho, r⟩, T.rows, T.tab, T.nd, T.plain, T.led, T.room, T.few⟩⟩
section
variable {X : Cx} {pins : List (Addr × Obj)} {σ : L2.St} {H : Hp} {s : Shared} {a : Addr} {L : List (Addr × List Int)}
theorem setTs_get (I : Inv X pins σ H s) (ha : H a = some (SetTs X.prog X.w a L)) : ∃ es ep t, Tr X.prog X.w s.heap a L es ep t := Ts.ex (I.hok a _ ha).1
/-- the tuples of L stand in the heap -/
def Tups (H : Hp) (L : List (Addr × List Int)) : Prop := ∀ p ∈ L, H p.1 = some (.tup (p.2.map V.int))
theorem tups_is (I : Inv X pins σ H s) (h : Tups H L) : ∀ p ∈ L, IsT X.prog X.w s.heap p.2 p.1 := fun p hp => I.isT (SqT.of (h p hp))
/-- set() -/
def rSetTs0 (P : Program) (w : World) : List V → Hp → VK → Prop := fun xs H Q => xs = [] ∧ ∀ p, H p = none → Q (.ref p) (upd H p (SetTs P w p []))
theorem cr_setTs0 : CallR X (.type "set") (rSetTs0 X.prog X.w) := by
  intro pins s σ H xs us Q I r h
  obtain ⟨rfl, q⟩ := h
  cases r
  refine setR_new fun _ => ?_
  have new : Ts X.prog X.w (s.heap.push { cls := .type "set", dict := none, data := .set #[] 0 (.fresh 0 0 (!X.w.params.followText "set-order")) }) s.heap.objs.size [] :=
    ⟨#[], 0, _, ⟨⟨_, Heap.get?_push_size _ rfl, ⟨rfl, rfl, rfl⟩, rfl⟩, rfl, ⟨List.Pairwise.nil, rfl, rfl, .inl (.inl rfl), fun x hx => (by cases hx), fun i h j e => (by cases e)⟩, List.nodup_nil, rfl, by
      show _ ∨ (!X.w.params.followText "set-order") = true
      cases X.w.params.followText "set-order"
      · exact .inr rfl
      · exact .inl rfl, by show 0 * 5 < 7 * 3; decide, Nat.zero_le _⟩⟩
  exact ⟨.ref _, upd H s.heap.objs.size (SetTs X.prog X.w s.heap.objs.size []), I.laid (t' := s.toks) (fun b u e => Heap.get?_push_of_some _ e) (Nat.le_refl _) (setTs_new new), rfl, q _ (I.hok.fresh (Nat.le_refl _))⟩
/-- seen.add(x), x not in seen -/
def rAddTs (P : Program) (w : World) : V → List V → Hp → VK → Prop := fun x xs H Q => ∃ (a b : Addr) (k : List Int) (L : List (Addr × List Int)), x = .ref a ∧ xs = [.ref b] ∧ H a = some (SetTs P w a L) ∧ H b = some (.tup (k.map V.int)) ∧ Tups H L ∧ L.length + 1 ≤ 300 ∧ k ∉ L.map (·.2) ∧
  ∀ L', L'.Perm ((b, k) :: L) → Q .non (upd H a (SetTs P w a L'))
theorem mt_addTs (hu : X.A.units + 64 < cLine) : MtR X "set.add" (rAddTs X.prog X.w) := by
  intro pins s σ H x xs v us Q I rx rxs h
  obtain ⟨a, b, k, L, rfl, rfl, ha, hb, ht, few, hm, q⟩ := h
  cases rx
  rw [Vals.ref1 rxs]
  obtain ⟨es, ep, t, R⟩ := setTs_get I ha
  refine sadd_tr R (tups_is I ht) (I.isT (SqT.of hb)) hu few hm fun h' tk L' es' ep' t' sb R' pm => ?_
  refine ⟨.non, upd H a (SetTs X.prog X.w a L'), I.write (e := a) (t' := tk) (by rw [ha]; trivial) (.inl rfl) (fun b u hb hu => (sb.2 b hb).trans hu) ?_ (setTs_new ⟨es', ep', t', R'⟩), rfl, q L' pm⟩
  obtain ⟨o, ho, _⟩ := R'.ob
  exact ⟨o, ho⟩
def tAddTs (P : Program) (w : World) (to : TE) (t : TA) : TE := fun σ H Q => to σ H fun x H1 => (∃ a L, x = V.ref a ∧ H1 a = some (SetTs P w a L)) ∧ t σ H1 fun xs H2 => rAddTs P w x xs H2 Q
theorem pe_addTs {o e : Expr} {es : List Expr} {to : TE} {t : TA} {apos cpos : Pos} (hu : X.A.units + 64 < cLine) (ho : PE X o to) (ha : PA X (e :: es) t)
    (hbase : attributeBase o "add" X.env (eval o X.env) = eval o X.env := by rfl)
    (hfew : ((backTo cpos (starEach (e :: es) X.env)).all (fun x => !x.1) && (backToKw cpos (keywordEach [] X.env)).all (fun x => x.1.isSome)
      && decide ((e :: es).length + ([] : List Keyword).length + (if ([] : List Keyword).isEmpty then 0 else 1) < 30)) = true := by rfl)
    (hline : (apos.endLine == cpos.line) = true := by rfl) (hs : starEach (e :: es) X.env = (false, eval e X.env) :: starEach es X.env := by rfl) (hplain : (backTo cpos (starEach es X.env)).any (·.1) = false := by rfl) :
    PE X (.Call (.Attribute o "add" apos) (e :: es) [] cpos) (tAddTs X.prog X.w to t) := by
  refine ⟨fun pins s σ H Q I h => ?_⟩
  refine wpAny_Call_method_late hbase hfew hline rfl (thn (ho.run pins s σ H _ I h) fun v s1 ⟨x, H1, I1, r1, ty, q1⟩ => ?_)
  obtain ⟨a, L, rfl, hka⟩ := ty
  cases r1
  obtain ⟨_, _, _, R⟩ := setTs_get I1 hka
  obtain ⟨ob, g, gc, gd⟩ := R.ty
  refine ⟨"set", "set.add", F.plainAttrs_set, F.slot_set_add, F.type_set_add, ⟨ob, g, gc⟩, fun b e => by injection e with e; subst e; exact ⟨ob, g, gd⟩, ?_⟩
  have hA := ha.run cpos pins s1 σ H1 _ I1 q1
  rw [hs] at hA ⊢
  refine Calls.callWith_builtin (by show (false || (backTo cpos (starEach es X.env)).any (·.1)) = false; rw [hplain] <;> rfl) (Calls.evalArgs_plain ?_)
  exact thn hA fun us s2 ⟨vs, H2, I2, r2, q2⟩ => mt_addTs hu pins s2 σ H2 (.ref a) vs (.ref a) us Q I2 rfl r2 q2
/-- x not in seen -/
def rNotTs (P : Program) (w : World) : R2 := fun x y H Q => ∃ (b a : Addr) (k : List Int) (L : List (Addr × List Int)), x = .ref b ∧ y = .ref a ∧ H b = some (.tup (k.map V.int)) ∧ H a = some (SetTs P w a L) ∧ Tups H L ∧ Q (.bl (!decide (k ∈ L.map (·.2)))) H
theorem op_notTs (hu : X.A.units + 64 < cLine) : OpR X (compareOp .NotIn) (rNotTs X.prog X.w) := by
  intro pins s σ H x y v u Q I rx ry h
  obtain ⟨b, a, k, L, rfl, rfl, hb, ha, ht, q⟩ := h
  cases rx
  cases ry
  obtain ⟨es, ep, t, R⟩ := setTs_get I ha
  exact notin_tr R (tups_is I ht) (I.isT (SqT.of hb)) hu fun tk => ⟨.bl _, H, I.tok _, rfl, q⟩
/-- len(seen) -/
def rLenTs (P : Program) (w : World) : List V → Hp → VK → Prop := fun xs H Q => ∃ (a : Addr) (L : List (Addr × List Int)), xs = [.ref a] ∧ H a = some (SetTs P w a L) ∧ Q (.int (L.length : Nat)) H
theorem cr_lenTs : CallR X (.builtin "len") (rLenTs X.prog X.w) := by
  intro pins s σ H xs us Q I r h
  obtain ⟨a, L, rfl, ha, q⟩ := h
  rw [Vals.ref1 r]
  obtain ⟨es, ep, t, R⟩ := setTs_get I ha
  obtain ⟨o, ho, hex, hd⟩ := R.ob
  have sz := rows_size R.rows
  have few := R.few
  exact call_len_set ho hex hd R.fits (by rw [sz]; omega) ⟨.int L.length, H, I.tok _, ⟨_, by rw [sz]⟩, q⟩
end
end Lk

/-! ## D34 -/
set_option Elab.async false
set_option linter.all false
set_option maxRecDepth 100000
set_option maxHeartbeats 2000000
namespace Lk
open PySem PySem.Spec PyProof.Rows L2 Gx
open GxR (TabG Tabbed TabB)
variable [Own]
/-- lists without a thing twice, of things of another list -/
theorem nodup_few {α : Type} [DecidableEq α] : ∀ (l D : List α), l.Nodup → (∀ x ∈ l, x ∈ D) → l.length ≤ D.length
  | [], _, _, _ => Nat.zero_le _
  | x :: l, D, hn, h => by
    have hx := h x (.head _)
    have n2 := List.nodup_cons.mp hn
    have := nodup_few l (D.erase x) n2.2 fun y hy => (List.mem_erase_of_ne fun (e : y = x) => n2.1 (e ▸ hy)).mpr (h y (.tail _ hy))
    have hl := List.length_erase_of_mem hx
    have hp := List.length_pos_of_mem hx
    rw [List.length_cons]
    omega
theorem states_few {W : Web} (ok : W.Ok) (h4 : W.tops.length ≤ 4) {l : List (List Int)} (nd : l.Nodup) (h : ∀ s ∈ l, StOk W s) : l.length ≤ 256 := by
  have a := nodup_few l (W.tops.foldl rowsStep [[]]) nd fun s hs => by
    have so := h s hs
    have := rows_has W.tops s [] [[]] so.len (fun i hi => ?_) (.head _)
    · simpa using this
    · have b := so.bd (i : Int) (by omega) (by omega)
      simpa [stAt, topAt] using b
  have b := rows_len4 (tops := W.tops) (fun t ht => (ok.tops t ht).2) [[]]
  have c : 4 ^ W.tops.length ≤ 4 ^ 4 := Nat.pow_le_pow_right (by decide) h4
  have d : (4 : Nat) ^ 4 = 256 := by decide
  simp only [List.length_singleton] at b
  omega
/-- a state that comes again, none settled till then: none ever -/
theorem never_fix {W : Web} {ru : List (List Int)} {st : List Int} {i j : Nat} (hj : j < i) (e : ticks W ru st i = ticks W ru st j) (nf : ∀ m, m < i → ¬ Fix W ru st m) : ∀ k, ¬ Fix W ru st k := by
  have all : ∀ k, ∃ m, m < i ∧ ticks W ru st k = ticks W ru st m := fun k => by
    induction k with
    | zero => exact ⟨0, by omega, rfl⟩
    | succ k ih =>
      obtain ⟨m, hm, em⟩ := ih
      have es : ticks W ru st (k + 1) = ticks W ru st (m + 1) := congrArg (stateTold W ru) em
      by_cases c : m + 1 < i
      · exact ⟨m + 1, c, es⟩
      · have : m + 1 = i := by omega
        exact ⟨j, hj, by rw [es, this, e]⟩
  intro k f
  obtain ⟨m, hm, em⟩ := all k
  refine nf m hm ?_
  have f' : ticks W ru st k = stateTold W ru (ticks W ru st k) := f
  show ticks W ru st m = stateTold W ru (ticks W ru st m)
  rw [← em]
  exact f'
abbrev s_settled_by : Stmt := top 39
theorem sc_settled_by : FnScope ["web", "rules", "state", "seen", "now", "later"] ["web", "rules", "state"] (defScope s_settled_by) := ⟨rfl, rfl, rfl, by decide +kernel, rfl, by decide +kernel, by decide +kernel⟩
section
variable {P : Program} {w : World} {K : PySem.W.Frag} {mg : Str → Option Value} {base : Heap} {Ps : List Addr}
theorem ok_settled_by {f : Addr} {fd : FuncData} (F : Fun K "settled_by" "settled_by" s_settled_by f fd) (B : Blt mg)
    (c_check_standing : Cal P w K mg base CX0 7 "check_standing" ["web", "rules", "state"] (spCheckStanding Ps)) (c_state_told : Cal P w K mg base CX0 4 "state_told" ["web", "rules", "state"] spStateTold) : FnOk P w K mg base CX0 8 f fd ["web", "rules", "state"] (spSettledBy Ps) := by
  refine F.ok sc_settled_by (fun vs H Q E h => ?_) (fun cdv A outer s0 H vs Q E hr h => ?_)
  · obtain ⟨v, r, z, W, ru, st, rfl, _⟩ := h
    rfl
  · obtain ⟨v, r, z, W, ru, st, rfl, hW, ok, h4, hru, r0, hb, hs, so, hTb, k⟩ := h
    refine ⟨_, (pss_cons (ps_expr (pe_c0 c_check_standing (hr.mono (by decide)) (by rfl) (pa_cons (pv 0) (pa_cons (pv 1) (pa_cons (pv 2) pa_nil)))))
      (pss_cons (ps_set (i := 3) sc_settled_by.nd rfl (by first | exact Or.inl rfl | exact Or.inr rfl) (pe_callTy0 cr_setTs0 (by rfl) B.set boot_set))
      (pss_cons (ps_set (i := 4) sc_settled_by.nd rfl (by first | exact Or.inl rfl | exact Or.inr rfl) (pv 2))
      (pss_cons (ps_while PassesOwn.never (pt_cmpR (op_notTs hr.units) (pv 4) (pv 3) (by with_unfolding_all rfl))
        (pss_cons (ps_expr (pe_addTs hr.units (pv 3) (pa_cons (pv 4) pa_nil)))
        (pss_cons (ps_set (i := 5) sc_settled_by.nd rfl (by first | exact Or.inl rfl | exact Or.inr rfl) (pe_c0 c_state_told (hr.mono (by decide)) (by rfl) (pa_cons (pv 0) (pa_cons (pv 1) (pa_cons (pv 4) pa_nil)))))
        (pss_cons (ps_if (pt_cmpR (op_eqTI hr.units) (pv 5) (pv 4) (nomark _))
          (pss_one (ps_ret (pe_op op_sub (pe_callB cr_lenTs (by rfl) B.len PySem.boot_len (pa_cons (pv 3) pa_nil)) pe_int))) pss_nil)
        (pss_one (ps_set (i := 4) sc_settled_by.nd rfl (by first | exact Or.inl rfl | exact Or.inr rfl) (pv 5)))))))
      (pss_one (ps_ret pe_non)))))), ?_⟩
    refine ⟨_, rfl, _, rfl, _, rfl, _, _, _, W, ru, st, rfl, hW, ok, hru, r0, hb, hs, so, hTb, fun H1 e1 => ?_⟩
    refine ⟨rfl, fun D hD => ?_⟩
    refine ⟨_, rfl, ?_⟩
    have rok := rules_ok r0 hb
    have hs1 := hs.ext e1
    obtain ⟨za, rfl, hza⟩ := id hs1
    have tk := ticks_ok ok r0 hb so
    refine ⟨fun m σ H' => ∃ (i : Nat) (L : List (Addr × List Int)) (b : Addr) (o5 : Option V), m + i = 257 ∧ σ = [some v, some r, some (.ref za), some (.ref D), some (.ref b), o5] ∧ Ext H1 H' ∧ H' D = some (SetTs P w D L) ∧ Tups H' L ∧ (L.map (·.2)).Perm ((List.range i).map (ticks W ru st)) ∧ (L.map (·.2)).Nodup ∧ H' b = some (.tup (iv (ticks W ru st i))) ∧ ∀ j, j < i → ¬ Fix W ru st j,
      ⟨257, 0, [], za, none, rfl, rfl, Ext.new hD _, upd_same, (fun p hp => by cases hp), .nil, List.nodup_nil, (Ext.new hD _).tup hza, fun j hj => absurd hj (Nat.not_lt_zero _)⟩, ?_⟩
    rintro m σ H' ⟨i, L, b, o5, hm, rfl, e, hDs, ht, pm, nd, hbt, nf⟩
    have len : L.length = i := by
      have := pm.length_eq
      simpa using this
    have E' := e1.trans e
    refine ⟨_, rfl, _, rfl, b, D, _, L, rfl, rfl, hbt, hDs, ht, ?_⟩
    by_cases hin : ticks W ru st i ∈ L.map (·.2)
    · rw [decide_eq_true hin]
      refine ⟨false, rfl, iteF ?_⟩
      refine k _ _ E' (.inr ⟨rfl, ?_⟩)
      obtain ⟨j, hj, ej⟩ := List.mem_map.mp (pm.mem_iff.mp hin)
      exact never_fix (List.mem_range.mp hj) ej.symm nf
    · rw [decide_eq_false hin]
      refine ⟨true, rfl, iteT ?_⟩
      have few : L.length + 1 ≤ 256 := by
        have := states_few ok h4 (l := ticks W ru st i :: L.map (·.2)) (List.nodup_cons.mpr ⟨hin, nd⟩) fun s hs => by
          rcases List.mem_cons.mp hs with e | hs
          · rw [e]; exact tk i
          · obtain ⟨j, _, rfl⟩ := List.mem_map.mp (pm.mem_iff.mp hs)
            exact tk j
        simpa using this
      refine ⟨fun σ' H2 => ∃ m', m' < m ∧ ∃ (i : Nat) (L : List (Addr × List Int)) (b : Addr) (o5 : Option V), m' + i = 257 ∧ σ' = [some v, some r, some (.ref za), some (.ref D), some (.ref b), o5] ∧ Ext H1 H2 ∧ H2 D = some (SetTs P w D L) ∧ Tups H2 L ∧ (L.map (·.2)).Perm ((List.range i).map (ticks W ru st)) ∧ (L.map (·.2)).Nodup ∧ H2 b = some (.tup (iv (ticks W ru st i))) ∧ ∀ j, j < i → ¬ Fix W ru st j,
        fun _ _ h => h, ?_⟩
      refine ⟨_, rfl, ⟨D, L, rfl, hDs⟩, _, rfl, D, b, _, L, rfl, rfl, hDs, hbt, ht, by omega, hin, fun L' pm' => ?_⟩
      have bD : b ≠ D := fun q => by rw [q, hDs] at hbt; cases hbt
      have eU : Ext H1 (L2.upd H' D (SetTs P w D L')) := e.put hD _
      have hb2 : L2.upd H' D (SetTs P w D L') b = some (.tup (iv (ticks W ru st i))) := by rw [upd_ne bD]; exact hbt
      have ht2 : Tups (L2.upd H' D (SetTs P w D L')) L' := fun p hp => by
        have key : ∀ p : Addr × List Int, H' p.1 = some (.tup (p.2.map V.int)) → L2.upd H' D (SetTs P w D L') p.1 = some (.tup (p.2.map V.int)) := fun p q => by
          rw [upd_ne fun z => by rw [z, hDs] at q; cases q]
          exact q
        rcases List.mem_cons.mp (pm'.mem_iff.mp hp) with e | hp
        · rw [e]; exact hb2
        · exact key p (ht p hp)
      have hDU : L2.upd H' D (SetTs P w D L') D = some (SetTs P w D L') := upd_same
      have EU := e1.trans eU
      refine ⟨_, rfl, _, rfl, _, rfl, _, _, _, W, ru, _, rfl, hW.ext EU, ok, hru.ext EU, rok, ⟨b, rfl, hb2⟩, tk i, fun H2 u e2 hu0 hu => ?_⟩
      have hb3 := e2.tup hb2
      have hD3 : H2 D = some (SetTs P w D L') := e2.keep _ _ hDU rfl
      have len' : L'.length = i + 1 := by rw [pm'.length_eq, List.length_cons, len]
      refine ⟨_, rfl, _, rfl, _, _, ⟨u, rfl, hu⟩, ⟨b, rfl, hb3⟩, ?_⟩
      by_cases c : stateTold W ru (ticks W ru st i) = ticks W ru st i
      · rw [decide_eq_true c]
        refine ⟨true, rfl, iteT ?_⟩
        refine ⟨_, rfl, D, L', rfl, hD3, _, _, rfl, rfl, ?_⟩
        refine k _ _ (EU.trans e2) (.inl ⟨i, ?_, c.symm, nf⟩)
        rw [len']
        exact congrArg V.int (by omega)
      · rw [decide_eq_false c]
        refine ⟨false, rfl, iteF ?_⟩
        refine ⟨_, rfl, m - 1, by omega, i + 1, L', u, some (.ref u), by omega, rfl, eU.trans e2, hD3, fun p hp => e2.tup (ht2 p hp), ?_, ?_, hu, fun j hj => ?_⟩
        · rw [List.range_succ, List.map_append]
          refine (pm'.map (·.2)).trans ?_
          exact ((pm.cons _).trans (List.perm_append_singleton _ _).symm)
        · exact (pm'.map (·.2)).nodup_iff.mpr (List.nodup_cons.mpr ⟨hin, nd⟩)
        · rcases Nat.lt_or_ge j i with q | q
          · exact nf j q
          · have : j = i := by omega
            rw [this]
            exact fun f => c f.symm
end
end Lk

/-! ## EnumT -/
set_option Elab.async false
set_option linter.all false
set_option maxRecDepth 100000
set_option maxHeartbeats 2000000
/-! enumerate of a tuple. -/
namespace Lk
open PySem PySem.Spec PyProof.Rows L2 Gx
variable [Own]
abbrev enumO (e : Addr) : Obj := { cls := .type "enumerate", data := .fields #[.none, .bool false, .ref e, rawInt 0, .none, .none] }
theorem enum_class (v : Value) : Builtin.SmallTypes.newClass "enumerate" { pos := [.type "enumerate", v] } = pure (.type "enumerate", [v]) := by
  first
  | rfl
  | with_unfolding_all rfl
  | (unfold Builtin.SmallTypes.newClass
     simp only [PySem.F.called_enumerate.sub]
     rfl)
theorem wp_ite {α : Type} {M : Model} {A : Around} {E : Value → Shared → Prop} {s : Shared} {c : Prop} [Decidable c] {X Y : Sem α} {Q : α → Shared → Prop} (h1 : wpAny M A X Q E s) (h2 : wpAny M A Y Q E s) : wpAny M A (if c then X else Y) Q E s := by
  by_cases h : c
  · rw [if_pos h]; exact h1
  · rw [if_neg h]; exact h2
theorem enum_new {prog : Program} {w : World} {A : Around} {E : Value → Shared → Prop} {s : Shared} {v : Value} {o : Obj} {H : Heap → Prop} {Q : PySem.Fin → Shared → Prop} (B : Begins v o H) (h : H s.heap)
    (q : Q (.done (.ret (.ref (s.heap.objs.size + 1)))) { s with heap := (s.heap.push o).push (enumO s.heap.objs.size) }) :
    wpAny (model prog w) A (Builtin.«enumerate.__new__» { pos := [.type "enumerate", v] }) Q E s := by
  unfold Builtin.«enumerate.__new__»
  refine wpAny_bind ?_
  rw [enum_class]
  refine wpAny_pure ?_
  dsimp only
  rw [if_pos (by first | rfl | decide)]
  refine wpAny_bind ?_
  unfold Builtin.SmallTypes.calledThroughType
  refine wpAny_bind (wpAny_stack_any fun st => wpAny_pure ?_)
  have core : wpAny (model prog w) A (do
      let it ← pyIter v
      let r ← Builtin.SmallTypes.newRecord (.type "enumerate") (Builtin.SmallTypes.ownedTupleFields ++ [it, rawInt 0, .none, .none])
      ret r) Q E s := by
    refine wpAny_bind (B.iter prog w A E s _ h ?_)
    refine wpAny_bind ?_
    refine wpAny_newObj_type (T := "enumerate") (data := .fields #[.none, .bool false, .ref s.heap.objs.size, rawInt 0, .none, .none]) ?_
    refine wpAny_pure ?_
    show Q (.done (.ret (.ref (s.heap.push o).objs.size))) _
    rw [Heap.size_push]
    exact q
  refine wp_ite ?_ ?_
  · refine wpAny_bind ?_
    show wpAny _ _ (pure (v, none)) _ _ _
    exact wpAny_pure core
  · refine wpAny_bind ?_
    show wpAny _ _ (pure (v, none)) _ _ _
    exact wpAny_pure core
theorem enum_call {prog : Program} {w : World} {A : Around} {E : Value → Shared → Prop} {s : Shared} {v : Value} {o : Obj} {H : Heap → Prop} {Q : Value → Shared → Prop} (B : Begins v o H) (h : H s.heap)
    (q : Q (.ref (s.heap.objs.size + 1)) { s with heap := (s.heap.push o).push (enumO s.heap.objs.size) }) : wpAny (model prog w) A (call (.type "enumerate") [v]) Q E s := by
  refine callType_codes (Q₁ := fun r s₁ => r = .ref (s.heap.objs.size + 1) ∧ s₁ = { s with heap := (s.heap.push o).push (enumO s.heap.objs.size) }) PySem.F.called_enumerate (PySem.F.typeCall_enumerate_1 v) PySem.F.entry_object_init ?_ ?_
  · refine codeAny_call_builtin PySem.F.called_enumerate.plain PySem.F.entry_enumerate_new ?_
    rw [PySem.F.newCall_enumerate_1]
    refine wpAny_pure ?_
    refine enum_new B h ?_
    exact ⟨rfl, rfl⟩
  · rintro obj s₁ ⟨rfl, rfl⟩
    have g : ((s.heap.push o).push (enumO s.heap.objs.size)).get? (s.heap.objs.size + 1) = some (enumO s.heap.objs.size) := by heap_get
    have ty : ({ s with heap := (s.heap.push o).push (enumO s.heap.objs.size) } : Shared).TypeIs (.ref (s.heap.objs.size + 1)) "enumerate" := by
      first
      | exact ⟨_, g, rfl⟩
      | exact Shared.typeIs_ref g rfl
    refine ⟨ty, PySem.F.args_object_init_2 _ _, ?_⟩
    have M := object_init_meets (T := "enumerate") (newId := "enumerate.__new__") (self := .ref (s.heap.objs.size + 1)) (rest := [v]) (by first | rfl | decide +kernel) PySem.F.called_enumerate.made (by decide)
    exact M prog w A.in1 (wants (fun r s₂ => r = .none ∧ Q (.ref (s.heap.objs.size + 1)) s₂) E) _ ⟨ty, rfl, q⟩
def Iett (a : Addr) : It where
  go i H := ∃ xs : List V, H a = some (.tup xs) ∧ i < xs.length
  yld i H v H' := ∃ T x, v = .ref T ∧ H T = none ∧ H' = upd H T (.tup [.int (i : Nat), x]) ∧ ∀ xs : List V, H a = some (.tup xs) → xs[i]? = some x
  stop i H := ∃ xs : List V, H a = some (.tup xs) ∧ i = xs.length
abbrev tnE (e it a : Addr) : Nat → Heap → Prop := fun i h => (∃ old, IsEnum h e it (0 + (i : Int)) old) ∧ h.IsTupleIter it a i
section
variable {P : Program} {w : World} {K : PySem.W.Frag}
theorem turn_enumT {elts : List Expr} {kk : Nat} {tpos : Pos} {a e it : Addr} (n1 : a ≠ it) (n2 : e ≠ it) (n3 : e ≠ a) : Turn P w K (.Tuple elts kk tpos) (Iett a) [e, it] e (tnE e it a) := by
  refine ⟨List.mem_cons_self .., ?_, ?_, ?_, ?_, ?_⟩
  · rintro i h ⟨⟨old, he⟩, ⟨o1, h1, c1, d1⟩⟩ q hq
    simp only [List.mem_cons, List.mem_nil_iff, or_false] at hq
    rcases hq with rfl | rfl
    · exact ⟨_, he, fun v e => by cases e⟩
    · exact ⟨_, h1, fun v e => by rw [d1] at e; cases e⟩
  · rintro i h h' ⟨⟨old, he⟩, ⟨o1, h1, c1, d1⟩⟩ kp
    exact ⟨⟨old, kp e (by simp) _ he⟩, ⟨o1, kp it (by simp) _ h1, c1, d1⟩⟩
  · rintro X rfl rfl rfl calm i pins s σ H E I hfp ⟨he, h1⟩ ⟨xs, ea, hi⟩
    obtain ⟨its1, v1, g1, s1⟩ := I.tuple (SqT.of ea)
    have hA : X.A.in1.handled = none := I.ok.hd calm
    have G := GoesN.enumFrom (prog := X.prog) (w := X.w) (A := X.A) (elts := elts) (x1 := kk) (pos := tpos) 0 (Draws.tuple hA it a n1 its1.toArray) e n2 (by simp [n2, n3]) (by simp)
    have l1 := paired_len v1
    refine G.goes i s _ E (by simp only [List.size_toArray]; omega) ⟨he, ⟨h1, istup_is g1⟩⟩ ?_
    rintro v h' tk ⟨T, t, x, rfl, hT, p1, hI⟩ ⟨qe, ⟨q1, _⟩⟩ kp ht
    obtain ⟨x', e1, r1⟩ := vals_arr v1 p1
    have hT0 : H T = none := I.hok.fresh hT
    have I2 := I.turnedNew (h' := h') (t' := tk) (ch := [e, it]) (T := T) (ob := .tup [.int (i : Nat), x']) kp (fun q hq => hfp q hq) hT (by
        unfold ObjOk
        refine ⟨by show 2 ≤ sizeLine; decide, [.int (0 + (i : Int)) t, x], .cons ⟨t, by rw [Int.zero_add]⟩ (.cons r1 .nil), hI⟩)
    refine ⟨.ref T, _, I2, rfl, ⟨T, x', rfl, hT0, rfl, ?_⟩, ⟨qe, q1⟩, fun q hq => ?_⟩
    · intro xs' fa
      rw [ea] at fa
      cases fa
      exact e1
    · obtain ⟨hn, _⟩ := hfp q hq
      obtain ⟨o, ho⟩ : ∃ o, s.heap.get? q = some o := by
        obtain ⟨old, he⟩ := he
        obtain ⟨o1, h1, _⟩ := h1
        simp only [List.mem_cons, List.mem_nil_iff, or_false] at hq
        rcases hq with rfl | rfl
        · exact ⟨_, he⟩
        · exact ⟨_, h1⟩
      have : q ≠ T := fun e => by
        rw [e] at ho
        exact absurd (get_lt ho) (Nat.not_lt.mpr hT)
      rw [upd_ne this]
      exact hn
  · rintro X rfl rfl rfl calm i pins s σ H E I hfp ⟨he, h1⟩ ⟨xs, ea, hi⟩
    obtain ⟨its1, v1, g1, s1⟩ := I.tuple (SqT.of ea)
    have hA : X.A.in1.handled = none := I.ok.hd calm
    have G := GoesN.enumFrom (prog := X.prog) (w := X.w) (A := X.A) (elts := elts) (x1 := kk) (pos := tpos) 0 (Draws.tuple hA it a n1 its1.toArray) e n2 (by simp [n2, n3]) (by simp)
    have l1 := paired_len v1
    have en : its1.toArray.size = i := by simp only [List.size_toArray]; omega
    refine G.stops s _ E (by rw [en]; exact ⟨he, ⟨h1, istup_is g1⟩⟩) ?_
    intro h' tk kp ht
    exact I.turnedL (h' := h') (t' := tk) (ch := [e, it]) kp (fun q hq => hfp q hq)
  · rintro A i s Q E ⟨⟨old, he⟩, _⟩ q
    exact wpAny_pyIter_enum he q
def iEnumT (ta : TA) : L2.TI := fun σ H R => ta σ H fun vs H1 => ∃ (a : Addr) (xs : List V), vs = [.ref a] ∧ H1 a = some (.tup xs) ∧ R (Iett a) H1
theorem pi_enumT {X : Cx} {e : Expr} {ta : TA} {p pos tpos : Pos} {elts : List Expr} {kk : Nat} (hg : Gl X "enumerate") (hm : X.mg "enumerate" = none) (ha : PA X [e] ta)
    (hs : starEach [e] X.env = (false, eval e X.env) :: starEach [] X.env := by rfl) (hpl : (backTo pos (starEach [] X.env)).any (·.1) = false := by rfl) :
    PI X (.Tuple elts kk tpos) (.Call (.Name "enumerate" p) [e] [] pos) (iEnumT ta) := by
  refine ⟨fun pins s σ H R I h => ?_⟩
  refine Call_ (ld_blt I hg hm boot_enumerate (PyProof.Rows.callWith_type1 (thn (ha.run pos pins s σ H _ I h) fun us s2 q => ?_) hs hpl))
  obtain ⟨vs, H2, I2, rv, a, xs, rfl, ea, r⟩ := q
  cases rv with
  | cons r1 rv =>
  cases rv
  cases r1
  obtain ⟨its1, v1, g1, s1⟩ := I2.tuple (SqT.of ea)
  have la : a < s2.heap.objs.size := by obtain ⟨o, g, _⟩ := g1; exact get_lt g
  refine enum_call (begins_tuple a its1.toArray) (istup_is g1) ?_
  have kp : ∀ (b : Addr) (o' : Obj), s2.heap.get? b = some o' → ((s2.heap.push { cls := .type "tuple_iterator", data := .fields #[.ref a, .int 0 0] }).push (enumO s2.heap.objs.size)).get? b = some o' := fun b o' h => Heap.get?_push_of_some _ (Heap.get?_push_of_some _ h)
  have ge : ((s2.heap.push { cls := .type "tuple_iterator", data := .fields #[.ref a, .int 0 0] }).push (enumO s2.heap.objs.size)).get? (s2.heap.objs.size + 1) = some (enumO s2.heap.objs.size) := by heap_get
  have gi : ((s2.heap.push { cls := .type "tuple_iterator", data := .fields #[.ref a, .int 0 0] }).push (enumO s2.heap.objs.size)).get? s2.heap.objs.size = some { cls := .type "tuple_iterator", data := .fields #[.ref a, .int 0 0] } := by heap_get
  refine wpAny_pyIter_enum ge ?_
  have I3 : L2.Inv X pins σ H2 { heap := (s2.heap.push { cls := .type "tuple_iterator", data := .fields #[.ref a, .int 0 0] }).push (enumO s2.heap.objs.size), gens := s2.gens, drawn := s2.drawn, toks := s2.toks, os := s2.os } := I2.kept kp
  refine ⟨_, _, _, _, H2, rfl, I3, turn_enumT (a := a) (e := s2.heap.objs.size + 1) (it := s2.heap.objs.size) (Nat.ne_of_lt la) (Nat.succ_ne_self _) (fun e => absurd la (by rw [← e]; exact Nat.not_lt.mpr (Nat.le_succ _))), ⟨⟨_, ge⟩, ⟨_, gi, rfl, rfl⟩⟩, fun q hq => ?_, r⟩
  have hq2 : s2.heap.objs.size ≤ q := by
    simp only [List.mem_cons, List.mem_nil_iff, or_false] at hq
    rcases hq with h | h <;> (rw [h]; simp)
  exact I2.fpOk hq2 (I2.hok.fresh hq2)
theorem walk_enumT {a : Addr} {xs : List V} : Walk (Iett a) xs.length (fun H => H a = some (.tup xs)) (fun i H v H' => ∃ T x, v = .ref T ∧ H T = none ∧ H' = upd H T (.tup [.int (i : Nat), x]) ∧ xs[i]? = some x) := by
  refine ⟨fun i H hi h => ⟨xs, h, hi⟩, fun H h => ⟨xs, h, rfl⟩, fun i H x H' hi h y => ?_⟩
  obtain ⟨T, x', e, h0, e2, q⟩ := y
  exact ⟨T, x', e, h0, e2, q xs h⟩
end
end Lk

/-! ## Bad -/
set_option Elab.async false
set_option linter.all false
set_option maxRecDepth 100000
set_option maxHeartbeats 2000000
/-! BadRules, made and raised: its __init__ calls ValueError's by super, then tells the folk. -/
namespace Lk
open PySem PySem.Spec PyProof.Rows L2
variable [Own]
/-- a class's i-th method -/
def methAt (s : Stmt) (i : Nat) : Stmt := match s with
  | .ClassDef _ _ _ b _ _ _ _ _ _ _ => b.getD i (.Pass ⟨0, 0, 0, 0⟩)
  | _ => .Pass ⟨0, 0, 0, 0⟩
abbrev mI : Stmt := methAt (top 3) 0
/-- what the written part says of BadRules, at C, of its __init__, at fI, of the cell that holds the class, at cc -/
structure BadTxt (P : Program) (K : PySem.W.Frag) (mg : Str → Option Value) (C fI cc : Addr) : Prop where
  gC : mg "BadRules" = some (.ref C)
  noS : mg "super" = none
  cls : ∃ nm q N bs bm sn sub ab col dd k0 k1 k2 k3 k5, K.lookup C = some (excClassObj nm q C N bs bm true sn sub ab col dd k0 k1 k2 k3 k5 "ValueError.__new__") ∧ HandSPX.refsVE bm = true
  sa : PySem.W.findIn K (.ref C) "__setattr__" = some (some (.builtin "object.__setattr__"))
  noN : PySem.W.findIn K (.ref C) "folk" = some none
  iC : PySem.W.findIn K (.ref C) "__init__" = some (some (.ref fI))
  tC : PySem.W.typeIn K (.ref fI) = some (.type "function")
  kC : PySem.W.keepIn K (.ref C) = true
  exC : PySem.W.subIn K (.ref C) (.type "BaseException") = some true
  veC : PySem.W.subIn K (.ref C) (.type "ValueError") = some true
  tyC : PySem.W.typeIn K (.ref C) = some (.type "type")
  inC : PySem.W.excInitIn K C [.type "ValueError", .type "Exception", .type "BaseException", .type "object"] "ValueError.__new__" = true
  mC : PySem.W.mroIn K C (.ref C) = some true
  sup : PySem.W.ks_superIn K C C "__init__" = some (some (.builtin "ValueError.__init__"))
  st : PySem.W.nsIn K cStatics "thirdparty.any" = some none
  cell : ∃ (c : Value) (d : Option Addr) (sl : Array (Option Value)), K.lookup cc = some ⟨c, d, .cell (some (.ref C)), sl⟩
  fn : ∃ (oc : Value) (od : Option Addr) (doc pm ct : Value) (an : Option Addr) (cda : Addr) (osl : Array (Option Value)),
    K.lookup fI = some ⟨oc, od, .func (PySem.W.ksFn "__init__" "BadRules.__init__" (defArgs mI) (defBody mI) (defScope mI) .none .none doc pm an (.ref cda) ct cc), osl⟩ ∧ PySem.W.codeIn K (.ref cda) "BadRules.__init__" = true ∧
    ∃ (ccl : Value) (cdd : Option Addr) (vs : Array Value) (ccs : Array (Option Value)) (file : Str) (tf : Tok), K.lookup cda = some ⟨ccl, cdd, .fields vs, ccs⟩ ∧ vs[2]? = some (.str file tf) ∧ (P.main.file == file) = true
  pS : (List.lookup (PySem.Str.ofString "super") P.main.scope.names).isSome = false
theorem wpAt_any {α : Type} {M : Model} {A : Around} {c : Code} {t : Sem α} {Q : α → Shared → Prop} {E : Value → Shared → Prop} {s : Shared} (h : wpAny M A t Q E s) : PySem.wpAt M A c t Q E s := fun Γ p _ hΓ => h Γ p hΓ
theorem boot_super : bootBuiltins "super" = some (.type "super") := by decide +kernel
/-- what __init__ leaves of a fresh exception at x -/
structure InitBad (h h' : Heap) (x C dx : Addr) (v : Value) : Prop where
  keep : ∀ b o, b ≠ x → h.get? b = some o → h'.get? b = some o
  obj : ∃ t1, h'.get? x = some { cls := .ref C, dict := some dx, data := .fields #[.ref t1, .none, .none, .none, .bool false, .none] }
  dbig : h.objs.size ≤ dx
  dne : dx ≠ x
  ns : h'.Ns1 dx (fun y => if y = "folk" then some v else none)
section
variable {prog : Program} {w : World} {A : Around} {E : Value → Shared → Prop} {R : Result → Shared → Prop} {s : Shared} {K : PySem.W.Frag} {mg : Str → Option Value} {C fI cc : Addr}
theorem ns_kept {h h' : Heap} {a : Addr} {m : Str → Option Value} (k : ∀ b o, h.get? b = some o → h'.get? b = some o) (n : h.Ns a m) : h'.Ns a m := by
  obtain ⟨o, es, ep, h1, r⟩ := n
  exact ⟨o, es, ep, k _ _ h1, r⟩
theorem bad_init (T : BadTxt prog K mg C fI cc) {hp : Heap} (Xp : K.In hp) (kp : ∀ b o, hp.get? b = some o → s.heap.get? b = some o) (hsz : hp.objs.size ≤ s.heap.objs.size) (hg : hp.Ns mainGlobals mg) (hb : ∃ mb, hp.Ns builtinsNs mb ∧ ∀ x : Str, x ≠ "__name__" → mb x = bootBuiltins x) (hlim : s.heap.NoLimit)
    {x t0 : Addr} {n : Int} {tok : Tok} (hx : s.heap.get? x = some (HandSPX.excO C t0)) (hx0 : hp.get? x = none) (hroom : A.depth < recursionLimit) (hn : n.natAbs.log2 < 1920) (hlen : (PySem.Str.ofString "no rules: " ++ PySem.Str.ofString (toString n)).length ≤ sizeLine)
    (hq : ∀ h' tk dx, InitBad hp h' x C dx (.int n tok) → R (.ok (.ret .none)) { s with heap := h', toks := tk }) :
    codeAny (model prog w) A (.call (.ref fI) ⟨[.ref x, .int n tok], []⟩) R s := by
  obtain ⟨oc, od, doc, pm, ct, an, cda, osl, hf, hcd, ccl, cdd, vs, ccs, file, tf, hcda, hfile, hmain⟩ := T.fn
  obtain ⟨nm, q, N, bs, bm, sn, sub, ab, col, dd, k0, k1, k2, k3, k5, hC, hbm⟩ := T.cls
  obtain ⟨c0, cd0, csl, hcc⟩ := T.cell
  have hcl : PySem.W.clsIn K C = some { name := nm, bases := bs, mro := .ref C :: bm, ns := N, qualname := q, hasDict := true, slotNames := sn, subclasses := sub, abstract := ab, collection := col, hasDel := false } := by unfold PySem.W.clsIn; rw [hC] <;> rfl
  have Xs : K.In s.heap := fun a o e => kp _ _ (Xp a o e)
  refine ks_codeAny_call_defAt (binds := [("self", .ref x), ("folk", .int n tok)]) hroom (Xs _ _ hf) rfl hlim (PySem.W.codeRec_of Xs hcd) rfl (BindsTo.of_eq (by first | rfl | with_unfolding_all rfl)) (by
    show ∀ y ∈ (defScope mI).names, y.2 ≠ NameKind.cell
    decide +kernel) (by
    intro y hy
    simp only [List.mem_cons, List.mem_nil_iff, or_false] at hy
    rcases hy with rfl | rfl
    · show List.lookup (PySem.Str.ofString "self") (defScope mI).names = some NameKind.local
      decide +kernel
    · show List.lookup (PySem.Str.ofString "folk") (defScope mI).names = some NameKind.local
      decide +kernel) (fun h₁ hns k => ?_) (by rfl) (by rfl) (by rfl)
  have hxL : x ≠ s.heap.objs.size := Nat.ne_of_lt (Heap.lt_size hx)
  have F1 : Fr hp s.heap.objs.size h₁ (fun y => List.lookup y [(("self" : Str), Value.ref x), ("folk", .int n tok)].reverse) := ⟨hns, fun b o e => k _ _ (kp _ _ e), hsz⟩
  have N1 : News hp s.heap.objs.size h₁ [(x, PySem.W.excObj C t0 none .none)] := fun p hp' => by
    rw [List.mem_singleton.mp hp']
    exact ⟨k _ _ hx, hxL, hx0⟩
  have X1 : K.In h₁ := fun a o e => k _ _ (Xs a o e)
  refine ks_wpAt_execs_cons (ks_wpAt_Expr_any (ks_wpAt_MethodCall (pl := pure false) ?_ (by rfl)) (by rfl) (by rfl))
  refine ks_wpAt_super_base (by rfl) (by rfl) (by decide) (by rfl) (X1 _ _ hf) rfl (by rfl) (by rfl) (X1 _ _ hcda) rfl hfile hmain T.pS ?_
  obtain ⟨mb, hbn, hbb⟩ := hb
  have k1 : ∀ b o, hp.get? b = some o → h₁.get? b = some o := fun b o e => k _ _ (kp _ _ e)
  refine PySem.W.ks_loadName_global (by rfl) (by rfl) (PySem.Calls.loadGlobal_builtin (ns_kept k1 hg) T.noS (ns_kept k1 hbn) ((hbb _ (by decide)).trans boot_super) ⟨rfl, ?_⟩)
  refine wpAny_loadName_free (by rfl) (by rfl) (by rfl) ⟨_, X1 _ _ hcc, rfl⟩ (wpAny_loadName_local (by rfl) (by rfl) hns (by rfl) ?_) (by decide)
  refine ks_wpAny_isType_cls (X1 _ _ hC) rfl ⟨rfl, ?_⟩
  refine ks_wpAny_call_super (X1 _ _ hC) rfl (k _ _ hx) rfl (fun c e => by cases e) (PySem.W.looks_mroIn X1 T.mC) fun h₂ hso k2 => ?_
  have F2 : Fr hp s.heap.objs.size h₂ (fun y => List.lookup y [(("self" : Str), Value.ref x), ("folk", .int n tok)].reverse) := ⟨ns_kept k2 F1.ns, fun b o e => k2 _ _ (k1 _ _ e), hsz⟩
  have hL1 : s.heap.objs.size < h₁.objs.size := hns.lt
  have N2 : News hp s.heap.objs.size h₂ [(h₁.objs.size, PySem.W.ks_superObj C x C), (x, PySem.W.excObj C t0 none .none)] := fun p hp' => by
    rcases List.mem_cons.mp hp' with e | hp'
    · rw [e]
      refine ⟨hso, Nat.ne_of_gt hL1, ?_⟩
      cases q : hp.get? h₁.objs.size with
      | none => rfl
      | some o => exact absurd (Heap.lt_size (k1 _ _ q)) (Nat.lt_irrefl _)
    · rw [List.mem_singleton.mp hp']
      exact ⟨k2 _ _ (k _ _ hx), hxL, hx0⟩
  have I2 : PySem.W.InstAt h₂ x (PySem.W.excObj C t0 none .none) C none := PySem.W.InstAt.of_exc0 N2 (List.mem_cons_of_mem _ (List.mem_cons_self ..))
  refine PySem.W.kxs_method (K := K) PySem.W.kxs_ValueError F2 Xp N2 (List.mem_cons_self ..) I2 T.st T.sup T.veC (by decide) fun u h₃ F3 N3 hlt => ?_
  refine PySem.W.kxs_callWith1 N3 (List.mem_cons_self ..) (PyProof.Rows.spliced_more ?_ (by rfl)) (by rfl) (by rfl)
  have m3 : (x, PySem.W.excObj C t0 none .none) ∈ [(u, PySem.W.kxs_mw "ValueError.__init__" x), (h₁.objs.size, PySem.W.ks_superObj C x C), (x, PySem.W.excObj C t0 none .none)] := by simp
  have hxu : x ≠ u := Nat.ne_of_lt (hlt (x, _) (List.mem_cons_of_mem _ (List.mem_cons_self ..)))
  have hx1 : x ≠ h₁.objs.size := Nat.ne_of_lt (Heap.lt_size (k _ _ hx))
  refine PyProof.Rows.JoinedStr_many (PyProof.Rows.joinParts_cons (PySem.Calls.Constant_str ⟨by decide +kernel, PyProof.Rows.joinParts_cons (PyProof.Rows.FormattedValue_plain (PySem.ESX.ldL F3.ns (v := .int n tok) (by rfl) (PySem.wpAny_formatField_int hn ⟨hlen, PyProof.Rows.joinParts_nilE (PyProof.Rows.joinParts_nil ?_ hlen)⟩) (by rfl) (by rfl) (by decide)))⟩))
  refine PyProof.Rows.spliced_none ⟨PySem.W.kxs_at N3 (List.mem_cons_self ..), ?_⟩
  refine PySem.W.kxs_call F3 Xp N3 PySem.F.excBase_ValueError T.inC (List.mem_cons_self ..) (PySem.W.UpdF.tail (fun e => hxu e.symm) (PySem.W.UpdF.tail (fun e => hx1 e.symm) (PySem.W.UpdF.head fun p hp => by cases hp))) (by rw [sizeLine_eq]; exact (by decide : 1 ≤ 16777216)) fun t' h₄ F4 N4 hlt4 => ?_
  obtain ⟨hx4, _, _⟩ := N4 (x, PySem.W.excObj C t' none .none) (by simp)
  have X4 : K.In h₄ := fun a o e => F4.keep _ _ (Xp a o e)
  refine ks_wpAt_execs_cons (wpAt_any (plainObj_wpAny_Assign_Attribute ?_ (by rfl)))
  refine PySem.ESX.ldL F4.ns (v := .int n tok) (by rfl) (PySem.ESX.ldL F4.ns (v := .ref x) (by rfl) ?_ (by rfl) (by rfl) (by decide)) (by rfl) (by rfl) (by decide)
  refine PySem.W.set_plain X4 (ox := PySem.W.excObj C t' none .none) (od := none) ⟨hx4, rfl, rfl, trivial⟩ T.sa ?_
  refine HandSPX.exc_osa X4 hx4 hcl (show HandSPX.refsVE (.ref C :: bm) = true from hbm) rfl T.noN fun h₅ tk₅ dx k5 dn dne hx5 hn5 => ?_
  refine wpAt_any (wpAny_execs_nil ?_)
  have z : hp.objs.size ≤ h₄.objs.size := by
    have := F4.above
    exact Nat.le_trans this (Nat.le_of_lt F4.ns.lt)
  refine hq h₅ tk₅ dx ⟨fun b o hb e => k5 b o hb (F4.keep _ _ e), ⟨t', hx5⟩, Nat.le_trans z dn, dne, hn5⟩
end
end Lk

/-! ## Bad2 -/
set_option Elab.async false
set_option linter.all false
set_option maxRecDepth 100000
set_option maxHeartbeats 2000000
namespace Lk
open PySem PySem.Spec PyProof.Rows L2
variable [Own]
/-- a made BadRules -/
structure BadMade (h h' : Heap) (e C d : Addr) (v : Value) : Prop where
  keep : ∀ b o, h.get? b = some o → h'.get? b = some o
  new : h.objs.size ≤ e
  obj : ∃ oe vs, h'.get? e = some oe ∧ oe.cls = .ref C ∧ oe.dict = some d ∧ oe.data = .fields vs ∧ vs[1]? = some .none
  dbig : h.objs.size ≤ d
  dne : d ≠ e
  ns : h'.Ns1 d (fun y => if y = "folk" then some v else none)
theorem text_len {n : Int} (h : 0 ≤ n ∧ n ≤ 9) : n.natAbs.log2 < 1920 ∧ (PySem.Str.ofString "no rules: " ++ PySem.Str.ofString (toString n)).length ≤ sizeLine := by
  rcases (by omega : n = 0 ∨ n = 1 ∨ n = 2 ∨ n = 3 ∨ n = 4 ∨ n = 5 ∨ n = 6 ∨ n = 7 ∨ n = 8 ∨ n = 9) with e | e | e | e | e | e | e | e | e | e <;> (subst e; exact ⟨by decide +kernel, by decide +kernel⟩)
section
variable {prog : Program} {w : World} {A : Around} {R : Result → Shared → Prop} {s : Shared} {K : PySem.W.Frag} {mg : Str → Option Value} {C fI cc : Addr}
theorem bad_made (T : BadTxt prog K mg C fI cc) {n : Int} {tok : Tok} (hn : 0 ≤ n ∧ n ≤ 9) (X : K.In s.heap) (hg : s.heap.Ns mainGlobals mg) (hb : ∃ mb, s.heap.Ns builtinsNs mb ∧ ∀ x : Str, x ≠ "__name__" → mb x = bootBuiltins x) (hlim : s.heap.NoLimit) (hroom : A.depth + 1 < recursionLimit)
    (hq : ∀ h' tk e d, BadMade s.heap h' e C d (.int n tok) → R (.ok (.ret (.ref e))) { s with heap := h', toks := tk }) :
    codeAny (model prog w) A (.call (.ref C) ⟨[.int n tok], []⟩) R s := by
  obtain ⟨nm, q, N, bs, bm, sn, sub, ab, col, dd, k0, k1, k2, k3, k5, hC, hbm⟩ := T.cls
  obtain ⟨hp, g, dr, tk, os⟩ := s
  have k : ∀ b o, hp.get? b = some o → ((hp.push (PySem.W.kdv_tup [.int n tok])).push (HandSPX.excO C hp.objs.size)).get? b = some o := fun b o e => Heap.get?_push_of_some _ (Heap.get?_push_of_some _ e)
  have hget : ((hp.push (PySem.W.kdv_tup [.int n tok])).push (HandSPX.excO C hp.objs.size)).get? (hp.objs.size + 1) = some (HandSPX.excO C hp.objs.size) := by heap_get
  have hx0 : hp.get? (hp.objs.size + 1) = none := by
    cases e : hp.get? (hp.objs.size + 1) with
    | none => rfl
    | some o => exact absurd (Nat.lt_of_succ_lt (Heap.lt_size e)) (Nat.lt_irrefl _)
  have one : ([.int n tok] : List Value).length ≤ sizeLine := by
    rw [sizeLine_eq]
    exact (by decide : 1 ≤ 16777216)
  obtain ⟨t1, t2⟩ := text_len hn
  refine HandSPX.call_own PySem.F.excBase_ValueError (fun X => HandSPX.refsVE_contains X bm hbm) (X _ _ hC) (PySem.W.looks_findIn X T.iC) (fun self => PySem.W.bind_fn X self T.tC) one ?_
  refine bad_init (s := ⟨(hp.push (PySem.W.kdv_tup [.int n tok])).push (HandSPX.excO C hp.objs.size), g, dr, tk, os⟩) T (hp := hp) X k (by
    show hp.objs.size ≤ ((hp.push _).push _).objs.size
    rw [Heap.size_push, Heap.size_push]
    exact Nat.le_trans (Nat.le_succ _) (Nat.le_succ _)) hg hb (hlim.keeps k) hget hx0 ?_ t1 t2 fun h' tk' dx M => ?_
  · show A.depth + 1 < recursionLimit
    exact hroom
  · have old : ∀ b o, hp.get? b = some o → h'.get? b = some o := fun b o e => M.keep b o (Nat.ne_of_lt (Nat.lt_succ_of_lt (Heap.lt_size e))) e
    obtain ⟨t1, hx⟩ := M.obj
    exact ⟨rfl, hq h' tk' (hp.objs.size + 1) dx ⟨old, Nat.le_succ _, ⟨_, _, hx, rfl, rfl, rfl, rfl⟩, M.dbig, M.dne, M.ns⟩⟩
end
theorem relO_folk {v : V} {v' : Value} (r : L2.RelV v v') (f : Str) : RelO (List.lookup f [(("folk" : Str), v)]) (if f = "folk" then some v' else none) := by
  by_cases hw : f = "folk"
  · subst hw
    rw [if_pos rfl]
    have q : List.lookup ("folk" : Str) [(("folk" : Str), v)] = some v := by simp [List.lookup]
    rw [q]
    exact r
  · rw [if_neg hw]
    have qw : (f == ("folk" : Str)) = false := by simpa using hw
    have q2 : List.lookup f [(("folk" : Str), v)] = none := by simp [List.lookup, qw]
    rw [q2]
    trivial
section
variable {X : Cx} {C fI cc : Addr}
/-- BadRules(n), n a small number -/
def tMkBad (C : Addr) (ta : TA) : L2.St → Hp → XK → Prop := fun σ H Q => ta σ H fun vs H1 => ∃ n : Int, vs = [.int n] ∧ (0 ≤ n ∧ n ≤ 9) ∧ ∀ d, H1 d = none → Q (.ref C) (some d) (upd H1 d (.xd [(("folk" : Str), .int n)]))
theorem pmk_bad {a : Expr} {ta : TA} {p pos : Pos} {k : Nat} (T : BadTxt X.prog X.K X.mg C fI cc) (hr : Room k X.A) (ha : PA X [a] ta) (hg : Gl X "BadRules" := by rfl)
    (he : starEach (a :: []) X.env = (false, eval a X.env) :: starEach [] X.env := by rfl) (hpl : (backTo pos (starEach [] X.env)).any (·.1) = false := by rfl) :
    PMk X (.Call (.Name "BadRules" p) [a] [] pos) (tMkBad C ta) := by
  intro pins s σ H Q I h
  refine wpAny_Call_Name_kw (ld_glob I hg T.gC ?_)
  refine PySem.W.callWith_K (h₀ := X.base) I.ok.mod.kin T.kC (thn (ha.run pos pins s σ H _ I h) fun us s1 hh => ?_) he hpl
  obtain ⟨vs, H1, I1, r1, n, ev, hn, q1⟩ := hh
  subst ev
  refine ⟨I1.kIn, ?_⟩
  cases r1 with
  | cons rv rn =>
    rename_i v' us'
    cases rn
    obtain ⟨tok, rfl⟩ := rv
    show wpAny _ _ (call (.ref C) [.int n tok]) _ _ _
    have hlim := I1.nolimit
    have k0 : ∀ b o, X.base.get? b = some o → s1.heap.get? b = some o := I1.bk
    have hgl : s1.heap.Ns mainGlobals X.mg := ns_kept k0 I1.ok.mod.glob
    have hbl : ∃ mb, s1.heap.Ns builtinsNs mb ∧ ∀ x : Str, x ≠ "__name__" → mb x = bootBuiltins x := by
      obtain ⟨mb, h1, h2⟩ := I1.ok.mod.blt
      exact ⟨mb, ns_kept k0 h1, h2⟩
    obtain ⟨hp, g, dr, tk, os⟩ := s1
    refine wpAny_call (bad_made T hn I1.kIn hgl hbl hlim (by have := hr.dp; omega) fun h' tk' e d M => ?_)
    show MkP X pins σ Q (.ref e) ⟨h', g, dr, tk', os⟩
    obtain ⟨oe, fv, hoe, hc, hd, hdat, h1⟩ := M.obj
    have hns := M.ns
    obtain ⟨G', g1, g2⟩ := restrict h' fun b => decide (b ≠ e)
    have gk : ∀ b, b ≠ e → G'.get? b = h'.get? b := fun b hb => g1 b (decide_eq_true hb)
    have ge : G'.get? e = none := g2 e (by simp)
    have old : ∀ b o, hp.get? b = some o → G'.get? b = some o := fun b o q => (gk b (Nat.ne_of_lt (Nat.lt_of_lt_of_le (Heap.lt_size q) M.new))).trans (M.keep b o q)
    have ob : ObjOk X.prog X.w (upd H1 d (.xd [(("folk" : Str), .int n)])) G' d (.xd [(("folk" : Str), .int n)]) :=
      ⟨_, hns.at (fun o q => (gk d M.dne).trans q), fun f => relO_folk (v := .int n) ⟨tok, rfl⟩ f⟩
    have J : L2.Inv X pins σ (upd H1 d (.xd [(("folk" : Str), .int n)])) ⟨G', g, dr, tk', os⟩ := I1.laid (t' := tk') old M.dbig ob
    refine ⟨e, oe, fv, ⟨G', g, dr, tk', os⟩, _, .ref C, some d, rfl, J, fun b o q => ?_, ge, hoe, ⟨hc, hd⟩, hdat, h1, ?_, rfl, I1.bare, raises_own T.exC T.tyC, q1 d (I1.hok.fresh M.dbig)⟩
    · by_cases hb : b = e
      · have q' : G'.get? b = some o := q
        rw [hb, ge] at q'; cases q'
      · exact (gk b hb).symm.trans q
    · rw [upd_ne (Ne.symm M.dne)]
      exact I1.hok.fresh M.new
/-- raise BadRules(n) -/
def tRaiseBad (C : Addr) (W : WX) (ta : TA) : TS := fun _ σ H => tMkBad C ta σ H fun cls d H' => W cls d σ H'
theorem ps_raiseBad {a : Expr} {ta : TA} {W : WX} {p pos pos2 : Pos} {k : Nat} (hc : X.calm = true) (T : BadTxt X.prog X.K X.mg C fI cc) (hr : Room k X.A) (tk : Takes X W) (ha : PA X [a] ta) (hg : Gl X "BadRules" := by rfl)
    (he : starEach (a :: []) X.env = (false, eval a X.env) :: starEach [] X.env := by rfl) (hpl : (backTo pos (starEach [] X.env)).any (·.1) = false := by rfl) :
    PS X (.Raise (some (.Call (.Name "BadRules" p) [a] [] pos)) none pos2) (tRaiseBad C W ta) := ps_raise hc tk (pmk_bad T hr ha hg he hpl)
end
end Lk

/-! ## D33 -/
set_option Elab.async false
set_option linter.all false
set_option maxRecDepth 100000
set_option maxHeartbeats 2000000
namespace Lk
open PySem PySem.Spec PyProof.Rows L2 Gx
open GxR (TabG Tabbed TabB)
variable [Own]
theorem FnOk.up {P : Program} {w : World} {K : PySem.W.Frag} {mg : Str → Option Value} {base : Heap} {CX : CXT} {k k' : Nat} {f : Addr} {fd : FuncData} {ps : List Str} {sp : Sp} (h : k ≤ k') (F : FnOk P w K mg base CX k f fd ps sp) : FnOk P w K mg base CX k' f fd ps sp :=
  ⟨F.len, fun A outer s H args us vs Q E hr => F.run A outer s H args us vs Q E (hr.mono h)⟩
abbrev s_check_rules : Stmt := top 27
theorem sc_check_rules : FnScope ["web", "rules", "tops", "_", "folk", "table"] ["web", "rules"] (defScope s_check_rules) := ⟨rfl, rfl, rfl, by decide +kernel, rfl, by decide +kernel, by decide +kernel⟩
theorem bad_none' {W : Web} {ru : List (List Int)} (h : ∀ f, f < W.tops.length → isTable W (f : Int) (ru.getD f []) = true) : firstBad W ru = none := by
  unfold firstBad
  rw [List.find?_eq_none]
  intro f hf
  rw [h f (List.mem_range.mp hf)]
  simp
theorem bad_first {W : Web} {ru : List (List Int)} {n : Nat} (hn : n < W.tops.length) (h1 : ∀ j, j < n → isTable W (j : Int) (ru.getD j []) = true) (h2 : isTable W (n : Int) (ru.getD n []) = false) : firstBad W ru = some n := by
  cases e : firstBad W ru with
  | none =>
    have := firstBad_none e (n : Int) (by omega) (by omega)
    have this : isTable W (n : Int) (ru.getD n []) = true := this
    rw [h2] at this
    cases this
  | some f =>
    have g1 := List.find?_some e
    rcases Nat.lt_trichotomy f n with h | h | h
    · rw [h1 f h] at g1
      cases g1
    · rw [h]
    · unfold firstBad at e
      rw [List.find?_range_eq_some] at e
      have := e.2.2 n h
      rw [h2] at this
      cases this
section
variable {P : Program} {w : World} {K : PySem.W.Frag} {mg : Str → Option Value} {base : Heap} {Ps : List Addr} {C fI cc : Addr}
theorem ok_check_rules {f : Addr} {fd : FuncData} (F : Fun K "check_rules" "check_rules" s_check_rules f fd) (B : Blt mg) (TB : BadTxt P K mg C fI cc)
    (c_is_table : Cal P w K mg base CX0 4 "is_table" ["web", "folk", "value"] (spIsTable Ps)) : FnOk P w K mg base (L2.CX P w) 6 f fd ["web", "rules"] (spCheckRules Ps C) := by
  refine F.okX sc_check_rules (fun vs H Q E h => ?_) (fun cdv A outer s0 H vs Q E hr h => ?_)
  · obtain ⟨v, r, W, ru, rfl, _⟩ := h
    rfl
  · obtain ⟨v, r, W, ru, rfl, hW, ok, hru, r0, hTb, k0, k1⟩ := h
    obtain ⟨a, t, l, rfl, ha, ⟨tt, rfl, ht⟩, hl⟩ := id hW
    obtain ⟨ra, us, rfl, hra, hus⟩ := id hru
    refine ⟨_, (pss_cons (ps_asg (pv 0) (pg_tupT (n := 2) rfl (pgs_cons (pg_name (i := 2) sc_check_rules.nd rfl (by first | exact Or.inl rfl | exact Or.inr rfl)) (pgs_cons (pg_name (i := 3) sc_check_rules.nd rfl (by first | exact Or.inl rfl | exact Or.inr rfl)) pgs_nil))))
      (pss_cons (ps_if (PW.pt (pw_or (pt_not (pt_val (pe_callB call_isi (by rfl) B.isi boot_isinstance (pa_cons (pv 1) (pa_cons (pe_bltn (v := .ty "tuple") (by rfl) B.tuple boot_tyTuple rfl) pa_nil))))) (pw_or1 (pt_cmpR op_ne (pe_callB call_lenT (by rfl) B.len PySem.boot_len (pa_cons (pv 1) pa_nil)) (pe_callB call_lenT (by rfl) B.len PySem.boot_len (pa_cons (pv 2) pa_nil)) (nomark _)))))
        (pss_one ps_never) pss_nil)
      (pss_one (ps_for (passes_of rfl) rfl (pi_enumT (by rfl) B.enum (pa_cons (pv 1) pa_nil)) (pg_tupT (n := 2) rfl (pgs_cons (pg_name (i := 4) sc_check_rules.nd rfl (by first | exact Or.inl rfl | exact Or.inr rfl)) (pgs_cons (pg_name (i := 5) sc_check_rules.nd rfl (by first | exact Or.inl rfl | exact Or.inr rfl)) pgs_nil)))
        (pss_one (ps_if (pt_not (pt_val (pe_c0 c_is_table (hr.mono (by decide)) (by rfl) (pa_cons (pv 0) (pa_cons (pv 4) (pa_cons (pv 5) pa_nil))))))
          (pss_one (ps_raiseBad rfl TB hr (takes_of rfl rfl rfl rfl) (pa_cons (pv 4) pa_nil))) pss_nil)))))), ?_⟩
    have h6 := ok.few
    have lus : us.length = W.tops.length := by rw [paired_len hus, r0.len]
    refine ⟨_, rfl, a, _, rfl, ha, rfl, _, _, rfl, _, _, rfl, rfl, ?_⟩
    refine ⟨_, rfl, _, _, _, _, true, rfl, .ty "tuple", isi_tup hra, kit_ty (by decide +kernel), _, rfl, iteF ?_⟩
    refine ⟨_, rfl, ra, _, rfl, .inr hra, _, rfl, tt, _, rfl, .inr ht, rfl, _, rfl, ?_⟩
    have en : (!decide (V.int (us.length : Nat) = V.int ((iv W.tops).length : Nat))) = false := by rw [iv_len, lus, decide_eq_true rfl]; rfl
    rw [en]
    refine iteF ?_
    refine ⟨_, rfl, ra, us, rfl, hra, for_walk (walk_enumT (a := ra) (xs := us)) (fun i σ H' => ∃ (o4 o5 : Option V), σ = [some (.ref a), some (.ref ra), some (.ref tt), some l, o4, o5] ∧ Ext H H' ∧ ∀ j, j < i → isTable W (j : Int) (ru.getD j []) = true)
      ⟨none, none, rfl, Ext.refl _, fun j h => by omega⟩ (fun i σ H' _ ⟨_, _, _, e, _⟩ => e.tup hra) ?_ ?_⟩
    · rintro i x σ H1 H2 hi ⟨o4, o5, rfl, e1, b1⟩ ⟨T, y, rfl, hT, rfl, hy⟩
      have e2 := e1.trans (Ext.new hT (.tup [.int (i : Nat), y]))
      obtain ⟨tb, htb, hty⟩ := paired_get' (pTI.ext e2 hus) hy
      have gtb : ru.getD i [] = tb := by rw [List.getD_eq_getElem?_getD, htb]; rfl
      have hfew := r0.few tb (List.mem_of_getElem? htb)
      refine ⟨T, _, rfl, upd_same, rfl, _, _, rfl, _, _, rfl, rfl, ?_⟩
      refine ⟨_, rfl, _, rfl, _, rfl, _, _, W, (i : Int), tb, rfl, hW.ext e2, ok, ⟨by omega, by omega⟩, hty, hfew, hTb.ext e2, fun H3 e3 => ⟨_, rfl, ?_⟩⟩
      have E3 := e2.trans e3
      cases hb : isTable W (i : Int) tb with
      | true =>
        refine iteF ⟨_, _, rfl, E3, fun j hj => ?_⟩
        by_cases h2 : j < i
        · exact b1 j h2
        · rw [show j = i by omega, gtb]
          exact hb
      | false =>
        refine iteT ?_
        refine ⟨_, rfl, (i : Int), rfl, ⟨by omega, by omega⟩, fun d hd => ?_⟩
        exact k1 i (bad_first (by omega) b1 (by rw [gtb]; exact hb)) _ d (E3.trans (Ext.new hd _)) (E3.free hd) upd_same
    · rintro σ H' ⟨o4, o5, rfl, e, b⟩
      exact k0 (bad_none' fun f hf => b f (by omega)) H' e
end
end Lk

/-! ## End0 -/
set_option Elab.async false
set_option linter.all false
set_option maxRecDepth 100000
set_option maxHeartbeats 4000000
/-! The end of the law on given webs and rules: all defs of the heap behind the program's lines, joined. -/
namespace Lk
open PySem PySem.Spec PyProof.Rows L2 Gx
local instance noOwn : Own := ⟨fun _ => False⟩
/-- the tables of code objects are empty when the law is called -/
def TabAll (q : Program) (mg : Str → Option Value) (h : Heap) : Prop := ∀ d ∈ recsOf q, ∃ a o fd c P, mg d.name = some (.ref a) ∧ h.get? a = some o ∧ o.data = .func fd ∧ fd.code = .ref c ∧ h.IsCode c P #[] ∧ h.TableAt c P #[]
theorem walk_tabs {l : PySem.W.OpenLaw} {q : Program} {XP : (Str → Option Value) → Heap → Prop} {YP : World → Heap → Prop} {d : DefRec} {K : Params → PySem.W.Frag} {k : Nat} {x : Str} (hn : l.most = some 63) (hdf : d.params.defaults = []) (hr : Room k callerA) (hY : ∀ w h, YP w h → (K w.params).In h)
    (F : ∀ w mg fa h, (K w.params).In h → h.Ns mainGlobals mg → mg d.name = some (.ref fa) → TabAll q mg h → LamX.LawAtS l w (K w.params) CX0 k 63 x mg fa h) : PySem.W.WalkO q [] XP YP l.row.toRowW d [] (fun f vs => PySem.call f vs) := by
  refine Att.attach_callB hn hdf fun w _ s1 mg _ fa _ _ _ _ a vs ns G Y _ _ _ hm ho hi hl hb hg => ?_
  obtain ⟨fd, cs, sp, t1, t2, t3, t4, t5, t6⟩ := F w mg fa s1.heap (hY w _ Y) G.T.g hm G.T.tab
  exact LamX.law_callTs (hY w _ Y) G.T.g G.T.b G.T.builtins G.T.nolimit hg t1 t2 t3 G.T.bmain ho hi (Nat.le_trans hl (by decide)) hr t6 t4 (fun H hH hS => t5 H a ns hl hb hH hS) fun _ _ _ z => z
/-- a def of the module, named as it is bound -/
structure FnAt (K : PySem.W.Frag) (x : Str) (st : Stmt) : Prop where
  ex : ∃ f fd, PySem.W.nsIn K mainGlobals x = some (some (.ref f)) ∧ L2.Fun K x x st f fd
section
variable {P : Program} {w : World} {K : PySem.W.Frag} {mg : Str → Option Value} {base h : Heap} {x : Str} {st : Stmt} {q : Program} {CX : CXT} {k : Nat} {ps : List Str} {sp : Sp}
theorem fnAt {f : Addr} {oc : Value} {od an : Option Addr} {osl : Array (Option Value)} {kV doc pm cdv ct : Value} (n : PySem.W.nsIn K mainGlobals x = some (some (.ref f)))
    (l : K.lookup f = some ⟨oc, od, .func (PySem.W.fnOf x x (defArgs st) (defBody st) (defScope st) .none kV doc pm an cdv ct), osl⟩) (c : PySem.W.codeIn K cdv x = true) (k : PySem.W.keepIn K (.ref f) = true) : FnAt K x st := ⟨⟨_, _, n, L2.fun_mk l c k⟩⟩
theorem FnAt.cal (A : FnAt K x st) (X : K.In h) (G : h.Ns mainGlobals mg)
    (hb : ∀ (kV doc pm : Value) (an : Option Addr) (cdv ct : Value) (us : List Value), us.length = ps.length → bindArgs (PySem.W.fnOf x x (defArgs st) (defBody st) (defScope st) .none kV doc pm an cdv ct) ⟨us, []⟩ = pure (ps.zip us))
    (ok : ∀ f fd, L2.Fun K x x st f fd → FnOk P w K mg base CX k f fd ps sp) : Cal P w K mg base CX k x ps sp := by
  obtain ⟨f, fd, n, F⟩ := A.ex
  exact ⟨f, fd, PySem.W.mg_of X G n, F.kp, F.binds hb, ok f fd F⟩
/-- a def with a generator expression: its code object, its table -/
structure TabAt (K : PySem.W.Frag) (mg : Str → Option Value) (h : Heap) (x : Str) (st : Stmt) (c T : Addr) : Prop where
  hd : PySem.W.CodeHd h c T
  none : h.get? T = some { cls := .none, data := .fields #[] }
  fn : ∃ f fd, mg x = some (.ref f) ∧ L2.Fun K x x st f fd ∧ ∀ base Ps, T ∈ Ps → LamX.TabB base mg c T → FunT K mg base Ps x st f fd T
theorem FnAt.tab (A : FnAt K x st) (X : K.In h) (G : h.Ns mainGlobals mg) (T : TabAll q mg h) (hr : ((recsOf q).any fun e => e.name == x) = true) : ∃ c T, TabAt K mg h x st c T := by
  obtain ⟨d, hd, hx⟩ := List.any_eq_true.mp hr
  have hx : d.name = x := beq_iff_eq.mp hx
  subst hx
  obtain ⟨a, o, fd, c, Q, h1, h2, h3, h4, h5, h6⟩ := T d hd
  obtain ⟨f, fd', n, F⟩ := A.ex
  have hm := PySem.W.mg_of X G n
  rw [hm] at h1
  cases h1
  obtain ⟨oc, od, kV, doc, pm, an, cdv, ct, osl, e, lk, hcd⟩ := F.ex
  have g := X _ _ lk
  rw [h2] at g
  cases g
  have e3 : fd' = fd := by
    have h3' : Data.func fd' = Data.func fd := h3
    exact Data.func.inj h3'
  subst e3
  have e4 : cdv = .ref c := by
    rw [e] at h4
    exact h4
  subst e4
  exact ⟨c, Q, PySem.W.CodeHd.of h5 h6, h6.2, a, fd', hm, F, fun base Ps hq tb => ⟨⟨oc, od, kV, doc, pm, an, c, ct, osl, e, lk, hcd, tb.code, tb.bm, tb.gP⟩, hq, fun z => z⟩⟩
theorem TabAt.cal {c T : Addr} {Ps : List Addr} (A : TabAt K mg h x st c T) (hP : T ∈ Ps) (tb : LamX.TabB base mg c T)
    (hb : ∀ (kV doc pm : Value) (an : Option Addr) (cdv ct : Value) (us : List Value), us.length = ps.length → bindArgs (PySem.W.fnOf x x (defArgs st) (defBody st) (defScope st) .none kV doc pm an cdv ct) ⟨us, []⟩ = pure (ps.zip us))
    (ok : ∀ f fd, FunT K mg base Ps x st f fd T → FnOk P w K mg base CX k f fd ps sp) : Cal P w K mg base CX k x ps sp := by
  obtain ⟨f, fd, hm, F, t⟩ := A.fn
  exact ⟨f, fd, hm, F.kp, F.binds hb, ok f fd (t base Ps hP tb)⟩
theorem Cal.up {k' : Nat} (hk : k ≤ k') (c : Cal P w K mg base CX k x ps sp) : Cal P w K mg base CX k' x ps sp := by
  obtain ⟨f, fd, a, b, d, e⟩ := c.ex
  exact ⟨f, fd, a, b, d, FnOk.up hk e⟩
end
/-- no table stands among the heap's written objects -/
def noTbl (K : PySem.W.Frag) : Bool := K.all fun p => match p.2.data with | .fields vs => vs.size != 0 | _ => true
theorem lookup_mem {α β : Type} [BEq α] [LawfulBEq α] {a : α} {b : β} : ∀ {l : List (α × β)}, l.lookup a = some b → (a, b) ∈ l
  | [], e => by simp at e
  | (c, d) :: r, e => by
    rw [List.lookup_cons] at e
    cases hc : a == c with
    | true =>
      rw [hc] at e
      have := beq_iff_eq.mp hc
      subst this
      cases e
      exact .head _
    | false =>
      rw [hc] at e
      exact .tail _ (lookup_mem e)
theorem noTbl_at {K : PySem.W.Frag} {h : Heap} {T : Addr} (n : noTbl K = true) (X : K.In h) (e : h.get? T = some { cls := .none, data := .fields #[] }) : K.lookup T = none := by
  cases q : K.lookup T with
  | none => rfl
  | some o =>
    have g := X _ _ q
    rw [e] at g
    cases g
    have := List.all_eq_true.mp n _ (lookup_mem q)
    exact absurd this (fun z => Bool.noConfusion (show false = true from z))
structure Names (K : PySem.W.Frag) : Prop where
  n_isi : PySem.W.nsIn K mainGlobals "isinstance" = some none
  n_int : PySem.W.nsIn K mainGlobals "int" = some none
  n_bool : PySem.W.nsIn K mainGlobals "bool" = some none
  n_tuple : PySem.W.nsIn K mainGlobals "tuple" = some none
  n_list : PySem.W.nsIn K mainGlobals "list" = some none
  n_set : PySem.W.nsIn K mainGlobals "set" = some none
  n_len : PySem.W.nsIn K mainGlobals "len" = some none
  n_all : PySem.W.nsIn K mainGlobals "all" = some none
  n_range : PySem.W.nsIn K mainGlobals "range" = some none
  n_sorted : PySem.W.nsIn K mainGlobals "sorted" = some none
  n_enum : PySem.W.nsIn K mainGlobals "enumerate" = some none
  n_zip : PySem.W.nsIn K mainGlobals "zip" = some none
  n_max : PySem.W.nsIn K mainGlobals "max" = some none
  n_str : PySem.W.nsIn K mainGlobals "str" = some none
  n_sup : PySem.W.nsIn K mainGlobals "super" = some none
  n_MOST_FOLK : ∃ t, PySem.W.nsIn K mainGlobals "MOST_FOLK" = some (some (.int 6 t))
  n_MOST_TOP : ∃ t, PySem.W.nsIn K mainGlobals "MOST_TOP" = some (some (.int 3 t))
  n_MOST_LOOKS : ∃ t, PySem.W.nsIn K mainGlobals "MOST_LOOKS" = some (some (.int 14 t))
  n_MOST_LOOKS_OF_ONE : ∃ t, PySem.W.nsIn K mainGlobals "MOST_LOOKS_OF_ONE" = some (some (.int 4 t))
  n_MOST_TICKS : ∃ t, PySem.W.nsIn K mainGlobals "MOST_TICKS" = some (some (.int 200 t))
theorem Names.blt {K : PySem.W.Frag} {h : Heap} {mg : Str → Option Value} (N : Names K) (X : K.In h) (G : h.Ns mainGlobals mg) : Blt mg :=
  ⟨PySem.W.mg_none_of X G N.n_isi, PySem.W.mg_none_of X G N.n_int, PySem.W.mg_none_of X G N.n_bool, PySem.W.mg_none_of X G N.n_tuple, PySem.W.mg_none_of X G N.n_list, PySem.W.mg_none_of X G N.n_set, PySem.W.mg_none_of X G N.n_len, PySem.W.mg_none_of X G N.n_all, PySem.W.mg_none_of X G N.n_range, PySem.W.mg_none_of X G N.n_sorted, PySem.W.mg_none_of X G N.n_enum, PySem.W.mg_none_of X G N.n_zip, PySem.W.mg_none_of X G N.n_max, PySem.W.mg_none_of X G N.n_str, PySem.W.mg_none_of X G N.n_sup⟩
theorem Names.nums {K : PySem.W.Frag} {h : Heap} {mg : Str → Option Value} (N : Names K) (X : K.In h) (G : h.Ns mainGlobals mg) : Nums mg :=
  ⟨let ⟨t, e⟩ := N.n_MOST_FOLK; ⟨t, PySem.W.mg_of X G e⟩, let ⟨t, e⟩ := N.n_MOST_TOP; ⟨t, PySem.W.mg_of X G e⟩, let ⟨t, e⟩ := N.n_MOST_LOOKS; ⟨t, PySem.W.mg_of X G e⟩, let ⟨t, e⟩ := N.n_MOST_LOOKS_OF_ONE; ⟨t, PySem.W.mg_of X G e⟩, let ⟨t, e⟩ := N.n_MOST_TICKS; ⟨t, PySem.W.mg_of X G e⟩⟩
theorem law_mk {l : PySem.W.OpenLaw} {w : World} {K : PySem.W.Frag} {h : Heap} {mg : Str → Option Value} {fa : Addr} {q : Program} (X : K.In h) (G : h.Ns mainGlobals mg) (hfa : mg "law" = some (.ref fa)) (T : TabAll q mg h) (nt : noTbl K = true) (N : Names K)
    (BT : ∃ C fI cc, BadTxt l.prog K mg C fI cc ∧ BadK K mg C)
    (r_are_tops : ((recsOf q).any fun e => e.name == "are_tops") = true)
    (r_are_looks : ((recsOf q).any fun e => e.name == "are_looks") = true)
    (r_goes_along : ((recsOf q).any fun e => e.name == "goes_along") = true)
    (r_is_table : ((recsOf q).any fun e => e.name == "is_table") = true)
    (r_is_state : ((recsOf q).any fun e => e.name == "is_state") = true)
    (a_is_whole : FnAt K "is_whole" sIsWhole)
    (a_are_tops : FnAt K "are_tops" s_are_tops)
    (a_is_look : FnAt K "is_look" s_is_look)
    (a_looks_of : FnAt K "looks_of" s_looks_of)
    (a_rows_of : FnAt K "rows_of" s_rows_of)
    (a_are_looks : FnAt K "are_looks" s_are_looks)
    (a_many_rows : FnAt K "many_rows" s_many_rows)
    (a_place_seen : FnAt K "place_seen" s_place_seen)
    (a_mood_told : FnAt K "mood_told" s_mood_told)
    (a_ways_of : FnAt K "ways_of" s_ways_of)
    (a_goes_along : FnAt K "goes_along" s_goes_along)
    (a_is_table : FnAt K "is_table" s_is_table)
    (a_state_told : FnAt K "state_told" s_state_told)
    (a_settled_states : FnAt K "settled_states" s_settled_states)
    (a_is_state : FnAt K "is_state" s_is_state)
    (a_check_state : FnAt K "check_state" s_check_state)
    (a_wrong_part : FnAt K "wrong_part" s_wrong_part)
    (a_check_web : FnAt K "check_web" s_check_web)
    (a_check_folk : FnAt K "check_folk" s_check_folk)
    (a_check_rules : FnAt K "check_rules" s_check_rules)
    (a_check_standing : FnAt K "check_standing" s_check_standing)
    (a_told : FnAt K "told" s_told)
    (a_is_settled : FnAt K "is_settled" s_is_settled)
    (a_settled : FnAt K "settled" s_settled)
    (a_run : FnAt K "run" s_run)
    (a_settled_by : FnAt K "settled_by" s_settled_by)
    (a__law_taken : FnAt K "_law_taken" s__law_taken)
    (a__law_moods : FnAt K "_law_moods" s__law_moods)
    (a__law_seen : FnAt K "_law_seen" s__law_seen)
    (a__law_pick : FnAt K "_law_pick" s__law_pick)
    (a__law_goes : FnAt K "_law_goes" s__law_goes)
    (a__law_state : FnAt K "_law_state" s__law_state)
    (a__law_table : FnAt K "_law_table" s__law_table)
    (a__law_rules : FnAt K "_law_rules" s__law_rules)
    (a__law_told : FnAt K "_law_told" s__law_told)
    (a__law_behind : FnAt K "_law_behind" s__law_behind)
    (a__law_settled : FnAt K "_law_settled" s__law_settled)
    (a__law_is_table : FnAt K "_law_is_table" s__law_is_table)
    (a__law_web : FnAt K "_law_web" s__law_web)
    (a_alike : FnAt K "_law_alike" s__law_alike) (a_law : FnAt K "law" s_law) : LamX.LawAtS l w K CX0 9 63 "script" mg fa h := by
  obtain ⟨c0, T0, t0⟩ := a_are_tops.tab X G T r_are_tops
  obtain ⟨c1, T1, t1⟩ := a_are_looks.tab X G T r_are_looks
  obtain ⟨c2, T2, t2⟩ := a_goes_along.tab X G T r_goes_along
  obtain ⟨c3, T3, t3⟩ := a_is_table.tab X G T r_is_table
  obtain ⟨c4, T4, t4⟩ := a_is_state.tab X G T r_is_state
  obtain ⟨C, fI, cc, TB, TK⟩ := BT
  obtain ⟨f, fd, n, F⟩ := a_law.ex
  have e := hfa.symm.trans (PySem.W.mg_of X G n)
  cases e
  have B := N.blt X G
  have M := N.nums X G
  refine ⟨fd, [(c0, T0), (c1, T1), (c2, T2), (c3, T3), (c4, T4)], spLaw K [T0, T1, T2, T3, T4], (by
    intro p hp
    simp only [List.mem_cons, List.not_mem_nil, or_false] at hp
    rcases hp with e | e | e | e | e
    · rw [e]; exact t0.none
    · rw [e]; exact t1.none
    · rw [e]; exact t2.none
    · rw [e]; exact t3.none
    · rw [e]; exact t4.none
    ), (by
    intro p hp
    simp only [List.mem_cons, List.not_mem_nil, or_false] at hp
    rcases hp with e | e | e | e | e
    · rw [e]; exact noTbl_at nt X t0.none
    · rw [e]; exact noTbl_at nt X t1.none
    · rw [e]; exact noTbl_at nt X t2.none
    · rw [e]; exact noTbl_at nt X t3.none
    · rw [e]; exact noTbl_at nt X t4.none
    ), (by
    intro p hp
    simp only [List.mem_cons, List.not_mem_nil, or_false] at hp
    rcases hp with e | e | e | e | e
    · rw [e]; exact t0.hd
    · rw [e]; exact t1.hd
    · rw [e]; exact t2.hd
    · rw [e]; exact t3.hd
    · rw [e]; exact t4.hd
    ), ?_, ?_, ?_⟩
  · obtain ⟨oc, od, kV, doc, pm, an, cdv, ct, osl, e, lk, hcd⟩ := F.ex
    intro s u
    rw [e]
    exact .of_eq rfl
  · intro H a ns hl hb hH hS
    refine ⟨a, ns, rfl, hS, hl, fun p hp => ?_, fun _ => rfl⟩
    simp only [List.mem_cons, List.not_mem_nil, or_false] at hp
    rcases hp with e | e | e | e | e
    · rw [e]; exact ⟨#[], hH (c0, T0) (by simp), trivial⟩
    · rw [e]; exact ⟨#[], hH (c1, T1) (by simp), trivial⟩
    · rw [e]; exact ⟨#[], hH (c2, T2) (by simp), trivial⟩
    · rw [e]; exact ⟨#[], hH (c3, T3) (by simp), trivial⟩
    · rw [e]; exact ⟨#[], hH (c4, T4) (by simp), trivial⟩
  · intro base XB GB tb
    have tb0 := tb (c0, T0) (by simp)
    have tb1 := tb (c1, T1) (by simp)
    have tb2 := tb (c2, T2) (by simp)
    have tb3 := tb (c3, T3) (by simp)
    have tb4 := tb (c4, T4) (by simp)
    generalize hPs : ([T0, T1, T2, T3, T4] : List Addr) = Ps
    have m0 : T0 ∈ Ps := by rw [← hPs]; simp
    have m1 : T1 ∈ Ps := by rw [← hPs]; simp
    have m2 : T2 ∈ Ps := by rw [← hPs]; simp
    have m3 : T3 ∈ Ps := by rw [← hPs]; simp
    have m4 : T4 ∈ Ps := by rw [← hPs]; simp
    clear hPs
    have c_is_whole : Cal l.prog w K mg base CX0 1 "is_whole" ["value", "least", "most"] spIsWhole := a_is_whole.cal X G (fun _ _ _ _ _ _ us hl => match us, hl with | [_, _, _], _ => rfl) fun f fd F => ok_is_whole F B.isi B.int B.bool
    have c_are_tops : Cal l.prog w K mg base CX0 3 "are_tops" ["value"] (spAreTops Ps) := t0.cal m0 tb0 (fun _ _ _ _ _ _ us hl => match us, hl with | [_], _ => rfl) fun f fd F => ok_are_tops F B M c_is_whole
    have c_is_look : Cal l.prog w K mg base CX0 2 "is_look" ["value", "many"] spIsLook := a_is_look.cal X G (fun _ _ _ _ _ _ us hl => match us, hl with | [_, _], _ => rfl) fun f fd F => ok_is_look F B c_is_whole
    have c_looks_of : Cal l.prog w K mg base CX0 1 "looks_of" ["web", "folk"] spLooksOf := a_looks_of.cal X G (fun _ _ _ _ _ _ us hl => match us, hl with | [_, _], _ => rfl) fun f fd F => ok_looks_of F
    have c_rows_of : Cal l.prog w K mg base CX0 1 "rows_of" ["tops"] spRowsOf := a_rows_of.cal X G (fun _ _ _ _ _ _ us hl => match us, hl with | [_], _ => rfl) fun f fd F => ok_rows_of F B
    have c_are_looks : Cal l.prog w K mg base CX0 4 "are_looks" ["value", "many"] (spAreLooks Ps) := t1.cal m1 tb1 (fun _ _ _ _ _ _ us hl => match us, hl with | [_, _], _ => rfl) fun f fd F => ok_are_looks F B M c_is_look
    have c_many_rows : Cal l.prog w K mg base CX0 2 "many_rows" ["web", "folk"] spManyRows := a_many_rows.cal X G (fun _ _ _ _ _ _ us hl => match us, hl with | [_, _], _ => rfl) fun f fd F => ok_many_rows F c_looks_of
    have c_place_seen : Cal l.prog w K mg base CX0 2 "place_seen" ["web", "state", "folk"] spPlaceSeen := a_place_seen.cal X G (fun _ _ _ _ _ _ us hl => match us, hl with | [_, _, _], _ => rfl) fun f fd F => ok_place_seen F c_looks_of
    have c_mood_told : Cal l.prog w K mg base CX0 3 "mood_told" ["web", "rules", "state", "folk"] spMoodTold := a_mood_told.cal X G (fun _ _ _ _ _ _ us hl => match us, hl with | [_, _, _, _], _ => rfl) fun f fd F => ok_mood_told F c_place_seen
    have c_ways_of : Cal l.prog w K mg base CX0 2 "ways_of" ["web", "folk"] spWaysOf := a_ways_of.cal X G (fun _ _ _ _ _ _ us hl => match us, hl with | [_, _], _ => rfl) fun f fd F => ok_ways_of F c_looks_of
    have c_goes_along : Cal l.prog w K mg base CX0 2 "goes_along" ["table", "step", "size", "sign"] (spGoesAlong Ps) := t2.cal m2 tb2 (fun _ _ _ _ _ _ us hl => match us, hl with | [_, _, _, _], _ => rfl) fun f fd F => ok_goes_along F B
    have c_is_table : Cal l.prog w K mg base CX0 4 "is_table" ["web", "folk", "value"] (spIsTable Ps) := t3.cal m3 tb3 (fun _ _ _ _ _ _ us hl => match us, hl with | [_, _, _], _ => rfl) fun f fd F => ok_is_table F B c_is_whole c_ways_of c_many_rows c_goes_along
    have c_state_told : Cal l.prog w K mg base CX0 4 "state_told" ["web", "rules", "state"] spStateTold := a_state_told.cal X G (fun _ _ _ _ _ _ us hl => match us, hl with | [_, _, _], _ => rfl) fun f fd F => ok_state_told F B c_mood_told
    have c_settled_states : Cal l.prog w K mg base CX0 5 "settled_states" ["web", "rules"] spSettledStates := a_settled_states.cal X G (fun _ _ _ _ _ _ us hl => match us, hl with | [_, _], _ => rfl) fun f fd F => ok_settled_states F B c_rows_of c_state_told
    have c_is_state : Cal l.prog w K mg base CX0 3 "is_state" ["web", "value"] (spIsState Ps) := t4.cal m4 tb4 (fun _ _ _ _ _ _ us hl => match us, hl with | [_, _], _ => rfl) fun f fd F => ok_is_state F B c_is_whole
    have c_check_state : Cal l.prog w K mg base CX0 4 "check_state" ["web", "state"] (spCheckState Ps) := a_check_state.cal X G (fun _ _ _ _ _ _ us hl => match us, hl with | [_, _], _ => rfl) fun f fd F => ok_check_state F c_is_state
    have c_wrong_part : Cal l.prog w K mg base CX0 5 "wrong_part" ["web"] (spWrongPart Ps) := a_wrong_part.cal X G (fun _ _ _ _ _ _ us hl => match us, hl with | [_], _ => rfl) fun f fd F => ok_wrong_part F B c_are_tops c_are_looks
    have c_check_web : Cal l.prog w K mg base CX0 6 "check_web" ["web"] (spCheckWeb Ps) := a_check_web.cal X G (fun _ _ _ _ _ _ us hl => match us, hl with | [_], _ => rfl) fun f fd F => ok_check_web F c_wrong_part
    have c_check_folk : Cal l.prog w K mg base CX0 2 "check_folk" ["web", "folk"] spCheckFolk := a_check_folk.cal X G (fun _ _ _ _ _ _ us hl => match us, hl with | [_, _], _ => rfl) fun f fd F => ok_check_folk F B c_is_whole
    have c_check_rules : Cal l.prog w K mg base (L2.CX l.prog w) 6 "check_rules" ["web", "rules"] (spCheckRules Ps C) := a_check_rules.cal X G (fun _ _ _ _ _ _ us hl => match us, hl with | [_, _], _ => rfl) fun f fd F => ok_check_rules F B TB c_is_table
    have c_check_standing : Cal l.prog w K mg base CX0 7 "check_standing" ["web", "rules", "state"] (spCheckStanding Ps) := a_check_standing.cal X G (fun _ _ _ _ _ _ us hl => match us, hl with | [_, _, _], _ => rfl) fun f fd F => ok_check_standing F c_check_web c_check_rules c_check_state
    have c_told : Cal l.prog w K mg base CX0 8 "told" ["web", "rules", "state", "folk"] (spTold Ps) := a_told.cal X G (fun _ _ _ _ _ _ us hl => match us, hl with | [_, _, _, _], _ => rfl) fun f fd F => ok_told F c_check_standing c_check_folk c_mood_told
    have c_is_settled : Cal l.prog w K mg base CX0 8 "is_settled" ["web", "rules", "state"] (spIsSettled Ps) := a_is_settled.cal X G (fun _ _ _ _ _ _ us hl => match us, hl with | [_, _, _], _ => rfl) fun f fd F => ok_is_settled F c_check_standing c_state_told
    have c_settled : Cal l.prog w K mg base (L2.CX l.prog w) 7 "settled" ["web", "rules"] (spSettled Ps C) := a_settled.cal X G (fun _ _ _ _ _ _ us hl => match us, hl with | [_, _], _ => rfl) fun f fd F => ok_settled F c_check_web c_check_rules c_settled_states
    have c_run : Cal l.prog w K mg base CX0 8 "run" ["web", "rules", "state", "ticks"] (spRun Ps) := a_run.cal X G (fun _ _ _ _ _ _ us hl => match us, hl with | [_, _, _, _], _ => rfl) fun f fd F => ok_run F B M c_check_standing c_is_whole c_state_told
    have c_settled_by : Cal l.prog w K mg base CX0 8 "settled_by" ["web", "rules", "state"] (spSettledBy Ps) := a_settled_by.cal X G (fun _ _ _ _ _ _ us hl => match us, hl with | [_, _, _], _ => rfl) fun f fd F => ok_settled_by F B c_check_standing c_state_told
    have c__law_taken : Cal l.prog w K mg base CX0 1 "_law_taken" ["row", "many"] (spTaken K) := a__law_taken.cal X G (fun _ _ _ _ _ _ us hl => match us, hl with | [_, _], _ => rfl) fun f fd F => ok_taken F B
    have c__law_moods : Cal l.prog w K mg base CX0 1 "_law_moods" ["tops"] spLawMoods := a__law_moods.cal X G (fun _ _ _ _ _ _ us hl => match us, hl with | [_], _ => rfl) fun f fd F => ok_law_moods F B
    have c__law_seen : Cal l.prog w K mg base CX0 1 "_law_seen" ["web", "folk"] spLawSeen := a__law_seen.cal X G (fun _ _ _ _ _ _ us hl => match us, hl with | [_, _], _ => rfl) fun f fd F => ok_law_seen F
    have c__law_pick : Cal l.prog w K mg base CX0 2 "_law_pick" ["row", "things"] (spLawPick K) := a__law_pick.cal X G (fun _ _ _ _ _ _ us hl => match us, hl with | [_, _], _ => rfl) fun f fd F => ok_law_pick F B c__law_taken
    have c__law_goes : Cal l.prog w K mg base CX0 1 "_law_goes" ["signs", "one", "other"] spLawGoes := a__law_goes.cal X G (fun _ _ _ _ _ _ us hl => match us, hl with | [_, _, _], _ => rfl) fun f fd F => ok_law_goes F B
    have c__law_state : Cal l.prog w K mg base CX0 2 "_law_state" ["row", "web"] (spLawState K) := a__law_state.cal X G (fun _ _ _ _ _ _ us hl => match us, hl with | [_, _], _ => rfl) fun f fd F => ok_law_state F B c__law_taken
    have c__law_table : Cal l.prog w K mg base CX0 3 "_law_table" ["row", "web", "folk"] (spLawTable K) := a__law_table.cal X G (fun _ _ _ _ _ _ us hl => match us, hl with | [_, _, _], _ => rfl) fun f fd F => ok_law_table F B c__law_taken c__law_seen c__law_moods c__law_pick c__law_goes
    have c__law_rules : Cal l.prog w K mg base CX0 4 "_law_rules" ["row", "web"] (spLawRules K) := a__law_rules.cal X G (fun _ _ _ _ _ _ us hl => match us, hl with | [_, _], _ => rfl) fun f fd F => ok_law_rules F B c__law_table
    have c__law_told : Cal l.prog w K mg base CX0 2 "_law_told" ["web", "rules", "state", "folk"] spLawTold := a__law_told.cal X G (fun _ _ _ _ _ _ us hl => match us, hl with | [_, _, _, _], _ => rfl) fun f fd F => ok_law_told F B c__law_seen c__law_moods
    have c__law_behind : Cal l.prog w K mg base CX0 3 "_law_behind" ["web", "rules", "state"] spLawBehind := a__law_behind.cal X G (fun _ _ _ _ _ _ us hl => match us, hl with | [_, _, _], _ => rfl) fun f fd F => ok_law_behind F B c__law_told
    have c__law_settled : Cal l.prog w K mg base CX0 4 "_law_settled" ["web", "rules"] spLawSettled := a__law_settled.cal X G (fun _ _ _ _ _ _ us hl => match us, hl with | [_, _], _ => rfl) fun f fd F => ok_law_settled F B c__law_moods c__law_behind
    have c__law_is_table : Cal l.prog w K mg base CX0 2 "_law_is_table" ["web", "folk", "table"] spLawIsTable := a__law_is_table.cal X G (fun _ _ _ _ _ _ us hl => match us, hl with | [_, _, _], _ => rfl) fun f fd F => ok_law_is_table F B c__law_seen c__law_moods c__law_goes
    have c__law_web : Cal l.prog w K mg base CX0 2 "_law_web" ["row", "folk", "most", "looks"] (spLawWeb K) := a__law_web.cal X G (fun _ _ _ _ _ _ us hl => match us, hl with | [_, _, _, _], _ => rfl) fun f fd F => ok_law_web F B c__law_taken
    have c_alike0 : Cal l.prog w K mg base CX0 1 "_law_alike" ["found", "due"] spAlike0 := a_alike.cal X G (fun _ _ _ _ _ _ us hl => match us, hl with | [_, _], _ => rfl) fun f fd F => ok_alike0 F B
    have c_alike1 : Cal l.prog w K mg base CX0 2 "_law_alike" ["found", "due"] (spAlikeS spAlike0) := a_alike.cal X G (fun _ _ _ _ _ _ us hl => match us, hl with | [_, _], _ => rfl) fun f fd F => ok_alikeS (fun vs H Q E h => by rcases h.1 with ⟨i, e⟩ | ⟨i, e⟩ <;> (rw [e]; rfl)) F B c_alike0
    have c_alike2 : Cal l.prog w K mg base CX0 3 "_law_alike" ["found", "due"] (spAlikeS (spAlikeS spAlike0)) := a_alike.cal X G (fun _ _ _ _ _ _ us hl => match us, hl with | [_, _], _ => rfl) fun f fd F => ok_alikeS (fun vs H Q E h => by obtain ⟨a, b, k, xs, ys, e, _⟩ := h; rw [e]; rfl) F B c_alike1
    exact ok_law F B TK c__law_taken c__law_web c__law_rules c__law_state c_alike0 c_alike1 c_alike2 c__law_behind c__law_settled c__law_is_table c_told c_settled c_is_settled c_run c_settled_by
theorem exm_self {K : PySem.W.Frag} {S : Addr} (h1 : PySem.W.subIn K (.ref S) (.type "BaseException") = some true) (h2 : PySem.W.isClsIn K S = true) (h3 : PySem.W.typeIn K (.ref S) = some (.type "type")) (h4 : PySem.W.subIn K (.ref S) (.ref S) = some true) : PySem.W.exmOne K (.ref S) (.ref S) = some true := by
  have h5 : (PySem.W.clsIn K S).isSome = true := h2
  have t1 : ((some true : Option Bool) == some true) = true := by decide
  have t2 : (some (Value.type "type") == some (Value.type "type")) = true := by rfl
  unfold PySem.W.exmOne
  rw [h1, if_pos t1]
  have t3 : ((PySem.W.clsIn K S).isSome && PySem.W.typeIn K (.ref S) == some (.type "type")) = true := by
    rw [h3, h5, t2] <;> rfl
  show (if ((PySem.W.clsIn K S).isSome && PySem.W.typeIn K (.ref S) == some (.type "type")) = true then PySem.W.subIn K (.ref S) (.ref S) else none) = some true
  rw [if_pos t3]
  exact h4
theorem num_mk {K : PySem.W.Frag} {x : Str} {n : Int} {t : Tok} (e : PySem.W.nsIn K mainGlobals x = some (some (.int n t))) : ∃ t, PySem.W.nsIn K mainGlobals x = some (some (.int n t)) := ⟨t, e⟩
theorem badTxt_mk {P : Program} {K : PySem.W.Frag} {h : Heap} {mg : Str → Option Value} {C fI cc : Addr} (X : K.In h) (G : h.Ns mainGlobals mg) {nm q : Str} {N : Addr} {bs bm : List Value} {sn : List Str} {sub : List Value} {ab : Bool} {col : Option Bool} {dd : Option Addr} {k0 k1 k2 k3 k5 : Option Value}
    {c1 : Value} {d1 : Option Addr} {sl1 : Array (Option Value)} {oc doc pm ct : Value} {od an : Option Addr} {cda : Addr} {osl : Array (Option Value)} {ccl : Value} {cdd : Option Addr} {vs : Array Value} {ccs : Array (Option Value)} {file : Str} {tf : Tok}
    (gC : PySem.W.nsIn K mainGlobals "BadRules" = some (some (.ref C))) (noS : PySem.W.nsIn K mainGlobals "super" = some none)
    (cls : K.lookup C = some (excClassObj nm q C N bs bm true sn sub ab col dd k0 k1 k2 k3 k5 "ValueError.__new__")) (rv : HandSPX.refsVE bm = true)
    (sa : PySem.W.findIn K (.ref C) "__setattr__" = some (some (.builtin "object.__setattr__")))
    (noN : PySem.W.findIn K (.ref C) "folk" = some none)
    (iC : PySem.W.findIn K (.ref C) "__init__" = some (some (.ref fI)))
    (tC : PySem.W.typeIn K (.ref fI) = some (.type "function"))
    (kC : PySem.W.keepIn K (.ref C) = true)
    (exC : PySem.W.subIn K (.ref C) (.type "BaseException") = some true)
    (veC : PySem.W.subIn K (.ref C) (.type "ValueError") = some true)
    (tyC : PySem.W.typeIn K (.ref C) = some (.type "type"))
    (inC : PySem.W.excInitIn K C [.type "ValueError", .type "Exception", .type "BaseException", .type "object"] "ValueError.__new__" = true)
    (mC : PySem.W.mroIn K C (.ref C) = some true)
    (lI : K.lookup fI = some ⟨oc, od, .func (PySem.W.ksFn "__init__" "BadRules.__init__" (defArgs Lk.mI) (defBody Lk.mI) (defScope Lk.mI) .none .none doc pm an (.ref cda) ct cc), osl⟩) (cI : PySem.W.codeIn K (.ref cda) "BadRules.__init__" = true)
    (cell : K.lookup cc = some ⟨c1, d1, .cell (some (.ref C)), sl1⟩)
    (sup : PySem.W.ks_superIn K C C "__init__" = some (some (.builtin "ValueError.__init__")))
    (st : PySem.W.nsIn K cStatics "thirdparty.any" = some none)
    (lc : K.lookup cda = some ⟨ccl, cdd, .fields vs, ccs⟩) (l2 : vs[2]? = some (.str file tf)) (lf : (P.main.file == file) = true)
    (pS : (List.lookup (PySem.Str.ofString "super") P.main.scope.names).isSome = false)
    (ga : PySem.W.findIn K (.ref C) "__getattribute__" = some (some (.builtin "BaseException.__getattribute__"))) (gg : PySem.W.findIn K (.ref C) "__getattr__" = some none) (hdC : PySem.W.hasDictIn K C = true) (isC : PySem.W.isClsIn K C = true) (sC : PySem.W.subIn K (.ref C) (.ref C) = some true) : ∃ C fI cc, Lk.BadTxt P K mg C fI cc ∧ Lk.BadK K mg C :=
  ⟨C, fI, cc, ⟨PySem.W.mg_of X G gC, PySem.W.mg_none_of X G noS, ⟨_, _, _, _, _, _, _, _, _, _, _, _, _, _, _, cls, rv⟩, sa, noN, iC, tC, kC, exC, veC, tyC, inC, mC, sup, st, ⟨_, _, _, cell⟩, ⟨_, _, _, _, _, _, _, _, lI, cI, _, _, _, _, _, _, lc, l2, lf⟩, pS⟩,
    ⟨PySem.W.mg_of X G gC, ⟨ga, gg, exC, hdC⟩, noN, Lk.exm_self exC isC tyC sC⟩⟩
end Lk

/-! ## HeadF -/
set_option Elab.async false
open PySem PySem.W PyProof.Rows in
set_option maxRecDepth 100000 in
set_option maxHeartbeats 0 in
theorem PySem.Challenge.cw_likespite_k02_whole_rules_holds : PySem.Challenge.rw_likespite_k02_whole_rules.Holds := by
  w_on; o_law; k_head; (case hw => w_witness2)
  k_fill
  refine Lk.walk_tabs (l := PySem.Challenge.rw_likespite_k02_whole_rules) (k := 9) (x := "script") (by decide +kernel) rfl ⟨rfl, by decide, by decide⟩ (fun w h Y => PySem.W.kIn_of Y) ?F
  case F =>
    intro w mg fa h X G hfa T
    refine' Lk.law_mk X G hfa T ?zNt ?zNm ?zBT (by decide +kernel) (by decide +kernel) (by decide +kernel) (by decide +kernel) (by decide +kernel) ?za_is_whole ?za_are_tops ?za_is_look ?za_looks_of ?za_rows_of ?za_are_looks ?za_many_rows ?za_place_seen ?za_mood_told ?za_ways_of ?za_goes_along ?za_is_table ?za_state_told ?za_settled_states ?za_is_state ?za_check_state ?za_wrong_part ?za_check_web ?za_check_folk ?za_check_rules ?za_check_standing ?za_told ?za_is_settled ?za_settled ?za_run ?za_settled_by ?za__law_taken ?za__law_moods ?za__law_seen ?za__law_pick ?za__law_goes ?za__law_state ?za__law_table ?za__law_rules ?za__law_told ?za__law_behind ?za__law_settled ?za__law_is_table ?za__law_web ?za_alike ?za_law
    (case zNt => rfl)
    case zNm =>
      refine' Lk.Names.mk ?zn0 ?zn1 ?zn2 ?zn3 ?zn4 ?zn5 ?zn6 ?zn7 ?zn8 ?zn9 ?zn10 ?zn11 ?zn12 ?zn13 ?zn14 (Lk.num_mk ?zm0) (Lk.num_mk ?zm1) (Lk.num_mk ?zm2) (Lk.num_mk ?zm3) (Lk.num_mk ?zm4)
      (case zn0 => k_is)
      (case zn1 => k_is)
      (case zn2 => k_is)
      (case zn3 => k_is)
      (case zn4 => k_is)
      (case zn5 => k_is)
      (case zn6 => k_is)
      (case zn7 => k_is)
      (case zn8 => k_is)
      (case zn9 => k_is)
      (case zn10 => k_is)
      (case zn11 => k_is)
      (case zn12 => k_is)
      (case zn13 => k_is)
      (case zn14 => k_is)
      (case zm0 => k_is)
      (case zm1 => k_is)
      (case zm2 => k_is)
      (case zm3 => k_is)
      (case zm4 => k_is)
    case zBT =>
      refine' Lk.badTxt_mk X G ?zgC ?znoS ?zcls ?zrv ?zsa ?znoN ?ziC ?ztC ?zkC ?zexC ?zveC ?ztyC ?zinC ?zmC ?zlI ?zcI ?zcell ?zsup ?zst ?zlc ?zl2 ?zlf ?zpS ?zga ?zgg ?zhdC ?zisC ?zsC
      (case zgC => first | k_is | kx_is | ks_is | rfl | decide +kernel)
      (case znoS => first | k_is | kx_is | ks_is | rfl | decide +kernel)
      (case zcls => first | k_is | kx_is | ks_is | rfl | decide +kernel)
      (case zrv => first | k_is | kx_is | ks_is | rfl | decide +kernel)
      (case zsa => first | k_is | kx_is | ks_is | rfl | decide +kernel)
      (case znoN => first | k_is | kx_is | ks_is | rfl | decide +kernel)
      (case ziC => first | k_is | kx_is | ks_is | rfl | decide +kernel)
      (case ztC => first | k_is | kx_is | ks_is | rfl | decide +kernel)
      (case zkC => first | k_is | kx_is | ks_is | rfl | decide +kernel)
      (case zexC => first | k_is | kx_is | ks_is | rfl | decide +kernel)
      (case zveC => first | k_is | kx_is | ks_is | rfl | decide +kernel)
      (case ztyC => first | k_is | kx_is | ks_is | rfl | decide +kernel)
      (case zinC => first | k_is | kx_is | ks_is | rfl | decide +kernel)
      (case zmC => first | k_is | kx_is | ks_is | rfl | decide +kernel)
      (case zlI => first | k_is | kx_is | ks_is | rfl | decide +kernel)
      (case zcI => first | k_is | kx_is | ks_is | rfl | decide +kernel)
      (case zcell => first | k_is | kx_is | ks_is | rfl | decide +kernel)
      (case zsup => first | k_is | kx_is | ks_is | rfl | decide +kernel)
      (case zst => first | k_is | kx_is | ks_is | rfl | decide +kernel)
      (case zlc => first | k_is | kx_is | ks_is | rfl | decide +kernel)
      (case zl2 => first | k_is | kx_is | ks_is | rfl | decide +kernel)
      (case zlf => first | k_is | kx_is | ks_is | rfl | decide +kernel)
      (case zpS => first | k_is | kx_is | ks_is | rfl | decide +kernel)
      (case zga => first | k_is | kx_is | ks_is | rfl | decide +kernel)
      (case zgg => first | k_is | kx_is | ks_is | rfl | decide +kernel)
      (case zhdC => first | k_is | kx_is | ks_is | rfl | decide +kernel)
      (case zisC => first | k_is | kx_is | ks_is | rfl | decide +kernel)
      (case zsC => first | k_is | kx_is | ks_is | rfl | decide +kernel)
    (case za_is_whole => refine' Lk.fnAt ?zn ?zl ?zc ?zk; (case zn => k_is); (case zl => k_is); (case zc => k_is); (case zk => k_is))
    (case za_are_tops => refine' Lk.fnAt ?zn ?zl ?zc ?zk; (case zn => k_is); (case zl => k_is); (case zc => k_is); (case zk => k_is))
    (case za_is_look => refine' Lk.fnAt ?zn ?zl ?zc ?zk; (case zn => k_is); (case zl => k_is); (case zc => k_is); (case zk => k_is))
    (case za_looks_of => refine' Lk.fnAt ?zn ?zl ?zc ?zk; (case zn => k_is); (case zl => k_is); (case zc => k_is); (case zk => k_is))
    (case za_rows_of => refine' Lk.fnAt ?zn ?zl ?zc ?zk; (case zn => k_is); (case zl => k_is); (case zc => k_is); (case zk => k_is))
    (case za_are_looks => refine' Lk.fnAt ?zn ?zl ?zc ?zk; (case zn => k_is); (case zl => k_is); (case zc => k_is); (case zk => k_is))
    (case za_many_rows => refine' Lk.fnAt ?zn ?zl ?zc ?zk; (case zn => k_is); (case zl => k_is); (case zc => k_is); (case zk => k_is))
    (case za_place_seen => refine' Lk.fnAt ?zn ?zl ?zc ?zk; (case zn => k_is); (case zl => k_is); (case zc => k_is); (case zk => k_is))
    (case za_mood_told => refine' Lk.fnAt ?zn ?zl ?zc ?zk; (case zn => k_is); (case zl => k_is); (case zc => k_is); (case zk => k_is))
    (case za_ways_of => refine' Lk.fnAt ?zn ?zl ?zc ?zk; (case zn => k_is); (case zl => k_is); (case zc => k_is); (case zk => k_is))
    (case za_goes_along => refine' Lk.fnAt ?zn ?zl ?zc ?zk; (case zn => k_is); (case zl => k_is); (case zc => k_is); (case zk => k_is))
    (case za_is_table => refine' Lk.fnAt ?zn ?zl ?zc ?zk; (case zn => k_is); (case zl => k_is); (case zc => k_is); (case zk => k_is))
    (case za_state_told => refine' Lk.fnAt ?zn ?zl ?zc ?zk; (case zn => k_is); (case zl => k_is); (case zc => k_is); (case zk => k_is))
    (case za_settled_states => refine' Lk.fnAt ?zn ?zl ?zc ?zk; (case zn => k_is); (case zl => k_is); (case zc => k_is); (case zk => k_is))
    (case za_is_state => refine' Lk.fnAt ?zn ?zl ?zc ?zk; (case zn => k_is); (case zl => k_is); (case zc => k_is); (case zk => k_is))
    (case za_check_state => refine' Lk.fnAt ?zn ?zl ?zc ?zk; (case zn => k_is); (case zl => k_is); (case zc => k_is); (case zk => k_is))
    (case za_wrong_part => refine' Lk.fnAt ?zn ?zl ?zc ?zk; (case zn => k_is); (case zl => k_is); (case zc => k_is); (case zk => k_is))
    (case za_check_web => refine' Lk.fnAt ?zn ?zl ?zc ?zk; (case zn => k_is); (case zl => k_is); (case zc => k_is); (case zk => k_is))
    (case za_check_folk => refine' Lk.fnAt ?zn ?zl ?zc ?zk; (case zn => k_is); (case zl => k_is); (case zc => k_is); (case zk => k_is))
    (case za_check_rules => refine' Lk.fnAt ?zn ?zl ?zc ?zk; (case zn => k_is); (case zl => k_is); (case zc => k_is); (case zk => k_is))
    (case za_check_standing => refine' Lk.fnAt ?zn ?zl ?zc ?zk; (case zn => k_is); (case zl => k_is); (case zc => k_is); (case zk => k_is))
    (case za_told => refine' Lk.fnAt ?zn ?zl ?zc ?zk; (case zn => k_is); (case zl => k_is); (case zc => k_is); (case zk => k_is))
    (case za_is_settled => refine' Lk.fnAt ?zn ?zl ?zc ?zk; (case zn => k_is); (case zl => k_is); (case zc => k_is); (case zk => k_is))
    (case za_settled => refine' Lk.fnAt ?zn ?zl ?zc ?zk; (case zn => k_is); (case zl => k_is); (case zc => k_is); (case zk => k_is))
    (case za_run => refine' Lk.fnAt ?zn ?zl ?zc ?zk; (case zn => k_is); (case zl => k_is); (case zc => k_is); (case zk => k_is))
    (case za_settled_by => refine' Lk.fnAt ?zn ?zl ?zc ?zk; (case zn => k_is); (case zl => k_is); (case zc => k_is); (case zk => k_is))
    (case za__law_taken => refine' Lk.fnAt ?zn ?zl ?zc ?zk; (case zn => k_is); (case zl => k_is); (case zc => k_is); (case zk => k_is))
    (case za__law_moods => refine' Lk.fnAt ?zn ?zl ?zc ?zk; (case zn => k_is); (case zl => k_is); (case zc => k_is); (case zk => k_is))
    (case za__law_seen => refine' Lk.fnAt ?zn ?zl ?zc ?zk; (case zn => k_is); (case zl => k_is); (case zc => k_is); (case zk => k_is))
    (case za__law_pick => refine' Lk.fnAt ?zn ?zl ?zc ?zk; (case zn => k_is); (case zl => k_is); (case zc => k_is); (case zk => k_is))
    (case za__law_goes => refine' Lk.fnAt ?zn ?zl ?zc ?zk; (case zn => k_is); (case zl => k_is); (case zc => k_is); (case zk => k_is))
    (case za__law_state => refine' Lk.fnAt ?zn ?zl ?zc ?zk; (case zn => k_is); (case zl => k_is); (case zc => k_is); (case zk => k_is))
    (case za__law_table => refine' Lk.fnAt ?zn ?zl ?zc ?zk; (case zn => k_is); (case zl => k_is); (case zc => k_is); (case zk => k_is))
    (case za__law_rules => refine' Lk.fnAt ?zn ?zl ?zc ?zk; (case zn => k_is); (case zl => k_is); (case zc => k_is); (case zk => k_is))
    (case za__law_told => refine' Lk.fnAt ?zn ?zl ?zc ?zk; (case zn => k_is); (case zl => k_is); (case zc => k_is); (case zk => k_is))
    (case za__law_behind => refine' Lk.fnAt ?zn ?zl ?zc ?zk; (case zn => k_is); (case zl => k_is); (case zc => k_is); (case zk => k_is))
    (case za__law_settled => refine' Lk.fnAt ?zn ?zl ?zc ?zk; (case zn => k_is); (case zl => k_is); (case zc => k_is); (case zk => k_is))
    (case za__law_is_table => refine' Lk.fnAt ?zn ?zl ?zc ?zk; (case zn => k_is); (case zl => k_is); (case zc => k_is); (case zk => k_is))
    (case za__law_web => refine' Lk.fnAt ?zn ?zl ?zc ?zk; (case zn => k_is); (case zl => k_is); (case zc => k_is); (case zk => k_is))
    (case za_alike => refine' Lk.fnAt ?zn ?zl ?zc ?zk; (case zn => k_is); (case zl => k_is); (case zc => k_is); (case zk => k_is))
    (case za_law => refine' Lk.fnAt ?zn ?zl ?zc ?zk; (case zn => k_is); (case zl => k_is); (case zc => k_is); (case zk => k_is))

