import PyProof.Rows.All
import Wide.All
import OpenK.AllK
import Wide.FinOn
import HandS.Base
import HandS.Call
import HandS.List
import HandS.Comp
import HandS.AnyAll
import HandS.GenList
import PyProof.ConsumeS
import HandS.Walk
import HandS.ForMost
import HandS.IsInst
import HandS.Flow
import HandS.Style
import HandS.Zip
import HandS.Conv
import HandS.Deep
import HandS.TupAny
import HandS.DeepEq
import HandS.Wide
import HandS.Small
import HandS.Nested
import PySem.Challenge.RW_likespite_k66_whole_exchanges
import HandS.TupSets
import HandS.SetFor
import KE.GoesEnum
import KE.GoesNew
import KE.GoesZip
import KE.GoesMore
import HandS.ExcOwn
import HandS.Lambda
import HandS.ExcIs
import HandS.WordsExc
import HandS.ForExc
import HandS.EndTab
import KE.RegKSuper
import KE.KExcLine
import HandS.DictComp
import KE.SortData
import KE.KSuperObj
import HandS.Strs
import HandS.ExcField
import PyProof.P3In
import KE.DataMinKey
import HandS.SortKw
import HandS.FltList
import PyProof.Rows.Range3
import PyProof.CallType
import PyProof.ListNew
import KE.KItemsList
import HandS.Exc
import KE.SortKeyHeap
import HandS.Sort
import KE.DataMinMax
import HandS.DictTup
/-! ## GenAll -/
set_option Elab.async false
set_option linter.all false
set_option maxRecDepth 100000
set_option maxHeartbeats 2000000
/-! all, any of a generator expression of any form: the walked thing, the target, the tests and the element by the layer's own judgements in the generator's frame. -/
namespace Gx
open PySem PySem.Spec PyProof.Rows L2 GxR GenW

/-- the generator's context, built over the state s4 -/
abbrev Cxg (X : Cx) (A : Around) (s : Shared) (H : Hp) (cenv : Env) (fp : List Addr) : Cx :=
  { X with A := A, s_0 := s, H_0 := H, env := cenv, outer := X.stack, stack := cenv :: X.stack, ex := fp, fn := fun _ => false, pn := [], xe := fun _ _ => False }
/-- its environment -/
abbrev genE (X : Cx) (scope : Scope) (C : Addr) (code : Value) : Env := genEnv scope (cloFrom X.env.cells scope.names []) C code builtinsNs X.env
/-- where the generator's code runs -/
abbrev genA (A : Around) (ge : Expr) (it : Addr) (cenv : Env) : Around := A.in1.in1.over (.compLoop ge 0 (.ref it) .none cenv) []

section
variable {X : Cx} {pins : List (Addr × Obj)} {σ : L2.St} {H : Hp} {s : Shared}
theorem gen_start {A : Around} {scope : Scope} {own : List (Str × Nat)} {fp : List Addr} {code it : Value} {go : Obj} {h' : Heap} {gs' : Array GenState} {tk : Nat} (I : Inv X pins σ H s) (ok : BlkOk X.N X.env.scope scope own) (hcell : ∀ y ∈ scope.names, y.2 ≠ .cell)
    (hN : X.N.Nodup) (hfp : ∀ b ∈ fp, FpOk X pins H b ∧ b < s.heap.objs.size) (hA : A.frames = some (genE X scope s.heap.objs.size code :: X.stack)) (hAh : X.calm = true → A.handled = none)
    (hn : h'.Ns s.heap.objs.size (fun y => if y = ".0" then some it else none)) (hs : Heap.SameBut s.heap.objs.size (s.heap.push { cls := .type "frame", data := .dict #[] }) h') (hg : AllBare gs') (hgo : ∀ v, go.data ≠ .cell v) (hgo2 : (h'.push go).get? h'.objs.size = some go) :
    Inv (Cxg X A s H (genE X scope s.heap.objs.size code) fp) [(h'.objs.size, go)] (wipe σ (own.map (·.2))) H { s with heap := h'.push go, gens := gs', toks := tk } := by
  have hfree : ∀ y ∈ scope.names, y.2 = .free → ∃ c, X.env.cells.lookup y.1 = some c := fun y hy e => by
    rcases ok.free y hy e with k | k
    · exact I.ok.has _ (.inl k)
    · exact I.ok.has _ (.inr k)
  have kp0 : ∀ b o, s.heap.get? b = some o → h'.get? b = some o := fun b o e => hs.extBut b o (Nat.ne_of_lt (Heap.lt_size e)) (Heap.get?_push_of_some _ e)
  have kp : ∀ b o, s.heap.get? b = some o → (h'.push go).get? b = some o := fun b o e => Heap.get?_push_of_some _ (kp0 b o e)
  have hsz : h'.objs.size = s.heap.objs.size + 1 := by rw [hs.1, Heap.size_push]
  generalize hcenv : genE X scope s.heap.objs.size code = cenv at hA ⊢
  have hL : cenv.locals = s.heap.objs.size := by rw [← hcenv]; rfl
  have hF : cenv.frame = some cenv.locals := by rw [← hcenv]; rfl
  have hcl : cenv.cells = cloFrom X.env.cells scope.names [] := by rw [← hcenv]; rfl
  have hsc : cenv.scope = scope := by rw [← hcenv]; rfl
  have cm : ∀ {y c}, (y, c) ∈ cloFrom X.env.cells scope.names [] → X.env.cells.lookup y = some c ∧ c < s.heap.objs.size := fun {y c} hm => by
    rcases cloFrom_mem hm with hm | ⟨h1, rfl⟩
    · cases hm
    · obtain ⟨c, hc⟩ := hfree _ h1 rfl
      rw [hc]
      obtain ⟨w, z⟩ := I.cell _ _ hc
      exact ⟨rfl, z.lt⟩
  have mem : ∀ {y c}, cenv.cells.lookup y = some c → X.env.cells.lookup y = some c ∧ c < s.heap.objs.size := fun {y c} e => by
    rw [hcl] at e
    exact cm (PySem.mem_of_lookup e)
  have look : ∀ {y}, scope.names.lookup y = some .free → ∃ c, cenv.cells.lookup y = some c ∧ X.env.cells.lookup y = some c := fun {y} hl => by
    have hy : (y, NameKind.free) ∈ scope.names := PySem.mem_of_lookup hl
    obtain ⟨c', e'⟩ := mem_lookup (cloFrom_has (cells := X.env.cells) (acc := []) hy)
    rw [← hcl] at e'
    exact ⟨c', e', (mem e').1⟩
  have okB : (Cxg X A s H cenv fp).Ok := by
    refine ⟨I.ok.mod, by show cenv.scope.kind = _; rw [hsc]; exact ok.kind, by show cenv.globals = _; rw [← hcenv]; exact I.ok.glob, by show cenv.builtins = _; rw [← hcenv]; rfl, by show s.heap.objs.size ≤ cenv.locals; rw [hL]; exact Nat.le_refl _,
      fun y z c e1 e2 => I.ok.inj y z c (mem e1).1 (mem e2).1, fun y hy => ?_, (fun y c z e => by cases z), hAh, hA, .inr ⟨rfl, hF⟩, fun b hb => ⟨?_, fun y c e z => ?_⟩, I.bs, Nat.le_trans I.ok.bsz I.sz, fun b o e hb => ?_, fun b hb z => ?_, I.stack, I.stkFree⟩
    · show ∃ c, cenv.cells.lookup y = some c
      have key : ∀ k, cenv.kindOf y = some k → (k = .cell ∨ k = .free) → ∃ c, cenv.cells.lookup y = some c := fun k hk hk' => by
        unfold Env.kindOf at hk
        rw [hsc] at hk
        rcases hk' with rfl | rfl
        · exact absurd rfl (hcell _ (PySem.mem_of_lookup hk))
        · obtain ⟨c, h1, _⟩ := look hk
          exact ⟨c, h1⟩
      rcases hy with hy | hy
      · exact key _ hy (.inl rfl)
      · exact key _ hy (.inr rfl)
    · show b ≠ cenv.locals
      rw [hL]; exact Nat.ne_of_lt (hfp b hb).2
    · exact (hfp b hb).1.2.2.2.2.1 y c (mem e).1 z
    · rcases (hfp b hb).1.2.2.2.1 with z | z
      · exact I.ok.noex b o e z
      · exact absurd (Nat.lt_of_lt_of_le (Heap.lt_size e) (Nat.le_trans I.ok.bsz z)) (Nat.lt_irrefl _)
    · rcases List.mem_cons.mp (I.stkSub b z) with z | z
      · exact (hfp b hb).1.2.1 z
      · exact (hfp b hb).1.2.2.1 z
  refine ⟨okB, rfl, hg, Un.kept kp, ⟨_, (by show Heap.Ns _ cenv.locals _; rw [hL]; exact hn.push _), fun i y av e1 e2 e3 => ?_⟩, fun y c e => ?_, ?_, fun y c e => ?_, fun p hp => ?_, I.hok.kept kp, by rw [wipe_length]; exact I.len⟩
  · obtain ⟨e2, hne⟩ := wipe_some e2
    have hfr : scope.names.lookup y = some .free := by
      have key : ∀ k, cenv.scope.names.lookup y = some k → k = .local ∨ k = .cell ∨ k = .free → scope.names.lookup y = some .free := fun k hk hk' => by
        rw [hsc] at hk
        have no : ¬ (k = .local ∨ k = .cell) := fun hh => by
          rcases ok.own _ (PySem.mem_of_lookup hk) hh with e' | e'
          · obtain ⟨p, hp, hpy⟩ := List.mem_map.mp e'
            have e3 := ok.ix p hp
            have : p.1 = y := hpy
            rw [this] at e3
            exact hne (List.mem_map.mpr ⟨p, hp, nodup_ix hN e3 e1⟩)
          · exact e' (List.mem_of_getElem? e1)
        rcases hk' with rfl | rfl | rfl
        · exact absurd (.inl rfl) no
        · exact absurd (.inr rfl) no
        · exact hk
      have e3 : Vis cenv.scope y := e3
      rcases e3 with e3 | e3 | e3
      · exact key _ e3 (.inl rfl)
      · exact key _ e3 (.inr (.inl rfl))
      · exact key _ e3 (.inr (.inr rfl))
    obtain ⟨m, hn, hl⟩ := I.loc
    have hvis : Vis X.env.scope y := (ok.free _ (PySem.mem_of_lookup hfr) rfl).elim (fun k => .inr (.inl k)) (fun k => .inr (.inr k))
    obtain ⟨w, r, q⟩ := hl i y av e1 e2 hvis
    refine ⟨w, r, .inr ⟨.inr (by show cenv.scope.names.lookup y = _; rw [hsc]; exact hfr), ?_⟩⟩
    obtain ⟨c, h1, h2⟩ := look hfr
    rcases q with ⟨k, _⟩ | ⟨_, c', e', z⟩
    · have k : X.env.scope.names.lookup y = some .local := k
      rcases ok.free _ (PySem.mem_of_lookup hfr) rfl with k' | k' <;> rw [show X.env.scope.names.lookup y = _ from k'] at k <;> cases k
    · rw [h2] at e'; cases e'
      exact ⟨c, h1, z.keeps kp⟩
  · obtain ⟨w, z⟩ := I.cell y c (mem e).1
    exact ⟨w, z.keeps kp⟩
  · show H cenv.locals = none
    rw [hL]; exact I.hok.fresh (Nat.le_refl _)
  · exact I.freeC y c (mem e).1
  · have hp' : p = (h'.objs.size, go) := by
      rcases List.mem_append.mp (show p ∈ ([] : List (Addr × Obj)) ++ [(h'.objs.size, go)] from hp) with z | z
      · cases z
      · exact List.mem_singleton.mp z
    subst hp'
    have big : s.heap.objs.size ≤ h'.objs.size := by omega
    refine ⟨hgo2, I.hok.fresh big, ?_, fun z => ?_, hgo⟩
    · show h'.objs.size ≠ cenv.locals
      rw [hL, hsz]; exact Nat.succ_ne_self _
    · rcases List.mem_cons.mp (I.stkSub _ z) with z | z
      · exact (Nat.ne_of_gt (Nat.lt_of_lt_of_le I.lt big)) z
      · exact I.nofs big z
end

/-- while the generator sleeps -/
structure Asleep (s s' : Shared) : Prop where
  os : s'.os = s.os
  bare : AllBare s'.gens
  keep : ∀ b o, s.heap.get? b = some o → s'.heap.get? b = some o
theorem Inv.slept {X : Cx} {pins : List (Addr × Obj)} {σ : L2.St} {H : Hp} {s s' : Shared} (I : Inv X pins σ H s) (z : Asleep s s') : Inv X pins σ H s' :=
  I.call' (ch := []) z.os (Un.kept z.keep) (I.hok.kept z.keep) z.bare fun b hb => by simp at hb

/-- what a generator is: its context, its iterator, its turns -/
structure GD where
  X : Cx
  a : Addr
  g : Nat
  go : Obj
  fp : List Addr
  it : Addr
  A : Around
  σ : L2.St
  tn : Nat → Heap → Prop
  W : Nat → Nat → Hp → Prop
  Yd : Nat → Nat → V → Hp → Prop
  Qs : Hp → Prop
abbrev GD.pins (D : GD) : List (Addr × Obj) := [(D.a, D.go)]
/-- at rest ahead of turn i -/
structure GD.at (D : GD) (i : Nat) (H : Hp) (s : Shared) : Prop where
  inv : Inv D.X D.pins D.σ H s
  st : D.tn i s.heap
  fpn : ∀ b ∈ D.fp, H b = none
def GD.R (D : GD) : Nat → Shared → Shared → Prop := fun _ _ s => ∃ H, Inv D.X D.pins D.σ H s ∧ (∀ b ∈ D.fp, H b = none) ∧ D.Qs H
def GD.Y (D : GD) : Protocol := fun n _ v s kap =>
  ∃ i m y H, m ≤ n + 1 ∧ D.at (i + 1) H s ∧ RelV y v ∧ D.Yd i m y H ∧ ∀ s'', Asleep s s'' → ∀ m', m' < m → D.W (i + 1) m' H → kap (.send .none) s''
abbrev GD.end (D : GD) : GenEnd := fun n s₀ r s₁ => r = .ok .next ∧ D.R n s₀ s₁
theorem GD.at.slept {D : GD} {i : Nat} {H : Hp} {s s' : Shared} (h : D.at i H s) (hT : ∀ i h h', D.tn i h → (∀ b ∈ D.fp, ∀ o, h.get? b = some o → h'.get? b = some o) → D.tn i h') (z : Asleep s s') : D.at i H s' :=
  ⟨Inv.slept h.inv z, hT _ _ _ h.st fun b _ o e => z.keep b o e, h.fpn⟩
/-- the turns' wish -/
structure GD.Ok (D : GD) (elt tg iter : Expr) (ifs : List Expr) (scope : Scope) (gpos : Pos) (J : It) (g : TG) (tt : TT) (te : TE) (vs : List Nat) : Prop where
  over : D.A.over (.compLoop (.GeneratorExp elt [⟨tg, iter, ifs, 0⟩] scope gpos) 0 (.ref D.it) .none D.X.env) [] = D.X.A
  overS : D.A.over (.compStart (.GeneratorExp elt [⟨tg, iter, ifs, 0⟩] scope gpos) 0 (.ref D.it) .none D.X.env) [] = D.X.A
  xe : D.X.xe = fun _ _ => False
  calm : D.X.calm = true
  co : D.X.env.scope.isCoroutine = false
  ex : D.X.ex = D.fp
  pn : D.X.pn = []
  apin : ∀ b ∈ D.fp, b ≠ D.a
  turn : Turn D.X.prog D.X.w D.X.K tg J D.fp D.it D.tn
  pg : PG D.X tg g
  pt : PTs D.X ifs tt
  pe : PE D.X elt te
  wiped : wipe D.σ vs = D.σ
  step : ∀ i m H, D.W i m H → (J.stop i H ∧ D.Qs H) ∨ (J.go i H ∧ 0 < m ∧ ∃ (Ny : V → Hp → Prop) (Nn : Hp → Prop), (∀ y H', Ny y H' → D.Yd i m y H') ∧ (∀ H', Nn H' → ∃ m', m' < m ∧ D.W (i + 1) m' H') ∧ ∀ x H', J.yld i H x H' → g x D.σ H' fun σ2 H2 => wipe σ2 vs = D.σ ∧ tt σ2 H2 fun b H3 =>
    if b = true then te σ2 H3 Ny else Nn H3)
section
variable {D : GD} {elt tg iter : Expr} {ifs : List Expr} {scope : Scope} {gpos : Pos} {J : It} {g : TG} {tt : TT} {te : TE} {vs : List Nat}
theorem GD.Ok.fpok (o : D.Ok elt tg iter ifs scope gpos J g tt te vs) {σ' : L2.St} {H' : Hp} {s' : Shared} (I : Inv D.X D.pins σ' H' s') (hn : ∀ b ∈ D.fp, H' b = none) : ∀ b ∈ D.fp, FpOk D.X D.pins H' b := fun b hb =>
  ⟨hn b hb, (I.ok.exf b (by rw [o.ex]; exact hb)).1, I.ok.exfs b (by rw [o.ex]; exact hb), .inl (by rw [o.ex]; exact hb), fun x c e => (I.ok.exf b (by rw [o.ex]; exact hb)).2 x c e, fun p hp => by
    rw [o.pn] at hp
    have e : p = (D.a, D.go) := List.mem_singleton.mp hp
    rw [e]
    exact (o.apin b hb).symm⟩
theorem seg_turns (o : D.Ok elt tg iter ifs scope gpos J g tt te vs) : ∀ (m n i : Nat) (s₀ s : Shared) (H : Hp), m ≤ n → D.W i m H → D.at i H s →
    Seg (model D.X.prog D.X.w) D.A D.end D.Y n s₀ (.compLoop (.GeneratorExp elt [⟨tg, iter, ifs, 0⟩] scope gpos) 0 (.ref D.it) .none D.X.env) ((model D.X.prog D.X.w).den (.compLoop (.GeneratorExp elt [⟨tg, iter, ifs, 0⟩] scope gpos) 0 (.ref D.it) .none D.X.env)) [] s := by
  intro m
  induction m using Nat.strongRecOn with
  | ind m ih =>
    intro n i s₀ s H hmn w hat
    show Seg _ D.A _ _ _ s₀ _ ((compTurn (.GeneratorExp elt [⟨tg, iter, ifs, 0⟩] scope gpos) 0 (.ref D.it) .none D.X.env).onRaise (leaving D.X.env)) [] s
    rw [compTurn_gen, Sem.onRaise_eq_wrap]
    refine seg_bind_wrap (wpAny_standAt ?_)
    refine seg_bind_wrap ?_
    rw [o.over]
    rcases o.step i m H w with ⟨stop, qs⟩ | ⟨go, hm0, Ny, Nn, hNy, hNn, step⟩
    · refine thnF (o.turn.done D.X rfl rfl rfl o.calm i D.pins s D.σ H (fun _ _ => False) hat.inv (o.fpok hat.inv hat.fpn) hat.st stop) fun r s1 ⟨hr, I1⟩ => ?_
      subst hr
      exact seg_end (.ok .next) ⟨rfl, H, I1, hat.fpn, qs⟩
    · refine thnF (o.turn.item D.X rfl rfl rfl o.calm i D.pins s D.σ H (fun _ _ => False) hat.inv (o.fpok hat.inv hat.fpn) hat.st go) fun r s1 ⟨u, hr, h1⟩ => ?_
      subst hr
      refine seg_bind_wrap ?_
      rw [o.over]
      refine thnF h1 fun _ s2 ⟨x, H2, I2, r2, y2, st2, n2⟩ => ?_
      have I2' := I2.pinned (o.fpok I2 n2) (o.turn.obj _ _ st2)
      have noX : ∀ {α : Type} {t : Sem α} {Q : α → Shared → Prop} {s'} {E : Value → Shared → Prop}, wpAny (model D.X.prog D.X.w) D.X.A t Q D.X.xe s' → wpAny (model D.X.prog D.X.w) D.X.A t Q E s' := fun {α t Q s' E} h =>
        wpAny_mono h (fun _ _ z => z) fun _ _ z => by rw [o.xe] at z; exact z.elim
      refine seg_bind_wrap ?_
      rw [o.over]
      refine thn (noX (o.pg.run _ s2 _ H2 x u _ I2' r2 (step x H2 y2))) fun _ s3 ⟨σ3, H3, I3, hw3, q3⟩ => ?_
      refine seg_bind_wrap ?_
      rw [o.over]
      refine thn (noX (o.pt.run _ s3 σ3 H3 _ I3 q3)) fun b s4 ⟨H4, I4, q4⟩ => ?_
      have fin : ∀ {s' : Shared} {H' : Hp}, Inv D.X (D.pins ++ pinsAt D.fp s2.heap) σ3 H' s' → D.at (i + 1) H' s' := fun {s' H'} I' => by
        have pin' : ∀ b ∈ D.fp, ∀ ob, s2.heap.get? b = some ob → s'.heap.get? b = some ob ∧ H' b = none := fun b hb ob e =>
          let z := I'.pin (b, ob) (List.mem_append_right _ (List.mem_append_right _ (mem_pinsAt hb e)))
          ⟨z.1, z.2.1⟩
        have hl : D.σ.length = σ3.length := by rw [← hw3, wipe_length]
        refine ⟨(I'.unpinned (pins := D.pins)).weak hl (fun j v e => ?_), o.turn.keep _ _ _ st2 fun b hb ob e => (pin' b hb ob e).1, fun b hb => ?_⟩
        · rw [← hw3] at e
          exact (wipe_some e).1
        · obtain ⟨ob, e, _⟩ := o.turn.obj _ _ st2 b hb
          exact (pin' b hb ob e).2
      cases b with
      | false =>
        simp only [Bool.false_eq_true, if_false] at q4 ⊢
        obtain ⟨m', hm, w'⟩ := hNn _ q4
        have hz := ih m' hm n (i + 1) s₀ s4 H4 (by omega) w' (fin I4)
        exact seg_again rfl hz
      | true =>
        simp only [if_true] at q4 ⊢
        have hy : ∀ v, yieldOut D.X.env v = yieldValue v := fun v => by simp only [yieldOut, o.co, Bool.false_eq_true, if_false]
        simp only [hy]
        rw [Sem.bind_eq_wrap', Sem.bind_eq_wrap', Sem.wrap_wrap, Sem.wrap_wrap]
        refine seg_wrap ?_
        rw [o.over]
        refine thn (noX (o.pe.run _ s4 σ3 H4 _ I4 q4)) fun v s5 ⟨yv, H5, I5, r5, yd⟩ => ?_
        obtain ⟨n, rfl⟩ : ∃ k, n = k + 1 := ⟨n - 1, by omega⟩
        have hfin := fin I5
        refine seg_at (seg_yield rfl rfl rfl ⟨i, m, yv, H5, hmn, hfin, r5, hNy _ _ yd, fun s'' hal m' hm' w' => ?_⟩)
        have hz := ih m' hm' n (i + 1) s'' s'' H5 (by omega) w' (hfin.slept o.turn.keep hal)
        exact seg_again rfl hz
theorem seg_first (o : D.Ok elt tg iter ifs scope gpos J g tt te vs) {m n i : Nat} {s₀ s : Shared} {H : Hp} (hmn : m ≤ n) (w : D.W i m H) (hat : D.at i H s) :
    Seg (model D.X.prog D.X.w) D.A D.end D.Y n s₀ (.compStart (.GeneratorExp elt [⟨tg, iter, ifs, 0⟩] scope gpos) 0 (.ref D.it) .none D.X.env) ((model D.X.prog D.X.w).den (.compStart (.GeneratorExp elt [⟨tg, iter, ifs, 0⟩] scope gpos) 0 (.ref D.it) .none D.X.env)) [] s := by
  have loop := seg_turns o m n i s₀ s H hmn w hat
  show Seg _ D.A _ _ _ s₀ _ ((compStart (.GeneratorExp elt [⟨tg, iter, ifs, 0⟩] scope gpos) 0 (.ref D.it) .none D.X.env).onRaise (leaving D.X.env)) [] s
  have hov := o.overS
  unfold compStart
  rw [Sem.onRaise_eq_wrap]
  show Seg _ D.A _ _ _ s₀ _ ((ask >>= _).wrap _ _ _ _) [] s
  refine seg_bind_wrap (wpAny_askSetting ?_)
  have self : ∀ {Q : Value → Shared → Prop} {E : Value → Shared → Prop}, Q (.ref D.it) s → wpAny (model D.X.prog D.X.w) D.X.A (pyIter (.ref D.it)) Q E s := fun hq => o.turn.self D.X.A i s _ _ hat.st hq
  split
  · exact seg_again rfl loop
  · first
      | exact seg_bind_wrap (wpAny_rule (seg_bind_wrap (wpAny_standAt (seg_bind_wrap (by rw [hov]; exact self (seg_again rfl loop))))))
      | (refine seg_bind_wrap (wpAny_rule ?_); show Seg _ D.A _ _ _ s₀ _ ((standAt iter.pos >>= _).wrap _ _ _ _) [] s; exact seg_bind_wrap (wpAny_standAt (seg_bind_wrap (by rw [hov]; exact self (seg_again rfl loop)))))
/-- ready for a next: at most n items more -/
structure GD.Ready (D : GD) (n i m : Nat) (H : Hp) (s : Shared) : Prop where
  at_ : D.at i H s
  le : m ≤ n
  gs : ∃ gs, s.gens[D.g]? = some gs ∧ ∀ s'', Asleep s s'' → gs.Goes (model D.X.prog D.X.w) D.A D.end D.Y n (.send .none) s''
theorem gen_ready (o : D.Ok elt tg iter ifs scope gpos J g tt te vs) {m n i : Nat} {s : Shared} {H : Hp} (hmn : m ≤ n) (w : D.W i m H) (hat : D.at i H s) (hgs : s.gens[D.g]? = some (.fresh (.compStart (.GeneratorExp elt [⟨tg, iter, ifs, 0⟩] scope gpos) 0 (.ref D.it) .none D.X.env))) : D.Ready n i m H s :=
  ⟨hat, hmn, _, hgs, fun s'' z => ⟨rfl, seg_first o hmn w (hat.slept o.turn.keep z)⟩⟩
theorem allBare_set {s : Shared} {g : Nat} {x : GenState} (h : AllBare s.gens) (hx : x.bare = true) : AllBare (s.setGen g x).gens := allBare_setGen h hx
theorem gen_next (o : D.Ok elt tg iter ifs scope gpos J g tt te vs) {A : Around} (hA : A.in1 = D.A) {n i m : Nat} {s : Shared} {H : Hp} {Q : Option Value → Shared → Prop} {E : Value → Shared → Prop} (hd : A.depth < recursionLimit) (hh : A.handled = none)
    (hgen : ∀ h : Heap, h.get? D.a = some D.go → h.IsGen D.a D.g) (r : D.Ready n i m H s)
    (hS : ∀ s' H', Inv D.X D.pins D.σ H' s' → (∀ b ∈ D.fp, H' b = none) → D.Qs H' → Q none s')
    (hI : ∀ v y i' m' H' s', RelV y v → D.at (i' + 1) H' s' → D.Yd i' m' y H' → (∀ m'', m'' < m' → D.W (i' + 1) m'' H' → 0 < n ∧ D.Ready (n - 1) (i' + 1) m'' H' s') → Q (some v) s') :
    wpAny (model D.X.prog D.X.w) A (pyNext (.ref D.a)) Q E s := by
  obtain ⟨hat, hmn, gs, hgs, hgo⟩ := r
  have hgl : D.g < s.gens.size := (Array.getElem?_eq_some_iff.mp hgs).1
  have pinG : ∀ {σ' H' s'}, Inv D.X D.pins σ' H' s' → s'.heap.get? D.a = some D.go := fun {σ' H' s'} I => (I.pin (D.a, D.go) (List.mem_append_right _ (List.mem_singleton.mpr rfl))).1
  refine wpAny_gsz (n := D.g + 1) hgl (wpAny_pyNext_genexpQ (P := D.R) hh hat.inv.nolimit hd (hgen _ (pinG hat.inv)) hgs (by rw [hA]; exact hgo _ ⟨rfl, allBare_set hat.inv.bare rfl, fun _ _ e => e⟩) (fun v s₁ gs' hb hv => ?_) (fun s₁ hp h' hk => ?_))
  · intro hsz
    obtain ⟨i', m', y, H', hm', hat', ry, yd, kap⟩ := hv
    have hsz1 : D.g < s₁.gens.size := by
      have q : (s₁.setGen D.g gs').gens.size = s₁.gens.size := setGen_size _ _ _
      have hsz' : D.g + 1 ≤ (s₁.setGen D.g gs').gens.size := hsz
      omega
    have z1 : Asleep s₁ (s₁.setGen D.g gs') := ⟨rfl, allBare_set hat'.inv.bare hb, fun _ _ e => e⟩
    refine hI v y i' m' H' _ ry (hat'.slept o.turn.keep z1) yd fun m'' hm'' w'' => ?_
    cases n with
    | zero => exact (kap _ z1 m'' hm'' w'').elim
    | succ n =>
      refine ⟨Nat.succ_pos _, hat'.slept o.turn.keep z1, by simp only [Nat.add_sub_cancel] at hm' ⊢; omega, gs', setGen_at hsz1, fun s'' z => ?_⟩
      have z2 : Asleep s₁ s'' := ⟨z.os, z.bare, fun b ob e => z.keep b ob e⟩
      have := kap s'' z2 m'' hm'' w''
      rw [hA] at this
      exact this
  · intro _
    obtain ⟨H', I', fn', q'⟩ := hp
    exact hS _ H' (Inv.slept I' ⟨rfl, allBare_set (s := s₁) I'.bare rfl, hk⟩) fn' q'
end
end Gx

/-! ## GenAll2 -/
set_option Elab.async false
set_option linter.all false
set_option maxRecDepth 100000
set_option maxHeartbeats 2000000
namespace Gx
open PySem PySem.Spec PyProof.Rows L2 GxR GenW

theorem wipe_in {σ : L2.St} {i : Nat} : ∀ {vs : List Nat}, i ∈ vs → (wipe σ vs)[i]? = if i < σ.length then some none else none
  | v :: vs, h => by
    unfold wipe
    by_cases hv : v = i
    · subst hv
      by_cases hl : v < σ.length
      · rw [List.getElem?_set_self (by rw [wipe_length]; exact hl), if_pos hl]
      · rw [List.getElem?_eq_none (by rw [List.length_set, wipe_length]; omega), if_neg hl]
    · rw [List.getElem?_set_ne hv]
      exact wipe_in ((List.mem_cons.mp h).resolve_left fun e => hv e.symm)
theorem wipe_wipe (σ : L2.St) (vs : List Nat) : wipe (wipe σ vs) vs = wipe σ vs := by
  apply List.ext_getElem?
  intro i
  by_cases h : i ∈ vs
  · rw [wipe_in h, wipe_in h, wipe_length]
  · rw [wipe_out h, wipe_out h]
/-- what all and any wish of an item: want is the truth that ends the walk -/
def YdB (W : Nat → Nat → Hp → Prop) (want : Bool) (Qf : Hp → Prop) : Nat → Nat → V → Hp → Prop := fun i m y H => ∃ c, y = .bl c ∧ if c = want then Qf H else ∃ m', m' < m ∧ W (i + 1) m' H
section
variable {D : GD} {elt tg iter : Expr} {ifs : List Expr} {scope : Scope} {gpos : Pos} {J : It} {g : TG} {tt : TT} {te : TE} {vs : List Nat}
theorem all_loop (o : D.Ok elt tg iter ifs scope gpos J g tt te vs) {A : Around} (hA : A.in1.in1 = D.A) (hd : A.depth < recursionLimit) (hh : A.handled = none) (hgen : ∀ h : Heap, h.get? D.a = some D.go → h.IsGen D.a D.g)
    {Qf : Hp → Prop} (hY : D.Yd = YdB D.W false Qf) {R : Result → Shared → Prop} (hT : ∀ s' H', Inv D.X D.pins D.σ H' s' → (∀ b ∈ D.fp, H' b = none) → D.Qs H' → R (.ok (.ret (.bool true))) s') (hF : ∀ s' H', Inv D.X D.pins D.σ H' s' → (∀ b ∈ D.fp, H' b = none) → Qf H' → R (.ok (.ret (.bool false))) s') :
    ∀ (n i m : Nat) (s : Shared) (H : Hp), D.Ready n i m H s → codeAny (model D.X.prog D.X.w) A (.builtin "all.loop" ⟨[.ref D.a], []⟩) R s := by
  intro n
  induction n with
  | zero =>
    intro i m s H r
    refine codeAny_builtin F.entry_all_loop ?_
    rw [Around.under_plainId F.plain_all_loop _]
    show wpAny _ A.in1 (pyNext (.ref D.a) >>= _) _ _ s
    refine wpAny_bind (gen_next o (A := A.in1) hA hd hh hgen r (fun s' H' I' f' q' => ?_) (fun v y i' m' H' s' ry hat yd rd => ?_))
    · exact wpAny_bind (wpAny_rule (wpAny_pure (hT s' H' I' f' q')))
    · rw [hY] at yd
      obtain ⟨c, rfl, q⟩ := yd
      obtain rfl : v = Value.bool c := ry
      refine wpAny_bind (wpAny_holding (wpAny_truthy_bool ?_))
      refine wpAny_bind (wpAny_letGo ?_)
      cases c with
      | true =>
        rw [if_neg (by decide)] at q
        obtain ⟨m'', hm, w⟩ := q
        exact absurd (rd m'' hm w).1 (Nat.lt_irrefl _)
      | false =>
        simp only [Bool.false_eq_true, if_false]
        exact wpAny_bind (wpAny_rule (wpAny_pure (hF s' H' hat.inv hat.fpn (by simpa using q))))
  | succ n ih =>
    intro i m s H r
    refine codeAny_builtin F.entry_all_loop ?_
    rw [Around.under_plainId F.plain_all_loop _]
    show wpAny _ A.in1 (pyNext (.ref D.a) >>= _) _ _ s
    refine wpAny_bind (gen_next o (A := A.in1) hA hd hh hgen r (fun s' H' I' f' q' => ?_) (fun v y i' m' H' s' ry hat yd rd => ?_))
    · exact wpAny_bind (wpAny_rule (wpAny_pure (hT s' H' I' f' q')))
    · rw [hY] at yd
      obtain ⟨c, rfl, q⟩ := yd
      obtain rfl : v = Value.bool c := ry
      refine wpAny_bind (wpAny_holding (wpAny_truthy_bool ?_))
      refine wpAny_bind (wpAny_letGo ?_)
      cases c with
      | true =>
        rw [if_neg (by decide)] at q
        obtain ⟨m'', hm, w⟩ := q
        simp only [if_true]
        exact wpAny_pure ⟨plainId_quiet F.plain_all_loop _, ih _ _ _ _ (rd m'' hm w).2⟩
      | false =>
        simp only [Bool.false_eq_true, if_false]
        exact wpAny_bind (wpAny_rule (wpAny_pure (hF s' H' hat.inv hat.fpn (by simpa using q))))
theorem any_loop (o : D.Ok elt tg iter ifs scope gpos J g tt te vs) {A : Around} (hA : A.in1.in1 = D.A) (hd : A.depth < recursionLimit) (hh : A.handled = none) (hgen : ∀ h : Heap, h.get? D.a = some D.go → h.IsGen D.a D.g)
    {Qf : Hp → Prop} (hY : D.Yd = YdB D.W true Qf) {R : Result → Shared → Prop} (hT : ∀ s' H', Inv D.X D.pins D.σ H' s' → (∀ b ∈ D.fp, H' b = none) → D.Qs H' → R (.ok (.ret (.bool false))) s') (hF : ∀ s' H', Inv D.X D.pins D.σ H' s' → (∀ b ∈ D.fp, H' b = none) → Qf H' → R (.ok (.ret (.bool true))) s') :
    ∀ (n i m : Nat) (s : Shared) (H : Hp), D.Ready n i m H s → codeAny (model D.X.prog D.X.w) A (.builtin "any.loop" ⟨[.ref D.a], []⟩) R s := by
  intro n
  induction n with
  | zero =>
    intro i m s H r
    refine codeAny_builtin F.entry_any_loop ?_
    rw [Around.under_plainId F.plain_any_loop _]
    show wpAny _ A.in1 (pyNext (.ref D.a) >>= _) _ _ s
    refine wpAny_bind (gen_next o (A := A.in1) hA hd hh hgen r (fun s' H' I' f' q' => ?_) (fun v y i' m' H' s' ry hat yd rd => ?_))
    · exact wpAny_bind (wpAny_rule (wpAny_pure (hT s' H' I' f' q')))
    · rw [hY] at yd
      obtain ⟨c, rfl, q⟩ := yd
      obtain rfl : v = Value.bool c := ry
      refine wpAny_bind (wpAny_holding (wpAny_truthy_bool ?_))
      refine wpAny_bind (wpAny_letGo ?_)
      cases c with
      | false =>
        rw [if_neg (by decide)] at q
        obtain ⟨m'', hm, w⟩ := q
        exact absurd (rd m'' hm w).1 (Nat.lt_irrefl _)
      | true =>
        simp only [if_true]
        exact wpAny_bind (wpAny_rule (wpAny_pure (hF s' H' hat.inv hat.fpn (by simpa using q))))
  | succ n ih =>
    intro i m s H r
    refine codeAny_builtin F.entry_any_loop ?_
    rw [Around.under_plainId F.plain_any_loop _]
    show wpAny _ A.in1 (pyNext (.ref D.a) >>= _) _ _ s
    refine wpAny_bind (gen_next o (A := A.in1) hA hd hh hgen r (fun s' H' I' f' q' => ?_) (fun v y i' m' H' s' ry hat yd rd => ?_))
    · exact wpAny_bind (wpAny_rule (wpAny_pure (hT s' H' I' f' q')))
    · rw [hY] at yd
      obtain ⟨c, rfl, q⟩ := yd
      obtain rfl : v = Value.bool c := ry
      refine wpAny_bind (wpAny_holding (wpAny_truthy_bool ?_))
      refine wpAny_bind (wpAny_letGo ?_)
      cases c with
      | false =>
        rw [if_neg (by decide)] at q
        obtain ⟨m'', hm, w⟩ := q
        simp only [Bool.false_eq_true, if_false]
        exact wpAny_pure ⟨plainId_quiet F.plain_any_loop _, ih _ _ _ _ (rd m'' hm w).2⟩
      | true =>
        simp only [if_true]
        exact wpAny_bind (wpAny_rule (wpAny_pure (hF s' H' hat.inv hat.fpn (by simpa using q))))
end

section
variable {X : Cx} {pins : List (Addr × Obj)} {σ : L2.St} {H : Hp} {s : Shared}
/-- the generator's names, its scope -/
structure GScp (X : Cx) (scope : Scope) (own : List (Str × Nat)) : Prop where
  blk : BlkOk X.N X.env.scope scope own
  cell : ∀ y ∈ scope.names, y.2 ≠ .cell
  dot : scope.names.lookup (".0" : Str) = some NameKind.local
  co : scope.isCoroutine = false
def noCells (sc : Scope) : Bool := sc.names.all fun y => match y.2 with | .cell => false | _ => true
theorem noCells_ok {sc : Scope} (h : noCells sc = true) : ∀ y ∈ sc.names, y.2 ≠ .cell := by
  intro y hy e
  have := List.all_eq_true.mp h y hy
  rw [e] at this
  cases this
/-- a generator expression made: D, its description; what stands behind it -/
theorem gen_made {c P : Addr} {elt tg iter : Expr} {ifs : List Expr} {scope : Scope} {own : List (Str × Nat)} {gpos : Pos} {wi : TI} {g : TG} {tt : TT} {te : TE} {k : Nat} {Q' : Value → Shared → Prop}
    (hr : Room (k + 1) X.A) (hc : X.calm = true) (hN : X.N.Nodup) (TB : TabB X.base X.mg c P) (hcode : X.env.code = .ref c) (hi : PI X tg iter wi) (S : GScp X scope own)
    (hg : ∀ (A : Around) (s : Shared) (H : Hp) (C : Addr) (code : Value) (fp : List Addr), PG (Cxg X A s H (genE X scope C code) fp) tg g) (ht : ∀ (A : Around) (s : Shared) (H : Hp) (C : Addr) (code : Value) (fp : List Addr), Room k A → PTs (Cxg X A s H (genE X scope C code) fp) ifs tt)
    (he : ∀ (A : Around) (s : Shared) (H : Hp) (C : Addr) (code : Value) (fp : List Addr), Room k A → PE (Cxg X A s H (genE X scope C code) fp) elt te) (hs : ∀ v, genFold iter X.env v = pure v) (I : Inv X pins σ H s)
    {Wm : It → Hp → Prop} (h : wi σ H fun J H1 => TabG H1 P ∧ ∀ H2, Tabbed P H1 H2 → Wm J H2)
    (hQ : ∀ (J : It) (H2 : Hp), Wm J H2 → ∃ (W : Nat → Nat → Hp → Prop) (Yd : Nat → Nat → V → Hp → Prop) (Qs : Hp → Prop), (∃ m, W 0 m H2) ∧
      (∀ i m H, W i m H → (J.stop i H ∧ Qs H) ∨ (J.go i H ∧ 0 < m ∧ ∃ (Ny : V → Hp → Prop) (Nn : Hp → Prop), (∀ y H', Ny y H' → Yd i m y H') ∧ (∀ H', Nn H' → ∃ m', m' < m ∧ W (i + 1) m' H') ∧ ∀ x H', J.yld i H x H' → g x (wipe σ (own.map (·.2))) H' fun σ2 H2 => wipe σ2 (own.map (·.2)) = wipe σ (own.map (·.2)) ∧ tt σ2 H2 fun b H3 =>
        if b = true then te σ2 H3 Ny else Nn H3)) ∧
      ∀ (D : GD) (s5 : Shared) (m : Nat), D.Ok elt tg iter ifs scope gpos J g tt te (own.map (·.2)) → D.X.prog = X.prog → D.X.w = X.w → D.A = X.A.in1.in1 → D.W = W → D.Yd = Yd → D.Qs = Qs → (∀ h : Heap, h.get? D.a = some D.go → h.IsGen D.a D.g) → D.Ready m 0 m H2 s5 →
        (∀ s' H', Inv D.X D.pins D.σ H' s' → (∀ b ∈ D.fp, H' b = none) → Inv X pins σ H' s') → Q' (.ref D.a) s5) :
    wpAny (model X.prog X.w) X.A (eval (.GeneratorExp elt [⟨tg, iter, ifs, 0⟩] scope gpos) X.env) Q' X.xe s := by
  have hfree : ∀ y ∈ scope.names, y.2 = .free → ∃ c, X.env.cells.lookup y.1 = some c := fun y hy e => by
    rcases S.blk.free y hy e with k | k
    · exact I.ok.has _ (.inl k)
    · exact I.ok.has _ (.inr k)
  refine wpAny_GeneratorExp_make S.co (closure_ok hfree) S.cell S.dot S.blk.kind hr.depth ?_ hs
  refine thn (hi.run pins s σ H _ I h) fun xv s1 hx => thn hx fun itv s2 h2 => ?_
  obtain ⟨it, fp, tn, J, H2, e, I2, T, st2, f2, ⟨ps, hP, htr⟩, q⟩ := h2
  subst e
  refine ⟨I2.nolimit, ?_⟩
  have hPs : s2.heap.get? P = some { cls := .none, data := .fields ps } := I2.hok P _ hP
  have cd : PySem.W.CodeHd s2.heap c P := TB.code.keeps fun b u e => I2.bk b u e
  have cont : ∀ (code : Value) (h3 : Heap) (tk : Nat) (ps' : Array Value), Heap.ExtBut P s2.heap h3 → h3.get? P = some { cls := .none, data := .fields ps' } → (∃ more, ps' = ps ++ more) → TriplesOk ps'.toList →
      wpAny (model X.prog X.w) X.A (builtinsFor X.env.globals X.env.builtins) (fun bi s₄ => ∀ h', h'.Ns s₄.heap.objs.size (fun y => if y = ".0" then some (.ref it) else none) → Heap.SameBut s₄.heap.objs.size (s₄.heap.push { cls := .type "frame", data := .dict #[] }) h' →
          Q' (.ref h'.objs.size) { s₄ with
            gens := s₄.gens.push (.fresh (.compStart (.GeneratorExp elt [⟨tg, iter, ifs, 0⟩] scope gpos) 0 (.ref it) .none (genEnv scope (cloFrom X.env.cells scope.names []) s₄.heap.objs.size code bi X.env))),
            toks := s₄.toks + 1 + 1 + 1,
            heap := h'.push { cls := .type "generator", data := .fields #[.int s₄.gens.size 0, .str "<genexpr>" (s₄.toks + 1), .str (X.env.qual ++ "<genexpr>") (s₄.toks + 1 + 1)] } }) X.xe { s2 with heap := h3, toks := tk } := by
    intro code h3 tk ps' hx hP3 hmore ht3
    obtain ⟨more, em⟩ := hmore
    obtain ⟨bm, ob, e1, e2, e3, e4, e5, e6, e7, e8⟩ := TB.bm
    refine wpAny_builtinsFor (m := X.mg) (by rw [I2.ok.glob]; exact (I2.mod.glob.keeps I2.bk).extBut hx TB.gP) e1 e2 (hx _ _ e4 (I2.bk _ _ e5)) e6 e7 e8 ?_
    have I4 := inv_tab (more := more) (h' := h3) (g' := s2.gens) (d' := s2.drawn) (t' := tk) I2 hP (fun b u hb e => hx b u hb e) (by rw [← em]; exact hP3) I2.bare
    have TG4 : Tabbed P H2 (upd H2 P (.tbl (ps ++ more))) := ⟨⟨ps ++ more, upd_same, by rw [← em]; exact ht3⟩, fun b hb => upd_ne hb⟩
    have wm := q _ TG4
    generalize hH4 : upd H2 P (.tbl (ps ++ more)) = H4 at I4 TG4 wm
    have fpP : ∀ b ∈ fp, b ≠ P := fun b hb z => by
      have := (f2 b hb).1
      rw [z, hP] at this
      cases this
    have sz : ∀ b ∈ fp, b < h3.objs.size := fun b hb => by
      obtain ⟨o, e, _⟩ := T.obj _ _ st2 b hb
      exact Heap.lt_size (hx b o (fpP b hb) e)
    have f4 : ∀ b ∈ fp, FpOk X pins H4 b ∧ b < h3.objs.size := fun b hb => ⟨⟨by rw [TG4.2 b (fpP b hb)]; exact (f2 b hb).1, (f2 b hb).2⟩, sz b hb⟩
    intro h' hn' hs'
    generalize hs4 : ({ s2 with heap := h3, toks := tk } : Shared) = s4 at I4 hn' hs' ⊢
    have hh3 : s4.heap = h3 := by rw [← hs4]
    have f4' : ∀ b ∈ fp, FpOk X pins H4 b ∧ b < s4.heap.objs.size := by rw [hh3]; exact f4
    generalize hgo : ({ cls := .type "generator", data := .fields #[.int s4.gens.size 0, .str "<genexpr>" (s4.toks + 1), .str (X.env.qual ++ "<genexpr>") (s4.toks + 1 + 1)] } : Obj) = go
    have hgoP : (h'.push go).get? h'.objs.size = some go := by rw [← hgo]; exact Heap.get?_push_size _ rfl
    have hsz : h'.objs.size = s4.heap.objs.size + 1 := by rw [hs'.1, Heap.size_push]
    have hAf : (genA X.A (.GeneratorExp elt [⟨tg, iter, ifs, 0⟩] scope gpos) it (genE X scope s4.heap.objs.size code)).frames = some (genE X scope s4.heap.objs.size code :: X.stack) := by
      show pushEnvs [genE X scope s4.heap.objs.size code] X.A.frames = _
      rw [I4.ok.frames]
      rfl
    have hAr : Room k (genA X.A (.GeneratorExp elt [⟨tg, iter, ifs, 0⟩] scope gpos) it (genE X scope s4.heap.objs.size code)) := by
      refine ⟨hr.hd, ?_, ?_⟩
      · have := hr.dp
        show X.A.depth + 1 + 3 * k + 5 < _
        omega
      · have := hr.un
        show X.A.units + 1 + 1 + 3 + 16 * k + 200 < _
        omega
    have bare5 : AllBare (s4.gens.push (.fresh (.compStart (.GeneratorExp elt [⟨tg, iter, ifs, 0⟩] scope gpos) 0 (.ref it) .none (genE X scope s4.heap.objs.size code)))) := AllBare.push I4.bare rfl
    have I5 := gen_start (A := genA X.A (.GeneratorExp elt [⟨tg, iter, ifs, 0⟩] scope gpos) it (genE X scope s4.heap.objs.size code)) (tk := s4.toks + 1 + 1 + 1) (go := go) I4 S.blk S.cell hN f4' hAf (fun _ => hAr.hd) hn' hs' bare5 (fun v z => by rw [← hgo] at z; cases z) hgoP
    have st5 : tn 0 (h'.push go) := T.keep _ _ _ st2 fun b hb o e => Heap.get?_push_of_some _ (hs'.extBut b o (Nat.ne_of_lt (f4' b hb).2) (Heap.get?_push_of_some _ (by rw [hh3]; exact hx b o (fpP b hb) e)))
    obtain ⟨W, Yd, Qs, ⟨m, w0⟩, step, fin⟩ := hQ J H4 wm
    have o : (GD.mk (Cxg X (genA X.A (.GeneratorExp elt [⟨tg, iter, ifs, 0⟩] scope gpos) it (genE X scope s4.heap.objs.size code)) s4 H4 (genE X scope s4.heap.objs.size code) fp) h'.objs.size s4.gens.size go fp it X.A.in1.in1 (wipe σ (own.map (·.2))) tn W Yd Qs).Ok elt tg iter ifs scope gpos J g tt te (own.map (·.2)) := by
      refine ⟨rfl, rfl, rfl, hc, S.co, rfl, rfl, fun b hb => ?_, T, hg _ _ _ _ _ _, ht _ _ _ _ _ _ hAr, he _ _ _ _ _ _ hAr, ?_, step⟩
      · have := (f4' b hb).2
        show b ≠ h'.objs.size
        rw [hsz]
        exact Nat.ne_of_lt (Nat.lt_succ_of_lt this)
      · exact wipe_wipe σ _
    refine fin _ _ m o rfl rfl rfl rfl rfl rfl (fun h e => ?_) (gen_ready o (Nat.le_refl _) w0 ⟨I5, st5, fun b hb => (f4' b hb).1.1⟩ (Array.getElem?_push_size ..)) fun s' H' I' fn' => ?_
    · rw [← hgo] at e
      exact ⟨_, _, _, e, rfl, rfl, rfl⟩
    · exact I4.call' (ch := fp) I'.os I'.base I'.hok I'.bare fun b hb => ⟨(f4' b hb).1.2.2.2.1, (f4' b hb).1.2.1, (f4' b hb).1.2.2.2.2.1, (f4' b hb).1.2.2.2.2.2⟩
  cases hf : codeAmong gpos ps.toList with
  | none =>
    refine wpAny_genexprCodeX hcode (cd.code hPs htr) (cd.tab hPs) hf fun c' h' tk hx hge hlt hco' _ htab' _ => ?_
    obtain ⟨o1, vs, f1, tf, fl, tg, inF, tx, tt, op, _, _, _, _, _, _, _, _, _, htr', _⟩ := hco'
    exact cont _ h' tk _ hx htab'.2 ⟨_, rfl⟩ htr'
  | some cv =>
    refine wpAny_genexprCode_hit hcode (cd.code hPs htr) hf ?_
    exact cont cv s2.heap s2.toks ps (Heap.ExtBut.refl _ _) hPs ⟨#[], by simp⟩ htr
end
end Gx

/-! ## GenAll3 -/
set_option Elab.async false
set_option linter.all false
set_option maxRecDepth 100000
set_option maxHeartbeats 2000000
namespace Gx
open PySem PySem.Spec PyProof.Rows L2 GxR GenW

/-- all(..) | any(..) of a generator expression: P the def's table of code objects; want: the truth that ends the walk -/
def tQuant (want : Bool) (P : Addr) (wi : TI) (g : TG) (tt : TT) (te : TE) (vs : List Nat) : TE := fun σ H Q => wi σ H fun J H1 => TabG H1 P ∧ ∀ H2, Tabbed P H1 H2 → ∃ W : Nat → Nat → Hp → Prop, (∃ m, W 0 m H2) ∧ ∀ i m H, W i m H →
  (J.stop i H ∧ Q (.bl (!want)) H) ∨ (J.go i H ∧ 0 < m ∧ ∃ Nx : Hp → Prop, (∀ H', Nx H' → ∃ m', m' < m ∧ W (i + 1) m' H') ∧ ∀ x H', J.yld i H x H' → g x (wipe σ vs) H' fun σ2 H3 => wipe σ2 vs = wipe σ vs ∧ tt σ2 H3 fun b H4 =>
    if b = true then te σ2 H4 fun y H5 => ∃ c, y = .bl c ∧ if c = want then Q (.bl want) H5 else Nx H5 else Nx H4)
theorem quant_step {want : Bool} {Q : VK} {J : It} {g : TG} {tt : TT} {te : TE} {vs : List Nat} {σ : L2.St} {W : Nat → Nat → Hp → Prop} (step : ∀ i m H, W i m H →
  (J.stop i H ∧ Q (.bl (!want)) H) ∨ (J.go i H ∧ 0 < m ∧ ∃ Nx : Hp → Prop, (∀ H', Nx H' → ∃ m', m' < m ∧ W (i + 1) m' H') ∧ ∀ x H', J.yld i H x H' → g x (wipe σ vs) H' fun σ2 H3 => wipe σ2 vs = wipe σ vs ∧ tt σ2 H3 fun b H4 =>
    if b = true then te σ2 H4 fun y H5 => ∃ c, y = .bl c ∧ if c = want then Q (.bl want) H5 else Nx H5 else Nx H4)) :
    ∀ i m H, W i m H → (J.stop i H ∧ Q (.bl (!want)) H) ∨ (J.go i H ∧ 0 < m ∧ ∃ (Ny : V → Hp → Prop) (Nn : Hp → Prop), (∀ y H', Ny y H' → YdB W want (Q (.bl want)) i m y H') ∧ (∀ H', Nn H' → ∃ m', m' < m ∧ W (i + 1) m' H') ∧ ∀ x H', J.yld i H x H' → g x (wipe σ vs) H' fun σ2 H2 => wipe σ2 vs = wipe σ vs ∧ tt σ2 H2 fun b H3 =>
        if b = true then te σ2 H3 Ny else Nn H3) := by
  intro i m H w
  rcases step i m H w with h | ⟨h1, h2, Nx, hNx, h3⟩
  · exact .inl h
  · refine .inr ⟨h1, h2, _, Nx, fun y H' hy => ?_, hNx, h3⟩
    obtain ⟨c, rfl, q⟩ := hy
    refine ⟨c, rfl, ?_⟩
    by_cases hc : c = want
    · rw [if_pos hc] at q ⊢; exact q
    · rw [if_neg hc] at q ⊢; exact hNx _ q
theorem boot_all : bootBuiltins "all" = some (.builtin "all") := by decide +kernel
section
variable {X : Cx}
theorem pe_allG {c P : Addr} {elt tg iter : Expr} {ifs : List Expr} {scope : Scope} {own : List (Str × Nat)} {p pos gpos : Pos} {wi : TI} {g : TG} {tt : TT} {te : TE} {k : Nat}
    (hr : Room (k + 1) X.A) (hc : X.calm = true) (hN : X.N.Nodup) (hgl : Gl X "all") (hm : X.mg "all" = none) (TB : TabB X.base X.mg c P) (hcode : X.env.code = .ref c) (hi : PI X tg iter wi) (S : GScp X scope own)
    (hg : ∀ (A : Around) (s : Shared) (H : Hp) (C : Addr) (code : Value) (fp : List Addr), PG (Cxg X A s H (genE X scope C code) fp) tg g) (ht : ∀ (A : Around) (s : Shared) (H : Hp) (C : Addr) (code : Value) (fp : List Addr), Room k A → PTs (Cxg X A s H (genE X scope C code) fp) ifs tt)
    (he : ∀ (A : Around) (s : Shared) (H : Hp) (C : Addr) (code : Value) (fp : List Addr), Room k A → PE (Cxg X A s H (genE X scope C code) fp) elt te) (hs : ∀ v, genFold iter X.env v = pure v := by intro _; rfl)
    (hst : starEach [.GeneratorExp elt [⟨tg, iter, ifs, 0⟩] scope gpos] X.env = (false, eval (.GeneratorExp elt [⟨tg, iter, ifs, 0⟩] scope gpos) X.env) :: starEach [] X.env := by rfl) :
    PE X (.Call (.Name "all" p) [.GeneratorExp elt [⟨tg, iter, ifs, 0⟩] scope gpos] [] pos) (tQuant false P wi g tt te (own.map (·.2))) := by
  refine ⟨fun pins s σ H Q I h => ?_⟩
  refine wpAny_Call_Name_kw (ld_blt I hgl hm boot_all ?_)
  refine PyProof.Rows.callWith_builtin1 ?_ hst (by rfl)
  rw [hst]
  show wpAny _ _ (spliced ((false, eval (.GeneratorExp elt [⟨tg, iter, ifs, 0⟩] scope gpos) X.env) :: backTo pos (starEach [] X.env))) _ _ s
  refine Calls.spliced_cons (gen_made hr hc hN TB hcode hi S hg ht he hs I h fun J H2 hW => ?_)
  obtain ⟨W, w0, step⟩ := hW
  refine ⟨W, YdB W false (Q (.bl false)), fun H' => Q (.bl true) H', w0, quant_step step, fun D s5 m o hp hw hA hWe hY hQ hgen rdy back => ?_⟩
  refine Calls.spliced_nil ?_
  refine call_function_tree F.kind_all F.plain_all F.entry_all (F.args_all1 _) ?_
  unfold Builtin.«all»
  refine wpAny_bind (m := oneArg "all" _) (wpAny_pure ?_)
  have pinG := (rdy.at_.inv.pin (D.a, D.go) (List.mem_append_right _ (List.mem_singleton.mpr rfl))).1
  refine wpAny_bind (wpAny_pyIter_gen (hgen _ pinG) ?_)
  refine wpAny_pure ⟨plainId_quiet F.plain_all_loop _, ?_⟩
  rw [← hp, ← hw]
  subst hWe
  refine all_loop o (A := X.A) hA.symm hr.depth hr.hd hgen hY (fun s' H' I' f' q' => ?_) (fun s' H' I' f' q' => ?_) m 0 m s5 H2 rdy
  · rw [hQ] at q'
    exact ⟨.bl true, H', back s' H' I' f', rfl, q'⟩
  · exact ⟨.bl false, H', back s' H' I' f', rfl, q'⟩
theorem pe_anyG {c P : Addr} {elt tg iter : Expr} {ifs : List Expr} {scope : Scope} {own : List (Str × Nat)} {p pos gpos : Pos} {wi : TI} {g : TG} {tt : TT} {te : TE} {k : Nat}
    (hr : Room (k + 1) X.A) (hc : X.calm = true) (hN : X.N.Nodup) (hgl : Gl X "any") (hm : X.mg "any" = none) (TB : TabB X.base X.mg c P) (hcode : X.env.code = .ref c) (hi : PI X tg iter wi) (S : GScp X scope own)
    (hg : ∀ (A : Around) (s : Shared) (H : Hp) (C : Addr) (code : Value) (fp : List Addr), PG (Cxg X A s H (genE X scope C code) fp) tg g) (ht : ∀ (A : Around) (s : Shared) (H : Hp) (C : Addr) (code : Value) (fp : List Addr), Room k A → PTs (Cxg X A s H (genE X scope C code) fp) ifs tt)
    (he : ∀ (A : Around) (s : Shared) (H : Hp) (C : Addr) (code : Value) (fp : List Addr), Room k A → PE (Cxg X A s H (genE X scope C code) fp) elt te) (hs : ∀ v, genFold iter X.env v = pure v := by intro _; rfl)
    (hst : starEach [.GeneratorExp elt [⟨tg, iter, ifs, 0⟩] scope gpos] X.env = (false, eval (.GeneratorExp elt [⟨tg, iter, ifs, 0⟩] scope gpos) X.env) :: starEach [] X.env := by rfl) :
    PE X (.Call (.Name "any" p) [.GeneratorExp elt [⟨tg, iter, ifs, 0⟩] scope gpos] [] pos) (tQuant true P wi g tt te (own.map (·.2))) := by
  refine ⟨fun pins s σ H Q I h => ?_⟩
  refine wpAny_Call_Name_kw (ld_blt I hgl hm boot_any ?_)
  refine PyProof.Rows.callWith_builtin1 ?_ hst (by rfl)
  rw [hst]
  show wpAny _ _ (spliced ((false, eval (.GeneratorExp elt [⟨tg, iter, ifs, 0⟩] scope gpos) X.env) :: backTo pos (starEach [] X.env))) _ _ s
  refine Calls.spliced_cons (gen_made hr hc hN TB hcode hi S hg ht he hs I h fun J H2 hW => ?_)
  obtain ⟨W, w0, step⟩ := hW
  refine ⟨W, YdB W true (Q (.bl true)), fun H' => Q (.bl false) H', w0, quant_step step, fun D s5 m o hp hw hA hWe hY hQ hgen rdy back => ?_⟩
  refine Calls.spliced_nil ?_
  refine call_function_tree F.kind_any F.plain_any F.entry_any (F.args_any1 _) ?_
  unfold Builtin.«any»
  refine wpAny_bind (m := oneArg "any" _) (wpAny_pure ?_)
  have pinG := (rdy.at_.inv.pin (D.a, D.go) (List.mem_append_right _ (List.mem_singleton.mpr rfl))).1
  refine wpAny_bind (wpAny_pyIter_gen (hgen _ pinG) ?_)
  refine wpAny_pure ⟨plainId_quiet F.plain_any_loop _, ?_⟩
  rw [← hp, ← hw]
  subst hWe
  refine any_loop o (A := X.A) hA.symm hr.depth hr.hd hgen hY (fun s' H' I' f' q' => ?_) (fun s' H' I' f' q' => ?_) m 0 m s5 H2 rdy
  · rw [hQ] at q'
    exact ⟨.bl false, H', back s' H' I' f', rfl, q'⟩
  · exact ⟨.bl true, H', back s' H' I' f', rfl, q'⟩
end
/-- over a walk: Pv by the turn and the heap -/
theorem quant_it {want : Bool} {J : It} {n : Nat} {G : Hp → Prop} {Y : Nat → Hp → V → Hp → Prop} (w : Walk J n G Y) {g : TG} {tt : TT} {te : TE} {vs : List Nat} {σ : L2.St} {H2 : Hp} {Q : VK} (Pv : Nat → Hp → Prop) (h0 : Pv 0 H2) (hG : ∀ i H, i ≤ n → Pv i H → G H)
    (hs : ∀ i x H H', i < n → Pv i H → Y i H x H' → g x (wipe σ vs) H' fun σ2 H3 => wipe σ2 vs = wipe σ vs ∧ tt σ2 H3 fun b H4 => if b = true then te σ2 H4 fun y H5 => ∃ c, y = .bl c ∧ if c = want then Q (.bl want) H5 else Pv (i + 1) H5 else Pv (i + 1) H4)
    (hd : ∀ H, Pv n H → Q (.bl (!want)) H) :
    ∃ W : Nat → Nat → Hp → Prop, (∃ m, W 0 m H2) ∧ ∀ i m H, W i m H →
      (J.stop i H ∧ Q (.bl (!want)) H) ∨ (J.go i H ∧ 0 < m ∧ ∃ Nx : Hp → Prop, (∀ H', Nx H' → ∃ m', m' < m ∧ W (i + 1) m' H') ∧ ∀ x H', J.yld i H x H' → g x (wipe σ vs) H' fun σ2 H3 => wipe σ2 vs = wipe σ vs ∧ tt σ2 H3 fun b H4 =>
        if b = true then te σ2 H4 fun y H5 => ∃ c, y = .bl c ∧ if c = want then Q (.bl want) H5 else Nx H5 else Nx H4) := by
  refine ⟨fun i m H => m = n - i ∧ i ≤ n ∧ Pv i H, ⟨n, by simp, Nat.zero_le _, h0⟩, ?_⟩
  rintro i m H ⟨rfl, hi, p⟩
  have q := hG i H hi p
  by_cases hlt : i < n
  · exact .inr ⟨w.goes i H hlt q, by omega, Pv (i + 1), fun H' p' => ⟨n - (i + 1), by omega, rfl, hlt, p'⟩, fun x H' y => hs i x H H' hlt p (w.yields i H x H' hlt q y)⟩
  · have e : i = n := by omega
    subst e
    exact .inl ⟨w.stops H q, hd H p⟩
end Gx

/-! ## Lk -/
set_option Elab.async false
set_option linter.all false
set_option maxRecDepth 100000
set_option maxHeartbeats 2000000
/-! What all defs of the package's laws are told with: tuples of ints, webs; heaps that have grown; callees. -/
namespace Lk
open PySem PySem.Spec PyProof.Rows L2 Gx
open GxR (TabG Tabbed TabB)

/-! ### heaps -/
def isTbl : HO → Bool
  | .tbl _ => true
  | _ => false
/-- tables that no generator of a def writes at -/
class Own where
  own : Addr → Prop
variable [Own]
/-- all that was tracked is as it was, but that tables may have grown -/
structure Ext (H H' : Hp) : Prop where
  keep : ∀ a o, H a = some o → isTbl o = false → H' a = some o
  tab : ∀ P, TabG H P → TabG H' P
  tb : ∀ a o, H a = some o → ∃ o', H' a = some o'
  own : ∀ P ps, Own.own P → H P = some (.tbl ps) → H' P = some (.tbl ps)
theorem Ext.refl (H : Hp) : Ext H H := ⟨fun _ _ h _ => h, fun _ h => h, fun _ _ h => ⟨_, h⟩, fun _ _ _ h => h⟩
theorem Ext.trans {H H1 H2 : Hp} (a : Ext H H1) (b : Ext H1 H2) : Ext H H2 := ⟨fun c o h q => b.keep c o (a.keep c o h q) q, fun P h => b.tab P (a.tab P h), fun c o h => by
  obtain ⟨o', h'⟩ := a.tb c o h
  exact b.tb c o' h', fun P ps o h => b.own P ps o (a.own P ps o h)⟩
theorem Ext.new {H : Hp} {p : Addr} (h : H p = none) (o : HO) : Ext H (upd H p o) := ⟨fun a u e _ => by rw [upd_ne (ne_of_none e h)]; exact e, fun P ⟨ps, e, t⟩ => ⟨ps, by rw [upd_ne (ne_of_none e h)]; exact e, t⟩, fun a u e => ⟨u, by rw [upd_ne (ne_of_none e h)]; exact e⟩, fun P ps _ e => by rw [upd_ne (ne_of_none e h)]; exact e⟩
theorem Ext.tabbed {H H' : Hp} {P : Addr} (hn : ¬ Own.own P) (h : TabG H P) (t : Tabbed P H H') : Ext H H' := by
  obtain ⟨ps, e, ht⟩ := h
  refine ⟨fun a o e' q => ?_, fun P' h' => ?_, fun a o e' => ?_, fun P' qs o e1 => by rw [t.2 P' (fun z => hn (z ▸ o))]; exact e1⟩
  · have : a ≠ P := fun z => by
      rw [z, e] at e'
      cases e'
      cases q
    rw [t.2 a this]; exact e'
  · by_cases z : P' = P
    · rw [z]; exact t.1
    · obtain ⟨qs, e1, t1⟩ := h'
      exact ⟨qs, by rw [t.2 P' z]; exact e1, t1⟩
  · by_cases z : a = P
    · obtain ⟨qs, e1, _⟩ := t.1
      exact ⟨_, by rw [z]; exact e1⟩
    · exact ⟨o, by rw [t.2 a z]; exact e'⟩
theorem Ext.free {H H' : Hp} (e : Ext H H') {l : Addr} (h : H' l = none) : H l = none := by
  cases q : H l with
  | none => rfl
  | some o =>
    obtain ⟨o', h'⟩ := e.tb l o q
    rw [h] at h'
    cases h'
theorem Ext.tup {H H' : Hp} (e : Ext H H') {a : Addr} {xs : List V} (h : H a = some (.tup xs)) : H' a = some (.tup xs) := e.keep _ _ h rfl
theorem Ext.lst {H H' : Hp} (e : Ext H H') {a : Addr} {xs : List V} (h : H a = some (.lst xs)) : H' a = some (.lst xs) := e.keep _ _ h rfl
/-- a list that grows, new behind H0 -/
theorem Ext.put {H0 H : Hp} {p : Addr} (e : Ext H0 H) (h : H0 p = none) (o : HO) : Ext H0 (upd H p o) := ⟨fun a u q t => by rw [upd_ne (ne_of_none q h)]; exact e.keep a u q t, fun P ⟨ps, q, t⟩ => by
  obtain ⟨qs, q', t'⟩ := e.tab P ⟨ps, q, t⟩
  exact ⟨qs, by rw [upd_ne (ne_of_none q h)]; exact q', t'⟩, fun a u q => by
  obtain ⟨o', h'⟩ := e.tb a u q
  exact ⟨o', by rw [upd_ne (ne_of_none q h)]; exact h'⟩, fun P ps o q => by rw [upd_ne (ne_of_none q h)]; exact e.own P ps o q⟩
/-- the tables that the defs have -/
def Tabs (Ps : List Addr) (H : Hp) : Prop := ∀ P ∈ Ps, TabG H P
theorem Tabs.ext {Ps : List Addr} {H H' : Hp} (t : Tabs Ps H) (e : Ext H H') : Tabs Ps H' := fun P h => e.tab P (t P h)

/-! ### tuples of ints, of such -/
theorem paired_mono {α β : Type} {R S : α → β → Prop} (h : ∀ a b, R a b → S a b) : ∀ {l : List α} {m : List β}, Paired R l m → Paired S l m
  | _, _, .nil => .nil
  | _, _, .cons r t => .cons (h _ _ r) (paired_mono h t)
theorem paired_get {α β : Type} {R : α → β → Prop} : ∀ {l : List α} {m : List β} {i : Nat} {b : β}, Paired R l m → m[i]? = some b → ∃ a, l[i]? = some a ∧ R a b
  | _, _, _, _, .nil, e => by simp at e
  | _, _, 0, _, .cons r _, e => by simp at e; subst e; exact ⟨_, rfl, r⟩
  | _, _, i + 1, _, .cons _ t, e => by
    obtain ⟨a, h1, h2⟩ := paired_get (i := i) t (by simpa using e)
    exact ⟨a, by simpa using h1, h2⟩
theorem paired_get' {α β : Type} {R : α → β → Prop} : ∀ {l : List α} {m : List β} {i : Nat} {a : α}, Paired R l m → l[i]? = some a → ∃ b, m[i]? = some b ∧ R a b
  | _, _, _, _, .nil, e => by simp at e
  | _, _, 0, _, .cons r _, e => by simp at e; subst e; exact ⟨_, rfl, r⟩
  | _, _, i + 1, _, .cons _ t, e => by
    obtain ⟨a, h1, h2⟩ := paired_get' (i := i) t (by simpa using e)
    exact ⟨a, by simpa using h1, h2⟩
theorem paired_snoc {α β : Type} {R : α → β → Prop} {a : α} {b : β} (r : R a b) : ∀ {l : List α} {m : List β}, Paired R l m → Paired R (l ++ [a]) (m ++ [b])
  | _, _, .nil => .cons r .nil
  | _, _, .cons q t => .cons q (paired_snoc r t)
theorem paired_len {α β : Type} {R : α → β → Prop} : ∀ {l : List α} {m : List β}, Paired R l m → l.length = m.length
  | _, _, .nil => rfl
  | _, _, .cons _ t => by rw [List.length_cons, List.length_cons, paired_len t]
/-- the ints' values -/
abbrev iv (ns : List Int) : List V := ns.map V.int
theorem iv_get {ns : List Int} {i : Nat} {x : V} (h : (iv ns)[i]? = some x) : ∃ n, ns[i]? = some n ∧ x = .int n := by
  rw [List.getElem?_map] at h
  cases e : ns[i]? with
  | none => rw [e] at h; cases h
  | some n => rw [e] at h; exact ⟨n, rfl, (Option.some.inj h).symm⟩
theorem iv_at {ns : List Int} {i : Nat} {n : Int} (h : ns[i]? = some n) : (iv ns)[i]? = some (.int n) := by rw [List.getElem?_map, h]; rfl
theorem iv_len (ns : List Int) : (iv ns).length = ns.length := List.length_map ..
/-- a tuple of ints -/
def TI (H : Hp) (v : V) (ns : List Int) : Prop := ∃ a, v = .ref a ∧ H a = some (.tup (iv ns))
/-- a tuple of tuples of ints -/
def TT2 (H : Hp) (v : V) (rows : List (List Int)) : Prop := ∃ a vs, v = .ref a ∧ H a = some (.tup vs) ∧ Paired (TI H) vs rows
/-- a list of ints, of tuples of ints -/
def LI (H : Hp) (v : V) (ns : List Int) : Prop := ∃ a, v = .ref a ∧ H a = some (.lst (iv ns))
def LT2 (H : Hp) (v : V) (rows : List (List Int)) : Prop := ∃ a vs, v = .ref a ∧ H a = some (.lst vs) ∧ Paired (TI H) vs rows
theorem TI.ext {H H' : Hp} {v : V} {ns : List Int} (e : Ext H H') (h : TI H v ns) : TI H' v ns := by
  obtain ⟨a, q, h⟩ := h
  exact ⟨a, q, e.tup h⟩
theorem pTI.ext {H H' : Hp} {vs : List V} {rows : List (List Int)} (e : Ext H H') (h : Paired (TI H) vs rows) : Paired (TI H') vs rows := paired_mono (fun _ _ r => r.ext e) h
theorem TT2.ext {H H' : Hp} {v : V} {rows : List (List Int)} (e : Ext H H') (h : TT2 H v rows) : TT2 H' v rows := by
  obtain ⟨a, vs, q, h, p⟩ := h
  exact ⟨a, vs, q, e.tup h, pTI.ext e p⟩
theorem LI.ext {H H' : Hp} {v : V} {ns : List Int} (e : Ext H H') (h : LI H v ns) : LI H' v ns := by
  obtain ⟨a, q, h⟩ := h
  exact ⟨a, q, e.lst h⟩
theorem LT2.ext {H H' : Hp} {v : V} {rows : List (List Int)} (e : Ext H H') (h : LT2 H v rows) : LT2 H' v rows := by
  obtain ⟨a, vs, q, h, p⟩ := h
  exact ⟨a, vs, q, e.lst h, pTI.ext e p⟩

/-! ### webs -/
/-- a look: one, other, sign -/
abbrev Look3 := Int × Int × Int
def row3 (l : Look3) : List Int := [l.1, l.2.1, l.2.2]
structure Web where
  tops : List Int
  looks : List Look3
structure Web.Ok (W : Web) : Prop where
  some_ : 1 ≤ W.tops.length
  few : W.tops.length ≤ 6
  tops : ∀ t ∈ W.tops, 1 ≤ t ∧ t ≤ 3
  most : W.looks.length ≤ 14
  look : ∀ l ∈ W.looks, (0 ≤ l.1 ∧ l.1 < W.tops.length) ∧ (0 ≤ l.2.1 ∧ l.2.1 < W.tops.length) ∧ (l.2.2 = 1 ∨ l.2.2 = -1)
  asc : W.looks.Pairwise fun k l => k.1 < l.1 ∨ k.1 = l.1 ∧ k.2.1 < l.2.1
  four : ∀ f : Int, ((W.looks.map fun l => l.2.1).filter fun o => o == f).length ≤ 4
def WebAt (H : Hp) (v : V) (W : Web) : Prop := ∃ a t l, v = .ref a ∧ H a = some (.tup [t, l]) ∧ TI H t W.tops ∧ TT2 H l (W.looks.map row3)
theorem WebAt.ext {H H' : Hp} {v : V} {W : Web} (e : Ext H H') (h : WebAt H v W) : WebAt H' v W := by
  obtain ⟨a, t, l, q, h, p1, p2⟩ := h
  exact ⟨a, t, l, q, e.tup h, p1.ext e, p2.ext e⟩

/-! ### callees -/
/-- the def of that name, its promise at level k -/
structure Cal (P : Program) (w : World) (K : PySem.W.Frag) (mg : Str → Option Value) (base : Heap) (CX : CXT) (k : Nat) (x : Str) (ps : List Str) (sp : Sp) : Prop where
  ex : ∃ f fd, mg x = some (.ref f) ∧ PySem.W.keepIn K (.ref f) = true ∧ Binds K fd ps [] ∧ FnOk P w K mg base CX k f fd ps sp
section
variable {X : Cx} {CX : CXT} {k : Nat} {ps : List Str} {sp : Sp} {E : XK} {x : Str} {p pos : Pos} {e : Expr} {es : List Expr} {t : TA}
theorem pe_cal (F : Cal X.prog X.w X.K X.mg X.base CX k x ps sp) (hr : Room k X.A) (hg : Gl X x) (hx : Passes CX X E)
    (ha : PA X (e :: es) t) (hdb : (x == ("__debug__" : Str)) = false := by decide) (he : starEach (e :: es) X.env = (false, eval e X.env) :: starEach es X.env := by rfl) (hpl : (backTo pos (starEach es X.env)).any (·.1) = false := by rfl) :
    PE X (.Call (.Name x p) (e :: es) [] pos) (tCall sp [] E t) := by
  obtain ⟨f, fd, hm, hk, hb, G⟩ := F.ex
  exact pe_call G hr hg hm hk hb .nil hx ha hdb he hpl
/-- .. that raises nothing -/
theorem pe_c0 (F : Cal X.prog X.w X.K X.mg X.base CX0 k x ps sp) (hr : Room k X.A) (hg : Gl X x)
    (ha : PA X (e :: es) t) (hdb : (x == ("__debug__" : Str)) = false := by decide) (he : starEach (e :: es) X.env = (false, eval e X.env) :: starEach es X.env := by rfl) (hpl : (backTo pos (starEach es X.env)).any (·.1) = false := by rfl) :
    PE X (.Call (.Name x p) (e :: es) [] pos) (tCall sp [] E0 t) := pe_cal F hr hg pass0 ha hdb he hpl
end
/-- a def with a table of code objects of its own: its code object's address, its table's -/
structure FunT (K : PySem.W.Frag) (mg : Str → Option Value) (base : Heap) (Ps : List Addr) (x : Str) (st : Stmt) (f : Addr) (fd : FuncData) (P : Addr) : Prop where
  ex : ∃ (oc : Value) (od : Option Addr) (kV doc pm : Value) (an : Option Addr) (c : Addr) (ct : Value) (osl : Array (Option Value)),
    fd = PySem.W.fnOf x x (defArgs st) (defBody st) (defScope st) .none kV doc pm an (.ref c) ct ∧ K.lookup f = some ⟨oc, od, .func fd, osl⟩ ∧ PySem.W.codeIn K (.ref c) x = true ∧ TabB base mg c P
  mem : P ∈ Ps
  nown : ¬ Own.own P
section
variable {P : Program} {w : World} {K : PySem.W.Frag} {mg : Str → Option Value} {base : Heap}
theorem FunT.ok {Ps : List Addr} {x : Str} {st : Stmt} {f : Addr} {fd : FuncData} {T : Addr} {N ps : List Str} {k : Nat} {sp : Sp} (F : FunT K mg base Ps x st f fd T) (S : FnScope N ps (defScope st)) (len : ∀ vs H Q E, sp vs H Q E → vs.length = ps.length)
    (hbody : ∀ (c : Addr) (A : Around) (outer : List Env) (s : Shared) (H : Hp) (vs : List V) (Q : VK) (E : XK), TabB base mg c T → Room k (A.deeper (envOfC x (defScope st) s.heap.objs.size f (.ref c))) → sp vs H Q E →
      ∃ t, PSs (cxOf CX0 P w K mg base N x (defScope st) f (.ref c) A outer s H E).nox (defBody st) t ∧ t { nx := fun _ H' => Q .non H', rt := Q } (start N vs) H) : FnOk P w K mg base CX0 (k + 1) f fd ps sp := by
  obtain ⟨oc, od, kV, doc, pm, an, c, ct, osl, rfl, lk, hcd, tb⟩ := F.ex
  refine fn_of lk hcd S len fun A outer s H vs Q E hr hsp => ?_
  obtain ⟨t, h, q⟩ := hbody c A outer s H vs Q E tb hr hsp
  exact ⟨t, h.nox, q⟩
end
/-- a value is an int: isinstance by the built-in class -/
theorem isi_int {K : PySem.W.Frag} {H : Hp} (i : Int) : TyX K H (.int i) (.type "int") := .base (.int i)
end Lk

/-! ## Lam1 -/
set_option Elab.async false
set_option linter.all false
set_option maxRecDepth 100000
set_option maxHeartbeats 2000000
/-! A lambda with parameters, that captures names of the def where it is made, handed to another def and called there. -/
namespace Lk
open PySem PySem.Spec PyProof.Rows L2 LamX NdefX
variable [Own]
/-- the object at f is the lambda with the words F, the expression b -/
def LmO (f : Addr) (F : NF) (b : Expr) : HO := .ext fun h => ∃ pm ctv : Value, h.get? f = some (PySem.W.kla_obj "<lambda>" F.qual F.params b F.scope F.cl pm F.c ctv)
theorem lm_at {P : Program} {w : World} {H : Hp} {h : Heap} {f : Addr} {F : NF} {b : Expr} (hok : HOk P w H h) (e : H f = some (LmO f F b)) : ∃ pm ctv : Value, h.get? f = some (PySem.W.kla_obj "<lambda>" F.qual F.params b F.scope F.cl pm F.c ctv) := (hok f _ e).1
section
variable {X : Cx} {pins : List (Addr × Obj)} {σ : L2.St} {H : Hp} {s : Shared}
theorem lm_track {F : NF} {b : Expr} {pm ctv : Value} {t' : Nat} (I : Inv X pins σ H s) :
    Inv X pins σ (upd H s.heap.objs.size (LmO s.heap.objs.size F b)) { s with heap := s.heap.push (PySem.W.kla_obj "<lambda>" F.qual F.params b F.scope F.cl pm F.c ctv), toks := t' } := by
  have e : (s.heap.push (PySem.W.kla_obj "<lambda>" F.qual F.params b F.scope F.cl pm F.c ctv)).get? s.heap.objs.size = some (PySem.W.kla_obj "<lambda>" F.qual F.params b F.scope F.cl pm F.c ctv) := Heap.get?_push_size _ rfl
  exact I.laid (a := s.heap.objs.size) (fun a u z => Heap.get?_push_of_some _ z) (Nat.le_refl _) ⟨⟨pm, ctv, e⟩, ⟨_, e⟩, fun h1 h2 ⟨p, t, z⟩ st => ⟨p, t, st _ z⟩⟩
theorem lam_new {c P : Addr} {q : Str} {params : Arguments} {body : Expr} {scope : Scope} {pos : Pos} {E : Value → Shared → Prop} {Q : Value → Shared → Prop} (I : Inv X pins σ H s) (TB : LamX.TabB X.base X.mg c P) (hcode : X.env.code = .ref c) (hT : TabS H P q) (hq : X.env.qual ++ "<lambda>" = q)
    (hdef : defaultsOf params X.env = ([], [])) (hfree : ∀ y ∈ scope.names, y.2 = .free → ∃ c, X.env.cells.lookup y.1 = some c)
    (k : ∀ (f c' : Addr) (H2 : Hp) (s2 : Shared), Inv X pins σ H2 s2 → (∀ b o, b ≠ P → H b = some o → H2 b = some o) → TabS H2 P q → (∀ b, H2 b = none → H b = none) → H2 f = some (LmO f ⟨"<lambda>", q, params, [], scope, cloFrom X.env.cells scope.names [], c'⟩ body) → H2 c' = some (CodeO c' q) → Q (.ref f) s2) :
    wpAny (model X.prog X.w) X.A (eval (.Lambda params body scope pos) X.env) Q E s := by
  subst hq
  obtain ⟨tb, tP, tOk, tAll⟩ := hT
  refine PySem.W.kla_eval hdef ?_
  have old : s.heap.get? P = some { cls := .none, data := .fields tb } := I.hok P _ tP
  have blt : s.heap.BuiltinsAt X.mg P := TB.bm.keeps I.bk
  cases found : codeAmong pos tb.toList with
  | some cv =>
    obtain ⟨c0, rfl, c0O⟩ := tAll pos cv found
    refine PySem.W.kla_makeFunctionHit (mg := X.mg) (c := c) (P := P) (ps := tb) (closure_ok hfree) I.ok.glob (I.mod.glob.keeps I.bk) hcode (TB.code.keeps I.bk) old tOk found blt fun ctv hh tk grown hsz => ?_
    have J : Inv X pins σ H { s with heap := hh, toks := tk } := I.kept grown
    have nf : H hh.objs.size = none := J.hok.fresh (Nat.le_refl _)
    have ext : ∀ b o, H b = some o → upd H hh.objs.size (LmO hh.objs.size ⟨"<lambda>", X.env.qual ++ "<lambda>", params, [], scope, cloFrom X.env.cells scope.names [], c0⟩ body) b = some o := fun b o e => (upd_ne (ne_of_none e nf)).trans e
    refine k hh.objs.size c0 _ _ (lm_track (F := ⟨"<lambda>", X.env.qual ++ "<lambda>", params, [], scope, cloFrom X.env.cells scope.names [], c0⟩) J) (fun b o _ e => ext b o e) (TabS.ext ⟨tb, tP, tOk, tAll⟩ ext) (fun b e => upd_none e) upd_same (ext _ _ c0O)
  | none =>
    refine PySem.W.kla_makeFunction (mg := X.mg) (c := c) (P := P) (ps := tb) (closure_ok hfree) I.ok.glob (I.mod.glob.keeps I.bk) hcode (TB.code.keeps I.bk) old tOk found TB.gP blt fun c1 ctv hh tk grown hge hlt hrec htb => ?_
    obtain ⟨c2, oc, vs, t, e2, hoc, hd, hv⟩ := hrec
    cases e2
    have nC : H c1 = none := I.hok.fresh hge
    have nCP : P ≠ c1 := ne_of_none tP nC
    have J := inv_table (q := X.env.qual ++ "<lambda>") (t' := tk) (more := #[rawInt pos.line, rawInt pos.col, .ref c1]) (h' := hh) I tP (fun b o hb e => grown b o hb e) htb hge ⟨oc, vs, t, hoc, hd, hv⟩
    have nf := J.hok.fresh (Nat.le_refl hh.objs.size)
    have J2 := lm_track (F := ⟨"<lambda>", X.env.qual ++ "<lambda>", params, [], scope, cloFrom X.env.cells scope.names [], c1⟩) (b := body) (pm := (X.mg "__name__").getD .none) (ctv := ctv) (t' := tk) J
    have ext : ∀ b o, b ≠ P → H b = some o → upd (upd H P (.tbl (tb ++ #[rawInt pos.line, rawInt pos.col, .ref c1]))) c1 (CodeO c1 (X.env.qual ++ "<lambda>")) b = some o := fun b o hb e => by
      rw [upd_ne (ne_of_none e nC), upd_ne hb]
      exact e
    have e1 : upd (upd H P (.tbl (tb ++ #[rawInt pos.line, rawInt pos.col, .ref c1]))) c1 (CodeO c1 (X.env.qual ++ "<lambda>")) P = some (.tbl (tb ++ #[rawInt pos.line, rawInt pos.col, .ref c1])) := by
      rw [upd_ne nCP]
      exact upd_same
    have el : (tb ++ #[rawInt pos.line, rawInt pos.col, .ref c1]).toList = tb.toList ++ [rawInt pos.line, rawInt pos.col, .ref c1] := by simp
    have tS : TabS (upd (upd H P (.tbl (tb ++ #[rawInt pos.line, rawInt pos.col, .ref c1]))) c1 (CodeO c1 (X.env.qual ++ "<lambda>"))) P (X.env.qual ++ "<lambda>") := by
      refine ⟨_, e1, by rw [el]; exact PySem.TriplesOk_snoc _ _ _ _ tOk, fun p' cv hcv => ?_⟩
      rw [el] at hcv
      rcases among_app _ tOk hcv with z | z
      · obtain ⟨c0, a1, a2⟩ := tAll p' cv z
        exact ⟨c0, a1, ext _ _ (fun z => by rw [z, tP] at a2; cases a2) a2⟩
      · exact ⟨c1, z, upd_same⟩
    have lay := fun b o (e : upd (upd H P (.tbl (tb ++ #[rawInt pos.line, rawInt pos.col, .ref c1]))) c1 (CodeO c1 (X.env.qual ++ "<lambda>")) b = some o) => (upd_ne (o := LmO hh.objs.size ⟨"<lambda>", X.env.qual ++ "<lambda>", params, [], scope, cloFrom X.env.cells scope.names [], c1⟩ body) (ne_of_none e nf)).trans e
    exact k hh.objs.size c1 _ _ J2 (fun b o hb e => lay _ _ (ext b o hb e)) (tS.ext lay) (fun b e => upd_none (upd_none (upd_none e))) upd_same (lay _ _ upd_same)
end
/-- a lambda's reading: its table tells code objects of the one name -/
def tLam1 (P : Addr) (q : Str) (mk : Addr → NF) (b : Expr) : TE := fun _ H Q => TabS H P q ∧ ∀ (f c' : Addr) (H2 : Hp), (∀ b o, b ≠ P → H b = some o → H2 b = some o) → TabS H2 P q → (∀ b, H2 b = none → H b = none) → H2 f = some (LmO f (mk c') b) → H2 c' = some (CodeO c' q) → Q (.ref f) H2
/-- the words of a lambda -/
def lamF (q : Str) (params : Arguments) (scope : Scope) (cl : List (Str × Addr)) (c : Addr) : NF := ⟨"<lambda>", q, params, [], scope, cl, c⟩
theorem pe_lam1 {X : Cx} {c P : Addr} {q : Str} {params : Arguments} {body : Expr} {scope : Scope} {pos : Pos} (TB : LamX.TabB X.base X.mg c P) (hcode : X.env.code = .ref c) (hq : X.env.qual ++ "<lambda>" = q) (hdef : defaultsOf params X.env = ([], []))
    (hfree : ∀ y ∈ scope.names, y.2 = .free → X.env.scope.names.lookup y.1 = some .cell ∨ X.env.scope.names.lookup y.1 = some .free) :
    PE X (.Lambda params body scope pos) (tLam1 P q (lamF q params scope (cloFrom X.env.cells scope.names [])) body) := by
  refine ⟨fun pins s σ H Q I h => ?_⟩
  obtain ⟨hT, h⟩ := h
  refine lam_new I TB hcode hT hq hdef (fun y hy e => (hfree y hy e).elim (fun z => I.ok.has _ (.inl z)) fun z => I.ok.has _ (.inr z)) fun f c' H2 s2 I2 h1 h2 h3 h4 h5 => ⟨.ref f, H2, I2, rfl, h f c' H2 h1 h2 h3 h4 h5⟩
/-- the promise of a lambda that lets nothing out -/
structure LOk (P : Program) (w : World) (K : PySem.W.Frag) (mg : Str → Option Value) (base : Heap) (k : Nat) (mk : Addr → NF) (b : Expr) (ps fr : List Str) (sp : List (Option V) → List V → Hp → VK → Prop) : Prop where
  len : ∀ ws vs H Q, sp ws vs H Q → vs.length = ps.length
  run : ∀ (f c' : Addr) (A : Around) (outer : List Env) (s : Shared) (H : Hp) (us : List Value) (vs : List V) (ws : List (Option V)) (Q : VK), Room k A → Env0 P w K mg base A outer s H → H f = some (LmO f (mk c') b) → H c' = some (CodeO c' (mk c').qual) → CellsAt (mk c').cl fr ws s.heap H → Vals vs us → sp ws vs H Q →
    codeAny (model P w) A (.call (.ref f) ⟨us, []⟩) (CR CX0 outer P w H s Q E0) s
section
variable {P : Program} {w : World} {K : PySem.W.Frag} {mg : Str → Option Value} {base : Heap} {N ps fr : List Str} {q : Str} {params : Arguments} {scope : Scope} {cl : List (Str × Addr)} {b : Expr} {k : Nat} {sp : List (Option V) → List V → Hp → VK → Prop}
theorem lok_of (S : NScope N ps fr scope) (hb : ∀ (pm ctv : Value) (c' : Addr) (us : List Value), us.length = ps.length → bindArgs (PySem.W.kla_fn "<lambda>" q params b scope cl pm (.ref c') ctv) ⟨us, []⟩ = pure (ps.zip us)) (len : ∀ ws vs H Q, sp ws vs H Q → vs.length = ps.length)
    (hbody : ∀ (f c' : Addr) (A : Around) (outer : List Env) (s : Shared) (H : Hp) (vs : List V) (ws : List (Option V)) (Q : VK), Room k (A.deeper (envF (lamF q params scope cl c') f s.heap.objs.size)) → ws.length = fr.length → sp ws vs H Q →
      ∃ t, PE (ncx CX0 P w K mg base N (lamF q params scope cl c') f A outer s H E0) b t ∧ t (startF N vs ws) H Q) : LOk P w K mg base (k + 1) (lamF q params scope cl) b ps fr sp := by
  refine ⟨len, fun f c' A outer s H us vs ws Q hr e0 hf hc C r hsp => ?_⟩
  have hl := len _ _ _ _ hsp
  have lim : s.heap.NoLimit := e0.mod.nolimit.keeps fun b o e => (e0.bs b o e).1
  obtain ⟨pm, ctv, ho⟩ := lm_at e0.hok hf
  refine PySem.W.kla_callFunE hr.depth ho rfl S.co S.gen rfl (codeO_at e0.hok hc) ?_
  show wpAny _ _ (bindArgs (PySem.W.kla_fn "<lambda>" q params b scope cl pm (.ref c') ctv) ⟨us, []⟩) _ _ _
  rw [hb pm ctv c' us (by rw [← r.length]; exact hl)]
  refine wpAny_pure (wpAny_newFunctionEnv S.nocell (fun ⟨n, _⟩ hy => S.par n (List.of_mem_zip hy).1) (fun h₁ hns hsb => ⟨lim.fresh _ hsb, ?_⟩) S.kind)
  show codeAny _ _ (.expr b (envF (lamF q params scope cl c') f s.heap.objs.size)) _ _
  have kp : ∀ a o, s.heap.get? a = some o → h₁.get? a = some o := fun a o e => hsb.extBut a o (Nat.ne_of_lt (Heap.lt_size e)) (Heap.get?_push_of_some _ e)
  obtain ⟨t, ht, hq⟩ := hbody f c' A outer s H vs ws Q (hr.deeper _) C.len hsp
  have I : Inv (ncx CX0 P w K mg base N (lamF q params scope cl c') f A outer s H E0) [] (startF N vs ws) H { s with heap := h₁, toks := s.toks + (ps.zip us).length } := inv_startN S hr.hd e0 hl r C hns kp
  refine PySem.W.kla_codeExpr (wpAny_mono (ht.run [] _ (startF N vs ws) H Q I hq) (fun v s' hs => ?_) fun e s' hs => hs)
  obtain ⟨x, H', J, rv, q2⟩ := hs
  exact ⟨x, H', J.os, J.bare, J.base, J.hok, rv, q2⟩
end
/-- what cells held at a frame's entry they hold still, whosever they are -/
theorem cells_still {X : Cx} {pins : List (Addr × Obj)} {σ : L2.St} {H : Hp} {s : Shared} {cl : List (Str × Addr)} {fr : List Str} {ws : List (Option V)} (C : CellsAt cl fr ws X.s_0.heap X.H_0) (hx : X.ex = []) (I : Inv X pins σ H s) : CellsAt cl fr ws s.heap H := by
  have nx : ∀ a : Addr, a ∉ X.ex := fun a z => by rw [hx] at z; cases z
  have kp : ∀ a, X.H_0 a = none → ∀ v, X.s_0.heap.IsCell a v → s.heap.IsCell a v := fun a n v ⟨o, ho, hd⟩ => by
    obtain ⟨sl, h1⟩ := I.base.any ho n (nx a)
    exact ⟨_, h1, hd⟩
  refine ⟨C.len, fun y c e => ?_, C.inj, fun i y e => ?_⟩
  · obtain ⟨n, v, z⟩ := C.all y c e
    refine ⟨?_, v, kp c n v z⟩
    obtain ⟨o, ho, _⟩ := z
    exact I.base.free c o ho n (nx c)
  · obtain ⟨c, hc, hv⟩ := C.has i y e
    refine ⟨c, hc, fun v ev => ?_⟩
    obtain ⟨u, r, z⟩ := hv v ev
    exact ⟨u, r, kp c (C.all y c hc).1 _ z⟩
/-- a lambda called: the i-th slot holds it -/
def tActL (i : Nat) (f c' : Addr) (mk : Addr → NF) (b : Expr) (sp : List V → Hp → VK → Prop) (t : TA) : TE := fun σ H Q => σ[i]? = some (some (.ref f)) ∧ H f = some (LmO f (mk c') b) ∧ t σ H fun vs H1 => H1 f = some (LmO f (mk c') b) ∧ H1 c' = some (CodeO c' (mk c').qual) ∧ sp vs H1 Q
section
variable {Z : Cx} {k i j : Nat} {mk : Addr → NF} {b : Expr} {ps fr : List Str} {sp : List (Option V) → List V → Hp → VK → Prop} {f c' : Addr} {ws : List (Option V)} {x : Str} {p pos : Pos} {e : Expr} {es : List Expr} {t : TA}
theorem pe_actL (L : LOk Z.prog Z.w Z.K Z.mg Z.base k mk b ps fr sp) (C : CellsAt (mk c').cl fr ws Z.s_0.heap Z.H_0) (hex : Z.ex = []) (hr : Room k Z.A) (hN : Z.N[i]? = some x) (hv : Vis Z.env.scope x) (ha : PA Z (e :: es) t)
    (hd : (x == ("__debug__" : Str)) = false := by decide) (hcd : (x == ("__classdict__" : Str)) = false := by decide)
    (he : starEach (e :: es) Z.env = (false, eval e Z.env) :: starEach es Z.env := by rfl) (hpl : (backTo pos (starEach es Z.env)).any (·.1) = false := by rfl) :
    PE Z (.Call (.Name x p) (e :: es) [] pos) (tActL i f c' mk b (sp ws) t) := by
  refine ⟨fun pins s σ H Q I h => ?_⟩
  obtain ⟨hs, hf0, ht⟩ := h
  refine wpAny_Call_Name_kw (thn ((pe_var (pos := p) hN hv hd hcd).run pins s σ H (fun v H1 => v = .ref f ∧ H1 f = some (LmO f (mk c') b) ∧ t σ H1 fun vs H2 => H2 f = some (LmO f (mk c') b) ∧ H2 c' = some (CodeO c' (mk c').qual) ∧ sp ws vs H2 Q) I ⟨.ref f, hs, rfl, hf0, ht⟩) fun u s1 ⟨v, H1, I1, r1, q1⟩ => ?_)
  obtain ⟨rfl, hf1, q1⟩ := q1
  obtain rfl : u = Value.ref f := r1
  have hF : PySem.W.FnAt f s1.heap := by
    obtain ⟨pm, ctv, ho⟩ := lm_at I1.hok hf1
    exact ⟨_, _, _, _, ho⟩
  refine PySem.W.callWith_F (first := []) hF (thn (ha.run pos pins s1 σ H1 _ I1 q1) fun us s2 ⟨vs, H2, I2, r, h1, h2, q⟩ => ?_) he hpl
  obtain ⟨pm, ctv, ho⟩ := lm_at I2.hok h1
  refine ⟨⟨_, _, _, _, ho⟩, ?_⟩
  show wpAny _ _ (call (.ref f) us) _ _ _
  refine wpAny_call (codeAny_mono (L.run f c' Z.A Z.stack s2 H2 us vs ws Q hr I2.env0 h1 h2 (cells_still C hex I2) r q) fun r s' hq => ?_)
  cases r with
  | error e => exact (show False from hq).elim
  | ok fl =>
    cases fl with
    | ret u => exact I2.after hq
    | next => exact False.elim hq
    | brk => exact False.elim hq
    | cont => exact False.elim hq
/-- a def that gets a lambda as its last thing, and its promise -/
structure GOk (P : Program) (w : World) (K : PySem.W.Frag) (mg : Str → Option Value) (base : Heap) (k : Nat) (g : Addr) (fd : FuncData) (ps : List Str) (mk : Addr → NF) (b : Expr) (fr : List Str) (sp : List (Option V) → List V → Hp → VK → Prop) : Prop where
  len : ∀ ws vs H Q, sp ws vs H Q → vs.length = ps.length
  run : ∀ (A : Around) (outer : List Env) (s : Shared) (H : Hp) (us : List Value) (vs : List V) (ws : List (Option V)) (f c' : Addr) (Q : VK), Room k A → Env0 P w K mg base A outer s H → vs.getLast? = some (.ref f) → H f = some (LmO f (mk c') b) → H c' = some (CodeO c' (mk c').qual) →
    CellsAt (mk c').cl fr ws s.heap H → BindsTo s fd ⟨us, []⟩ (ps.zip us) → Vals vs us → sp ws vs H Q → codeAny (model P w) A (.call (.ref g) ⟨us, []⟩) (CR CX0 outer P w H s Q E0) s
/-- g(.., lambda ..) -/
def tCallG (mk : Addr → NF) (b : Expr) (js : List Nat) (sp : List (Option V) → List V → Hp → VK → Prop) (t : TA) : TE := fun σ H Q => t σ H fun vs H1 => ∃ f c', vs.getLast? = some (.ref f) ∧ H1 f = some (LmO f (mk c') b) ∧ H1 c' = some (CodeO c' (mk c').qual) ∧ sp (js.map (slotAt σ)) vs H1 Q
theorem pe_callG {X : Cx} {g : Addr} {fd : FuncData} {js : List Nat} {cl : List (Str × Addr)} (G : GOk X.prog X.w X.K X.mg X.base k g fd ps mk b fr sp) (hcl : ∀ c', (mk c').cl = cl) (cp : X.Ok → Caps X cl fr js) (hr : Room k X.A) (hg : Gl X x) (hm : X.mg x = some (.ref g)) (hk : PySem.W.keepIn X.K (.ref g) = true) (hb : Binds X.K fd ps [])
    (ha : PA X (e :: es) t) (hdb : (x == ("__debug__" : Str)) = false := by decide) (he : starEach (e :: es) X.env = (false, eval e X.env) :: starEach es X.env := by rfl) (hpl : (backTo pos (starEach es X.env)).any (·.1) = false := by rfl) :
    PE X (.Call (.Name x p) (e :: es) [] pos) (tCallG mk b js sp t) := by
  refine ⟨fun pins s σ H Q I h => ?_⟩
  refine wpAny_Call_Name_kw (ld_glob I hg hm ?_ hdb)
  refine PySem.W.callWith_K (h₀ := X.base) I.ok.mod.kin hk (thn (ha.run pos pins s σ H _ I h) fun us s2 ⟨vs, H2, I2, r, f, c', h0, h1, h2, q⟩ => ⟨I2.kIn, ?_⟩) he hpl
  show wpAny _ _ (call (.ref g) us) _ _ _
  have hl : us.length = ps.length := by rw [← r.length]; exact G.len _ _ _ _ q
  have bd := hb s2 us I2.kIn (by rw [List.append_nil]; exact hl)
  rw [List.append_nil] at bd
  refine wpAny_call (codeAny_mono (G.run X.A X.stack s2 H2 us vs _ f c' Q hr I2.env0 h0 h1 h2 (by rw [hcl c']; exact cells_of I2 (cp I2.ok)) bd r q) fun r s' hq => ?_)
  cases r with
  | error e => exact (show False from hq).elim
  | ok fl =>
    cases fl with
    | ret u => exact I2.after hq
    | next => exact False.elim hq
    | brk => exact False.elim hq
    | cont => exact False.elim hq
/-- such a def by its body -/
theorem gok_of {P : Program} {w : World} {K : PySem.W.Frag} {mg : Str → Option Value} {base : Heap} {x : Str} {st : Stmt} {g : Addr} {fd : FuncData} {N : List Str} (F : Fun K x x st g fd) (S : FnScope N ps (defScope st)) (len : ∀ ws vs H Q, sp ws vs H Q → vs.length = ps.length)
    (hbody : ∀ (cdv : Value) (A : Around) (outer : List Env) (s : Shared) (H : Hp) (vs : List V) (ws : List (Option V)) (f c' : Addr) (Q : VK), Room k (A.deeper (envOfC x (defScope st) s.heap.objs.size g cdv)) → vs.getLast? = some (.ref f) → H f = some (LmO f (mk c') b) → H c' = some (CodeO c' (mk c').qual) → CellsAt (mk c').cl fr ws s.heap H → sp ws vs H Q →
      ∃ t, PSs (cxOf CX0 P w K mg base N x (defScope st) g cdv A outer s H E0).nox (defBody st) t ∧ t { nx := fun _ H' => Q .non H', rt := Q } (start N vs) H) : GOk P w K mg base (k + 1) g fd ps mk b fr sp := by
  obtain ⟨oc, od, kV, doc, pm, an, cdv, ct, osl, rfl, lk, hcd⟩ := F.ex
  refine ⟨len, fun A outer s H us vs ws f c' Q hr e0 h0 h1 h2 C bd r q => ?_⟩
  refine run_ofS (N := N) lk hcd S hr e0 bd r (len _ _ _ _ q) fun hr' => ?_
  obtain ⟨t, h3, h4⟩ := hbody cdv A outer s H vs ws f c' Q hr' h0 h1 h2 C q
  exact ⟨t, h3.nox, h4⟩
end
end Lk

/-! ## Top -/
set_option Elab.async false
set_option maxRecDepth 100000
namespace Lk
open PySem
/-- the i-th statement of the program -/
def top (i : Nat) : Stmt := PySem.Challenge.pw_likespite_k66_whole_exchanges.main.body.getD i (.Pass ⟨0, 0, 0, 0⟩)
end Lk

/-! ## D01 -/
set_option Elab.async false
set_option linter.all false
set_option maxRecDepth 100000
set_option maxHeartbeats 2000000
namespace Lk
open PySem PySem.Spec PyProof.Rows L2 Gx
open GxR (TabG Tabbed TabB)
variable [Own]
abbrev sIsWhole : Stmt := top 17
def isWhole (i lo hi : Int) : Bool := decide (lo ≤ i) && decide (i ≤ hi)
def spIsWhole : Sp := fun vs H Q _ => ∃ i lo hi : Int, vs = [.int i, .int lo, .int hi] ∧ Q (.bl (isWhole i lo hi)) H
section
variable {P : Program} {w : World} {K : PySem.W.Frag} {mg : Str → Option Value} {base : Heap}
theorem scIsWhole : FnScope ["value", "least", "most"] ["value", "least", "most"] (defScope sIsWhole) := ⟨rfl, rfl, rfl, by decide +kernel, rfl, by decide +kernel, by decide +kernel⟩
theorem boot_isinstance : bootBuiltins "isinstance" = some (.builtin "isinstance") := by decide +kernel
theorem boot_tyInt : bootBuiltins "int" = some (.type "int") := by decide +kernel
theorem boot_tyBool : bootBuiltins "bool" = some (.type "bool") := by decide +kernel
theorem ok_is_whole {f : Addr} {fd : FuncData} (F : Fun K "is_whole" "is_whole" sIsWhole f fd) (ni : mg "isinstance" = none) (nI : mg "int" = none) (nB : mg "bool" = none) : FnOk P w K mg base CX0 1 f fd ["value", "least", "most"] spIsWhole := by
  refine F.ok scIsWhole (fun vs H Q E h => ?_) (fun cdv A outer s H vs Q E hr h => ?_)
  · obtain ⟨i, lo, hi, rfl, _⟩ := h
    rfl
  · obtain ⟨i, lo, hi, rfl, k⟩ := h
    refine ⟨_, pss_one (ps_ret (pe_and (pe_callB call_isi (by rfl) ni boot_isinstance (pa_cons (pv 0) (pa_cons (pe_bltn (v := .ty "int") (by rfl) nI boot_tyInt rfl) pa_nil)))
      (pe_and (pe_not (pe_callB call_isi (by rfl) ni boot_isinstance (pa_cons (pv 0) (pa_cons (pe_bltn (v := .ty "bool") (by rfl) nB boot_tyBool rfl) pa_nil))))
      (pe_one (pe_chain op_le op_le (pv 1) (pv 0) (pv 2)))))), ?_⟩
    refine ⟨_, rfl, _, _, _, _, true, rfl, .ty "int", isi_int i, kit_ty (by decide +kernel), _, rfl, iteT ?_⟩
    refine ⟨_, rfl, _, _, _, _, false, rfl, .ty "bool", isi_int i, kit_ty (by decide +kernel), _, rfl, _, rfl, iteT ?_⟩
    refine ⟨_, rfl, _, rfl, _, _, rfl, rfl, _, rfl, ?_⟩
    unfold isWhole at k
    by_cases h : lo ≤ i
    · rw [decide_eq_true h, Bool.true_and] at k
      rw [decide_eq_true h]
      refine iteT ?_
      refine ⟨_, rfl, _, _, rfl, rfl, ?_⟩
      exact k
    · rw [decide_eq_false h, Bool.false_and] at k
      rw [decide_eq_false h]
      exact iteF k
end
end Lk

/-! ## D02 -/
set_option Elab.async false
set_option linter.all false
set_option maxRecDepth 100000
set_option maxHeartbeats 2000000
namespace Lk
open PySem PySem.Spec PyProof.Rows L2 Gx
open GxR (TabG Tabbed TabB)
variable [Own]
theorem iteTF {A B : Prop} (h : B) : if true = false then A else B := by
  rw [if_neg (by decide)]
  exact h
theorem iteFF {A B : Prop} (h : A) : if false = false then A else B := by
  rw [if_pos rfl]
  exact h
theorem ite_of {c : Bool} {A B : Prop} (h1 : c = true → A) (h2 : c = false → B) : if c = true then A else B := by
  cases c with
  | true => exact iteT (h1 rfl)
  | false => exact iteF (h2 rfl)
theorem iteb {c : Bool} {A B : Prop} (hc : c = true) (h : A) : if c = true then A else B := by rw [hc]; exact iteT h
theorem itebf {c : Bool} {A B : Prop} (hc : c = false) (h : B) : if c = true then A else B := by rw [hc]; exact iteF h
theorem yes {σ : L2.St} {H : Hp} {A B : Hp → Prop} (h : A H) : tYes σ H fun b H' => if b = true then A H' else B H' := by
  show if true = true then A H else B H
  exact iteT h
theorem boot_tyTuple : bootBuiltins "tuple" = some (.type "tuple") := by decide +kernel
theorem boot_tyList : bootBuiltins "list" = some (.type "list") := by decide +kernel
theorem boot_tyStr : bootBuiltins "str" = some (.type "str") := by decide +kernel
theorem boot_set : bootBuiltins "set" = some (.type "set") := by decide +kernel
theorem boot_max : bootBuiltins "max" = some (.builtin "max") := by decide +kernel
theorem boot_sorted : bootBuiltins "sorted" = some (.builtin "sorted") := by decide +kernel
theorem isi_tup {K : PySem.W.Frag} {H : Hp} {a : Addr} {xs : List V} (h : H a = some (.tup xs)) : TyX K H (.ref a) (.type "tuple") := .base (.tup h)
/-- a written number of the module -/
def Num (mg : Str → Option Value) (x : Str) (n : Int) : Prop := ∃ t, mg x = some (.int n t)
theorem pe_num {X : Cx} {x : Str} {n : Int} {pos : Pos} (h : Num X.mg x n) (hg : Gl X x) (hd : (x == ("__debug__" : Str)) = false := by decide) : PE X (.Name x pos) (tC (.int n)) := by
  obtain ⟨t, h⟩ := h
  exact pe_glob hg h ⟨t, rfl⟩ hd
/-- the names of the built-ins that the module has not made its own -/
structure Blt (mg : Str → Option Value) : Prop where
  isi : mg "isinstance" = none
  int : mg "int" = none
  bool : mg "bool" = none
  tuple : mg "tuple" = none
  list : mg "list" = none
  set : mg "set" = none
  len : mg "len" = none
  all : mg "all" = none
  range : mg "range" = none
  sorted : mg "sorted" = none
  enum : mg "enumerate" = none
  zip : mg "zip" = none
  max : mg "max" = none
  str : mg "str" = none
  sup : mg "super" = none
structure Nums (mg : Str → Option Value) : Prop where
  MOST_FOLK : Num mg "MOST_FOLK" 6
  MOST_TOP : Num mg "MOST_TOP" 3
  MOST_LOOKS : Num mg "MOST_LOOKS" 14
  MOST_LOOKS_OF_ONE : Num mg "MOST_LOOKS_OF_ONE" 4
end Lk


/-! ## Dat -/
set_option Elab.async false
set_option linter.all false
set_option maxRecDepth 100000
set_option maxHeartbeats 2000000
/-! Tuples and lists of ints as data: when two are equal. -/
namespace Lk
open PySem PySem.Spec PyProof.Rows L2 Gx
variable [Own]
abbrev dI (ns : List Int) : PyData := .tuple (ns.map .int)
theorem eqv_ii (a b : Int) : PyData.eqv (.int a) (.int b) = decide (a = b) := by
  simp only [PyData.eqv]
  first | rfl | exact Bool.beq_eq_decide_eq .. | (by_cases h : a = b <;> simp [h])
theorem eqvAll_ints : ∀ a b : List Int, PyData.eqvAll (a.map .int) (b.map .int) = decide (a = b)
  | [], [] => by simp [PyData.eqvAll]
  | [], _ :: _ => by simp [PyData.eqvAll]
  | _ :: _, [] => by simp [PyData.eqvAll]
  | x :: xs, y :: ys => by
    rw [List.map_cons, List.map_cons]
    simp only [PyData.eqvAll]
    rw [eqv_ii, eqvAll_ints xs ys]
    by_cases h1 : x = y <;> by_cases h2 : xs = ys <;> simp [h1, h2]
theorem eqv_tt (a b : List Int) : PyData.eqv (dI a) (dI b) = decide (a = b) := by
  show PyData.eqv (.tuple _) (.tuple _) = _
  simp only [PyData.eqv]
  exact eqvAll_ints a b
theorem eqvAll_rows : ∀ a b : List (List Int), PyData.eqvAll (a.map dI) (b.map dI) = decide (a = b)
  | [], [] => by simp [PyData.eqvAll]
  | [], _ :: _ => by simp [PyData.eqvAll]
  | _ :: _, [] => by simp [PyData.eqvAll]
  | x :: xs, y :: ys => by
    rw [List.map_cons, List.map_cons]
    simp only [PyData.eqvAll]
    rw [eqv_tt, eqvAll_rows xs ys]
    by_cases h1 : x = y <;> by_cases h2 : xs = ys <;> simp [h1, h2]
theorem eqv_ll (a b : List (List Int)) : PyData.eqv (.list (a.map dI)) (.list (b.map dI)) = decide (a = b) := by
  simp only [PyData.eqv]
  exact eqvAll_rows a b
theorem canLay_ints : ∀ a : List Int, PyData.canLayAll0 (a.map .int) = true
  | [] => by simp [PyData.canLayAll0]
  | x :: xs => by
    rw [List.map_cons]
    simp only [PyData.canLayAll0, PyData.canLay0, canLay_ints xs, Bool.and_self]
theorem canLay_rows : ∀ a : List (List Int), PyData.canLayAll0 (a.map dI) = true
  | [] => by simp [PyData.canLayAll0]
  | x :: xs => by
    rw [List.map_cons]
    simp only [PyData.canLayAll0, PyData.canLay0, canLay_ints x, canLay_rows xs, Bool.and_self]
theorem depth_ints : ∀ a : List Int, PyData.depthAll (a.map .int) = 0
  | [] => by simp [PyData.depthAll]
  | x :: xs => by
    rw [List.map_cons]
    simp only [PyData.depthAll, PyData.depth, depth_ints xs, Nat.max_self]
theorem depth_rows : ∀ a : List (List Int), PyData.depthAll (a.map dI) ≤ 1
  | [] => by simp [PyData.depthAll]
  | x :: xs => by
    rw [List.map_cons]
    have h := depth_rows xs
    simp only [PyData.depthAll, PyData.depth, depth_ints x]
    omega
theorem shaped_t (a : List Int) : SeqAt.shaped (dI a) = true := by
  unfold SeqAt.shaped
  simp only [PyData.canLay0, canLay_ints a, PyData.depth, depth_ints a, Bool.true_and]
  decide
theorem shaped_l (a : List (List Int)) : SeqAt.shaped (.list (a.map dI)) = true := by
  unfold SeqAt.shaped
  have h := depth_rows a
  simp only [PyData.canLay0, canLay_rows a, PyData.depth, Bool.true_and]
  exact decide_eq_true (by omega)
theorem shaped_tl (a : List (List Int)) : SeqAt.shaped (.tuple (a.map dI)) = true := by
  unfold SeqAt.shaped
  have h := depth_rows a
  simp only [PyData.canLay0, canLay_rows a, PyData.depth, Bool.true_and]
  exact decide_eq_true (by omega)
section
variable {K : PySem.W.Frag} {H : Hp}
theorem dpAll_ints : ∀ ns : List Int, DpAll K H (iv ns) (ns.map .int)
  | [] => .nil
  | n :: ns => .cons (.int n) (dpAll_ints ns)
theorem TI.dp {v : V} {ns : List Int} (h : TI H v ns) : Dp K H v (dI ns) := by
  obtain ⟨a, rfl, h⟩ := h
  exact .tup (SqT.of h) (dpAll_ints ns)
theorem pTI.dp : ∀ {vs : List V} {rows : List (List Int)}, Paired (TI H) vs rows → DpAll K H vs (rows.map dI)
  | _, _, .nil => .nil
  | _, _, .cons r t => .cons r.dp (pTI.dp t)
theorem LT2.dp {v : V} {rows : List (List Int)} (h : LT2 H v rows) : Dp K H v (.list (rows.map dI)) := by
  obtain ⟨a, vs, rfl, h, p⟩ := h
  exact .lst (SqL.of h) (pTI.dp p)
theorem TT2.dp {v : V} {rows : List (List Int)} (h : TT2 H v rows) : Dp K H v (.tuple (rows.map dI)) := by
  obtain ⟨a, vs, rfl, h, p⟩ := h
  exact .tup (SqT.of h) (pTI.dp p)
end
end Lk

/-! ## LkT -/
set_option Elab.async false
set_option linter.all false
set_option maxRecDepth 100000
set_option maxHeartbeats 2000000
/-! Rules over what is tracked alone (no word of the written part): for comprehensions and generators, too. -/
namespace Lk
open PySem PySem.Spec PyProof.Rows L2 Gx
variable [Own]
section
variable {X : Cx} {pos : Pos}
def gTupT (n : Nat) (t : TGs) : TG := fun v σ H Q => ∃ a xs, v = .ref a ∧ H a = some (.tup xs) ∧ xs.length = n ∧ t xs σ H Q
theorem pg_tupT {es : List Expr} {k : Nat} {t : TGs} {n : Nat} (hc : X.calm = true) (h : PGs X es t)
    (hn : (assignEach es X.env).length = n := by rfl) (hst : (assignEach es X.env).findIdx? (·.1) = none := by rfl) : PG X (.Tuple es k pos) (gTupT n t) := by
  refine ⟨fun pins s σ H v u Q I r hw => ?_⟩
  obtain ⟨a, xs, e1, hq, hl, hw⟩ := hw
  exact (pg_tup hc h hn hst).run pins s σ H v u Q I r ⟨a, xs, e1, SqT.of hq, hl, hw⟩
/-- t[i], of a tuple; xs[i], of a list -/
def rIxTT : R2 := fun x y H Q => ∃ p xs i v, x = .ref p ∧ y = .int i ∧ H p = some (.tup xs) ∧ atI xs i = some v ∧ Q v H
def rIxLT : R2 := fun x y H Q => ∃ p xs i v, x = .ref p ∧ y = .int i ∧ H p = some (.lst xs) ∧ atI xs i = some v ∧ Q v H
theorem ix_tT : IxR X rIxTT := by
  intro value slice pins s σ H x y v u Q I rx ry h hs
  obtain ⟨p, xs, i, z, e1, e2, hq, he, q⟩ := h
  exact ix_tup value slice pins s σ H x y v u Q I rx ry ⟨p, xs, i, z, e1, e2, SqT.of hq, he, q⟩ hs
theorem ix_lT : IxR X rIxLT := by
  intro value slice pins s σ H x y v u Q I rx ry h hs
  obtain ⟨p, xs, i, z, e1, e2, hq, he, q⟩ := h
  exact ix_list value slice pins s σ H x y v u Q I rx ry ⟨p, xs, i, z, e1, e2, SqL.of hq, he, q⟩ hs
/-- len of a tuple or a list -/
def rLenT : List V → Hp → VK → Prop := fun xs H Q => ∃ p ys, xs = [.ref p] ∧ (H p = some (.lst ys) ∨ H p = some (.tup ys)) ∧ Q (.int ys.length) H
theorem call_lenT : CallR X (.builtin "len") rLenT := by
  intro pins s σ H xs us Q I r h
  obtain ⟨p, ys, e, hq, q⟩ := h
  exact call_len_seq pins s σ H xs us Q I r ⟨p, ys, e, hq.imp SqL.of SqT.of, q⟩
/-- tuple + tuple -/
def rCatT : R2 := fun x y H Q => ∃ a b xs ys, x = .ref a ∧ y = .ref b ∧ H a = some (.tup xs) ∧ H b = some (.tup ys) ∧ xs.length + ys.length ≤ sizeLine ∧
  (xs = [] → Q (.ref b) H) ∧ (xs ≠ [] → ys = [] → Q (.ref a) H) ∧ (xs ≠ [] → ys ≠ [] → ∀ p, H p = none → Q (.ref p) (upd H p (.tup (xs ++ ys))))
theorem op_catTT : OpR X (binaryOp .Add) rCatT := by
  intro pins s σ H x y v u Q I rx ry h
  obtain ⟨a, b, xs, ys, e1, e2, h1, h2, q⟩ := h
  exact op_catA pins s σ H x y v u Q I rx ry ⟨a, b, xs, ys, e1, e2, SqT.of h1, SqT.of h2, q⟩
/-- tuple(list) -/
def kTupL : V → Hp → VK → Prop := fun x H Q => ∃ p xs, x = .ref p ∧ H p = some (.lst xs) ∧ ∀ q, H q = none → Q (.ref q) (upd H q (.tup xs))
def tTupleL (ta : TE) : TE := fun σ H Q => ta σ H fun x H1 => kTupL x H1 Q
theorem pe_tupleL {p : Pos} {a : Expr} {ta : TE} (hg : Gl X "tuple") (hm : X.mg "tuple" = none) (ha : PE X a ta) (hs : starEach [a] X.env = (false, eval a X.env) :: starEach [] X.env := by rfl) : PE X (.Call (.Name "tuple" p) [a] [] pos) (tTupleL ta) := by
  refine ⟨fun pins s σ H Q I h => ?_⟩
  exact Call_ (ld_blt I hg hm boot_tuple (PyProof.Rows.callWith_type1 (one_arg ha I h (fun v s2 x H2 I2 r q => by
    obtain ⟨p, xs, e, hp, q⟩ := q
    exact rl_tuple pins s2 σ H2 x v Q I2 r (.inl ⟨p, xs, e, SqL.of hp, q⟩)) hs) hs))
/-- two tuples of ints, two lists or tuples of such -/
def rEqTI : R2 := fun x y H Q => ∃ a b : List Int, TI H x a ∧ TI H y b ∧ Q (.bl (decide (a = b))) H
def rNeTI : R2 := fun x y H Q => ∃ a b : List Int, TI H x a ∧ TI H y b ∧ Q (.bl (!decide (a = b))) H
theorem op_eqTI (hu : X.A.units + 64 < cLine) : OpR X (compareOp .Eq) rEqTI := by
  intro pins s σ H x y v u Q I rx ry h
  obtain ⟨a, b, h1, h2, q⟩ := h
  exact op_eqD hu pins s σ H x y v u Q I rx ry ⟨_, _, h1.dp, h2.dp, shaped_t a, shaped_t b, by rw [eqv_tt]; exact q⟩
theorem op_neTI (hu : X.A.units + 64 < cLine) : OpR X (compareOp .NotEq) rNeTI := by
  intro pins s σ H x y v u Q I rx ry h
  obtain ⟨a, b, h1, h2, q⟩ := h
  exact op_neD hu pins s σ H x y v u Q I rx ry ⟨_, _, h1.dp, h2.dp, shaped_t a, shaped_t b, by rw [eqv_tt]; exact q⟩
def rNeLT2 : R2 := fun x y H Q => ∃ a b : List (List Int), LT2 H x a ∧ LT2 H y b ∧ Q (.bl (!decide (a = b))) H
theorem op_neLT2 (hu : X.A.units + 64 < cLine) : OpR X (compareOp .NotEq) rNeLT2 := by
  intro pins s σ H x y v u Q I rx ry h
  obtain ⟨a, b, h1, h2, q⟩ := h
  exact op_neD hu pins s σ H x y v u Q I rx ry ⟨_, _, h1.dp, h2.dp, shaped_l a, shaped_l b, by rw [eqv_ll]; exact q⟩
/-- state in a list of such -/
def rInTI : R2 := fun x y H Q => ∃ (a : List Int) (b : List (List Int)), TI H x a ∧ LT2 H y b ∧ Q (.bl (decide (a ∈ b))) H
theorem any_rows (a : List Int) : ∀ b : List (List Int), ((b.map dI).any fun z => PyData.eqv z (dI a)) = decide (a ∈ b)
  | [] => by simp
  | x :: xs => by
    rw [List.map_cons, List.any_cons, eqv_tt, any_rows a xs]
    by_cases h : x = a
    · simp [h]
    · have : ¬ a = x := fun z => h z.symm
      simp [h, this]
theorem op_inTI (hu : X.A.units + 65 < cLine) : OpR X (compareOp .In) rInTI := by
  intro pins s σ H x y v u Q I rx ry h
  obtain ⟨a, b, h1, h2, q⟩ := h
  exact op_inD hu pins s σ H x y v u Q I rx ry ⟨_, _, h1.dp, h2.dp, shaped_t a, shaped_l b, by rw [any_rows]; exact q⟩
/-- rows.index(row) -/
def rIndexTI : V → List V → Hp → VK → Prop := fun x xs H Q => ∃ (y : V) (a : List Int) (b : List (List Int)) (j : Nat), xs = [y] ∧ TI H y a ∧ LT2 H x b ∧ b[j]? = some a ∧ (∀ m, m < j → b[m]? ≠ some a) ∧ Q (.int (j : Nat)) H
theorem mt_indexTI (hu : X.A.units + 65 < cLine) : MtR X "list.index" rIndexTI := by
  intro pins s σ H x xs v us Q I rx ry h
  obtain ⟨y, a, b, j, e, h1, h2, hj, hm, q⟩ := h
  obtain ⟨p, vs, e2, h3, h4⟩ := id h2
  refine mt_indexD hu pins s σ H x xs v us Q I rx ry ⟨p, y, dI a, b.map dI, j, dI a, e2, e, by rw [← e2]; exact h2.dp, h1.dp, shaped_l b, shaped_t a, by rw [List.getElem?_map, hj]; rfl, by rw [eqv_tt]; simp, fun m z' hlt hz => ?_, q⟩
  rw [List.getElem?_map] at hz
  cases e3 : b[m]? with
  | none => rw [e3] at hz; cases hz
  | some r =>
    rw [e3] at hz
    cases hz
    rw [eqv_tt]
    refine decide_eq_false fun z => hm m hlt ?_
    rw [e3, z]
end
end Lk
namespace Lk
open PySem PySem.Spec PyProof.Rows L2 Gx
variable [Own]
/-- quant_it where the answer is a test's -/
theorem quant_test {want : Bool} {J : It} {n : Nat} {G : Hp → Prop} {Y : Nat → Hp → V → Hp → Prop} (w : Walk J n G Y) {g : TG} {tt : TT} {te : TE} {vs : List Nat} {σ : L2.St} {H2 : Hp} {R : Bool → Hp → Prop} (Pv : Nat → Hp → Prop) (h0 : Pv 0 H2) (hG : ∀ i H, i ≤ n → Pv i H → G H)
    (hs : ∀ i x H H', i < n → Pv i H → Y i H x H' → g x (wipe σ vs) H' fun σ2 H3 => wipe σ2 vs = wipe σ vs ∧ tt σ2 H3 fun b H4 => if b = true then te σ2 H4 fun y H5 => ∃ c, y = .bl c ∧ if c = want then (∃ d, V.bl want = .bl d ∧ R d H5) else Pv (i + 1) H5 else Pv (i + 1) H4)
    (hd : ∀ H, Pv n H → R (!want) H) :
    ∃ W : Nat → Nat → Hp → Prop, (∃ m, W 0 m H2) ∧ ∀ i m H, W i m H →
      (J.stop i H ∧ ∃ d, V.bl (!want) = .bl d ∧ R d H) ∨ (J.go i H ∧ 0 < m ∧ ∃ Nx : Hp → Prop, (∀ H', Nx H' → ∃ m', m' < m ∧ W (i + 1) m' H') ∧ ∀ x H', J.yld i H x H' → g x (wipe σ vs) H' fun σ2 H3 => wipe σ2 vs = wipe σ vs ∧ tt σ2 H3 fun b H4 =>
        if b = true then te σ2 H4 fun y H5 => ∃ c, y = .bl c ∧ if c = want then (∃ d, V.bl want = .bl d ∧ R d H5) else Nx H5 else Nx H4) :=
  quant_it (Q := fun x H => ∃ d, x = .bl d ∧ R d H) w Pv h0 hG hs fun H p => ⟨_, rfl, hd H p⟩
end Lk
namespace Lk
open PySem PySem.Spec PyProof.Rows L2 Gx
variable [Own]
section
variable {X : Cx}
/-- a list's method, called: the list is tracked -/
def tBML (r : V → List V → Hp → VK → Prop) (to : TE) (t : TA) : TE := fun σ H Q => to σ H fun x H1 => (∃ p xs, x = .ref p ∧ H1 p = some (.lst xs)) ∧ t σ H1 fun vs H2 => r x vs H2 Q
variable {o e : Expr} {es : List Expr} {to : TE} {t : TA} {name : Str} {apos cpos : Pos} {id : String} {r : V → List V → Hp → VK → Prop}
theorem pe_bmL (pa : PlainAttrs "list") (slot : Slot "list" name id) (hty : typeOf (.builtin id) = pure (.type "method_descriptor")) (hm : MtR X id r) (ho : PE X o to) (ha : PA X (e :: es) t)
    (hbase : attributeBase o name X.env (eval o X.env) = eval o X.env := by rfl)
    (hfew : ((backTo cpos (starEach (e :: es) X.env)).all (fun x => !x.1) && (backToKw cpos (keywordEach [] X.env)).all (fun x => x.1.isSome)
      && decide ((e :: es).length + ([] : List Keyword).length + (if ([] : List Keyword).isEmpty then 0 else 1) < 30)) = true := by rfl)
    (hline : (apos.endLine == cpos.line) = true := by rfl) (hs : starEach (e :: es) X.env = (false, eval e X.env) :: starEach es X.env := by rfl) (hplain : (backTo cpos (starEach es X.env)).any (·.1) = false := by rfl) :
    PE X (.Call (.Attribute o name apos) (e :: es) [] cpos) (tBML r to t) := by
  refine ⟨fun pins s σ H Q I h => ?_⟩
  refine wpAny_Call_method_late hbase hfew hline rfl (thn (ho.run pins s σ H _ I h) fun v s1 ⟨x, H1, I1, r1, ⟨p, xs, ex, hp⟩, q1⟩ => ?_)
  obtain ⟨h1, h2⟩ := tyV_is (T := "list") I1 r1 (by rw [ex]; exact .inl ⟨rfl, _, SqL.of hp⟩)
  refine ⟨"list", id, pa, slot, hty, h1, h2, ?_⟩
  have hA := ha.run cpos pins s1 σ H1 _ I1 q1
  rw [hs] at hA ⊢
  refine Calls.callWith_builtin (by show (false || (backTo cpos (starEach es X.env)).any (·.1)) = false; rw [hplain] <;> rfl) (Calls.evalArgs_plain ?_)
  exact thn hA fun us s2 ⟨vs, H2, I2, r2, q2⟩ => hm pins s2 σ H2 x vs v us Q I2 r1 r2 q2
def rCntL : V → List V → Hp → VK → Prop := fun x xs H Q => ∃ (p : Addr) (ns : List Int) (k : Int), x = .ref p ∧ xs = [.int k] ∧ H p = some (.lst (iv ns)) ∧ Q (.int (ns.count k : Nat)) H
theorem mt_cntL : MtR X "list.count" rCntL := by
  intro pins s σ H x xs v us Q I rx ry h
  obtain ⟨p, ns, k, e1, e2, h1, q⟩ := h
  exact mt_lcount pins s σ H x xs v us Q I rx ry ⟨p, ns, k, e1, e2, SqL.of h1, q⟩
end
/-- a range's turns -/
theorem rng_len {i : Nat} {H : Hp} {x : V} {H' : Hp} (y : YFn (fun i => V.int (0 + (i : Int))) i H x H') : H' = H ∧ x = .int (i : Int) := by
  obtain ⟨e, ex⟩ := y
  exact ⟨e, ex.trans (by show V.int (0 + ((i : Nat) : Int)) = _; rw [Int.zero_add])⟩
/-- two ascending lists of the same things -/
theorem asc_eq {α : Type} {f : α → Int} : ∀ {l m : List α}, l.Pairwise (fun x y => f x < f y) → m.Pairwise (fun x y => f x < f y) → (∀ x, x ∈ l ↔ x ∈ m) → l = m
  | [], [], _, _, _ => rfl
  | [], b :: m, _, _, h => by have := (h b).mpr (List.mem_cons_self ..); simp at this
  | a :: l, [], _, _, h => by have := (h a).mp (List.mem_cons_self ..); simp at this
  | a :: l, b :: m, hl, hm, h => by
    obtain ⟨hl1, hl2⟩ := List.pairwise_cons.mp hl
    obtain ⟨hm1, hm2⟩ := List.pairwise_cons.mp hm
    have hab : a = b := by
      rcases List.mem_cons.mp ((h a).mp (List.mem_cons_self ..)) with e | ha
      · exact e
      · rcases List.mem_cons.mp ((h b).mpr (List.mem_cons_self ..)) with e | hb
        · exact e.symm
        · have := hm1 a ha
          have := hl1 b hb
          omega
    subst hab
    congr 1
    refine asc_eq hl2 hm2 fun x => ⟨fun hx => ?_, fun hx => ?_⟩
    · rcases List.mem_cons.mp ((h x).mp (List.mem_cons_of_mem _ hx)) with e | h1
      · have := hl1 x hx
        rw [e] at this
        omega
      · exact h1
    · rcases List.mem_cons.mp ((h x).mpr (List.mem_cons_of_mem _ hx)) with e | h1
      · have := hm1 x hx
        rw [e] at this
        omega
      · exact h1
/-- addresses and rows -/
theorem paired_ks {H : Hp} : ∀ {vs : List V} {rows : List (List Int)}, Paired (TI H) vs rows → ∃ ks : List (Addr × List Int), vs = ks.map (fun p => V.ref p.1) ∧ rows = ks.map (·.2) ∧ ∀ p ∈ ks, H p.1 = some (.tup (iv p.2))
  | _, _, .nil => ⟨[], rfl, rfl, fun p h => by simp at h⟩
  | v :: vs, r :: rows, .cons ⟨a, e, h⟩ t => by
    obtain ⟨ks, e1, e2, e3⟩ := paired_ks t
    subst e e1 e2
    refine ⟨(a, r) :: ks, rfl, rfl, fun p hp => ?_⟩
    rcases List.mem_cons.mp hp with e | hp
    · rw [e]; exact h
    · exact e3 p hp
theorem ks_paired {H : Hp} : ∀ {ks : List (Addr × List Int)}, (∀ p ∈ ks, H p.1 = some (.tup (iv p.2))) → Paired (TI H) (ks.map fun p => V.ref p.1) (ks.map (·.2))
  | [], _ => .nil
  | k :: ks, h => .cons ⟨k.1, rfl, h k (List.mem_cons_self ..)⟩ (ks_paired fun p hp => h p (List.mem_cons_of_mem _ hp))
end Lk

/-! ## D02b -/
set_option Elab.async false
set_option linter.all false
set_option maxRecDepth 100000
set_option maxHeartbeats 2000000
namespace Lk
open PySem PySem.Spec PyProof.Rows L2 Gx
open GxR (TabG Tabbed TabB)
variable [Own]
abbrev s_are_tops : Stmt := top 18
theorem sc_are_tops : FnScope ["value", "top"] ["value"] (defScope s_are_tops) := ⟨rfl, rfl, rfl, by decide +kernel, rfl, by decide +kernel, by decide +kernel⟩
def spAreTops (Ps : List Addr) : Sp := fun vs H Q _ => ∃ (v : V) (tops : List Int), vs = [v] ∧ TI H v tops ∧ (1 ≤ tops.length ∧ tops.length ≤ 6) ∧ (∀ t ∈ tops, 1 ≤ t ∧ t ≤ 3) ∧ Tabs Ps H ∧ ∀ H', Ext H H' → Q (.bl true) H'
section
variable {P : Program} {w : World} {K : PySem.W.Frag} {mg : Str → Option Value} {base : Heap} {Ps : List Addr}
theorem ok_are_tops {f T : Addr} {fd : FuncData} (F : FunT K mg base Ps "are_tops" s_are_tops f fd T) (B : Blt mg) (M : Nums mg)
    (c_is_whole : Cal P w K mg base CX0 1 "is_whole" ["value", "least", "most"] spIsWhole) : FnOk P w K mg base CX0 3 f fd ["value"] (spAreTops Ps) := by
  refine F.ok sc_are_tops (fun vs H Q E h => ?_) (fun c A outer s H vs Q E TB hr h => ?_)
  · obtain ⟨v, tops, rfl, _⟩ := h
    rfl
  · obtain ⟨v, tops, rfl, ⟨a, rfl, ha⟩, ⟨h1, h6⟩, hT, hTb, k⟩ := h
    refine ⟨_, (pss_cons (ps_if (PW.pt (pw_or (pt_not (pt_val (pe_callB call_isi (by rfl) B.isi boot_isinstance (pa_cons (pv 0) (pa_cons (pe_bltn (v := .ty "tuple") (by rfl) B.tuple boot_tyTuple rfl) pa_nil))))) (pw_or1 (pt_not (pt_chain op_le op_le pe_int (pe_callB call_lenT (by rfl) B.len PySem.boot_len (pa_cons (pv 0) pa_nil)) (pe_num M.MOST_FOLK (by rfl)))))))
        (pss_one (ps_ret pe_bl)) pss_nil)
      (pss_one (ps_ret (pe_allG (own := [("top", 1)]) (k := 1) (hr.mono (by decide)) rfl sc_are_tops.nd (by rfl) B.all TB rfl (pi_tup (pv 0)) ⟨(blkOk_by (N := ["value", "top"]) (sc := defScope s_are_tops) (by decide +kernel)), noCells_ok (by decide +kernel), rfl, rfl⟩ (fun _ _ _ _ _ _ => (pg_name (i := 1) sc_are_tops.nd rfl (by first | exact Or.inl rfl | exact Or.inr rfl))) (fun _ _ _ _ _ _ hr' => pts_nil) (fun _ _ _ _ _ _ hr' => (pe_c0 c_is_whole (hr'.mono (by decide)) (by rfl) (pa_cons (pv 1) (pa_cons pe_int (pa_cons (pe_num M.MOST_TOP (by rfl)) pa_nil))))))))), ?_⟩
    have lenT : (iv tops).length = tops.length := iv_len tops
    refine ⟨_, rfl, _, _, _, _, true, rfl, .ty "tuple", isi_tup ha, kit_ty (by decide +kernel), _, rfl, iteF ?_⟩
    refine ⟨_, rfl, _, _, rfl, .inr ha, _, _, rfl, rfl, true, ?_⟩
    have e1 : decide ((1 : Int) ≤ ((iv tops).length : Int)) = true := decide_eq_true (by rw [lenT]; omega)
    have e2 : decide (((iv tops).length : Int) ≤ (6 : Int)) = true := decide_eq_true (by rw [lenT]; omega)
    refine ⟨congrArg V.bl e1, iteT ⟨_, _, rfl, rfl, true, congrArg V.bl e2, iteF ?_⟩⟩
    have hg : TabG H T := hTb T F.mem
    refine ⟨_, rfl, a, rfl, ⟨_, SqT.of ha⟩, hg, fun H2 hT2 => ?_⟩
    have E2 : Ext H H2 := Ext.tabbed F.nown hg hT2
    refine quant_it (walk_tup (xs := iv tops)) (fun _ H' => H' = H2) rfl (fun i H' _ e => by rw [e]; exact SqT.of (E2.tup ha)) (fun i x H' H'' hi e y => ?_) fun H' e => by rw [e]; exact k H2 E2
    obtain ⟨e', hx⟩ := y
    subst e e'
    obtain ⟨n, hn, rfl⟩ := iv_get hx
    refine ⟨rfl, yes ?_⟩
    refine ⟨_, rfl, n, 1, 3, rfl, ?_⟩
    have hb := hT n (List.mem_of_getElem? hn)
    have e3 : isWhole n 1 3 = true := by simp [isWhole, hb.1, hb.2]
    refine ⟨true, congrArg V.bl e3, iteTF rfl⟩
end
end Lk


/-! ## D03 -/
set_option Elab.async false
set_option linter.all false
set_option maxRecDepth 100000
set_option maxHeartbeats 2000000
namespace Lk
open PySem PySem.Spec PyProof.Rows L2 Gx
open GxR (TabG Tabbed TabB)
variable [Own]
abbrev s_is_look : Stmt := top 19
theorem sc_is_look : FnScope ["value", "many", "one", "other", "sign"] ["value", "many"] (defScope s_is_look) := ⟨rfl, rfl, rfl, by decide +kernel, rfl, by decide +kernel, by decide +kernel⟩
def spIsLook : Sp := fun vs H Q _ => ∃ (v : V) (n a b s : Int), vs = [v, .int n] ∧ TI H v [a, b, s] ∧ (0 ≤ a ∧ a < n) ∧ (0 ≤ b ∧ b < n) ∧ (s = 1 ∨ s = -1) ∧ Q (.bl true) H
section
variable {P : Program} {w : World} {K : PySem.W.Frag} {mg : Str → Option Value} {base : Heap} {Ps : List Addr}
theorem whole_in {i lo hi : Int} (h : lo ≤ i) (h2 : i ≤ hi) : isWhole i lo hi = true := by simp [isWhole, h, h2]
theorem ok_is_look {f : Addr} {fd : FuncData} (F : Fun K "is_look" "is_look" s_is_look f fd) (B : Blt mg)
    (c_is_whole : Cal P w K mg base CX0 1 "is_whole" ["value", "least", "most"] spIsWhole) : FnOk P w K mg base CX0 2 f fd ["value", "many"] spIsLook := by
  refine F.ok sc_is_look (fun vs H Q E h => ?_) (fun cdv A outer s H vs Q E hr h => ?_)
  · obtain ⟨v, n, a, b, s, rfl, _⟩ := h
    rfl
  · obtain ⟨v, n, a, b, sg, rfl, ⟨p, rfl, hp⟩, ⟨ha, ha2⟩, ⟨hb, hb2⟩, hs, k⟩ := h
    refine ⟨_, (pss_cons (ps_if (PW.pt (pw_or (pt_not (pt_val (pe_callB call_isi (by rfl) B.isi boot_isinstance (pa_cons (pv 0) (pa_cons (pe_bltn (v := .ty "tuple") (by rfl) B.tuple boot_tyTuple rfl) pa_nil))))) (pw_or1 (pt_cmpR op_ne (pe_callB call_lenT (by rfl) B.len PySem.boot_len (pa_cons (pv 0) pa_nil)) pe_int (nomark _)))))
        (pss_one (ps_ret pe_bl)) pss_nil)
      (pss_cons (ps_asg (pv 0) (pg_tupT (n := 3) rfl (pgs_cons (pg_name (i := 2) sc_is_look.nd rfl (by first | exact Or.inl rfl | exact Or.inr rfl)) (pgs_cons (pg_name (i := 3) sc_is_look.nd rfl (by first | exact Or.inl rfl | exact Or.inr rfl)) (pgs_cons (pg_name (i := 4) sc_is_look.nd rfl (by first | exact Or.inl rfl | exact Or.inr rfl)) pgs_nil)))))
      (pss_cons (ps_if (PW.pt (pw_or (pt_not (pt_val (pe_c0 c_is_whole (hr.mono (by decide)) (by rfl) (pa_cons (pv 2) (pa_cons pe_int (pa_cons (pe_op op_sub (pv 1) pe_int) pa_nil)))))) (pw_or1 (pt_not (pt_val (pe_c0 c_is_whole (hr.mono (by decide)) (by rfl) (pa_cons (pv 3) (pa_cons pe_int (pa_cons (pe_op op_sub (pv 1) pe_int) pa_nil)))))))))
        (pss_one (ps_ret pe_bl)) pss_nil)
      (pss_one (ps_ret (pe_and (pe_c0 c_is_whole (hr.mono (by decide)) (by rfl) (pa_cons (pv 4) (pa_cons (pe_un un_neg pe_int) (pa_cons pe_int pa_nil)))) (pe_one (pe_cmpR op_ne (pv 4) pe_int (nomark _))))))))), ?_⟩
    refine ⟨_, rfl, _, _, _, _, true, rfl, .ty "tuple", isi_tup hp, kit_ty (by decide +kernel), _, rfl, iteF ?_⟩
    refine ⟨_, rfl, _, _, rfl, .inr hp, rfl, _, rfl, iteF ?_⟩
    refine ⟨_, rfl, p, _, rfl, hp, rfl, _, _, rfl, _, _, rfl, _, _, rfl, rfl, ?_⟩
    refine ⟨_, rfl, _, rfl, _, _, rfl, rfl, a, 0, n - 1, rfl, _, rfl, ?_⟩
    rw [whole_in ha (by omega)]
    refine iteF ⟨_, rfl, _, rfl, _, _, rfl, rfl, b, 0, n - 1, rfl, _, rfl, ?_⟩
    rw [whole_in hb (by omega)]
    refine iteF ⟨_, rfl, _, rfl, sg, -1, 1, rfl, _, rfl, ?_⟩
    rw [whole_in (by omega) (by omega)]
    refine iteT ⟨_, rfl, rfl, ?_⟩
    have e : (!decide (V.int sg = V.int 0)) = true := by
      rw [decide_eq_false (fun z => by cases z; omega)]
      rfl
    show Q (V.bl (!decide (V.int sg = V.int 0))) H
    rw [e]
    exact k
end
end Lk


/-! ## D04 -/
set_option Elab.async false
set_option linter.all false
set_option maxRecDepth 100000
set_option maxHeartbeats 2000000
namespace Lk
open PySem PySem.Spec PyProof.Rows L2 Gx
open GxR (TabG Tabbed TabB)
variable [Own]
/-- at whom one looks, with which sign -/
def looksOf (W : Web) (f : Int) : List (Int × Int) := (W.looks.filter fun l => l.2.1 == f).map fun l => (l.1, l.2.2)
def row2 (p : Int × Int) : List Int := [p.1, p.2]
def spLooksOf : Sp := fun vs H Q _ => ∃ (v : V) (W : Web) (f : Int), vs = [v, .int f] ∧ WebAt H v W ∧ W.looks.length ≤ 14 ∧ ∀ H' p vs, Ext H H' → H p = none → H' p = some (.lst vs) → Paired (TI H') vs ((looksOf W f).map row2) → Q (.ref p) H'
theorem take_snoc {α : Type} {l : List α} {i : Nat} {x : α} (h : l[i]? = some x) : l.take (i + 1) = l.take i ++ [x] := by
  rw [List.take_add_one, h]; rfl
section
variable {P : Program} {w : World} {K : PySem.W.Frag} {mg : Str → Option Value} {base : Heap} {Ps : List Addr}
end
end Lk


/-! ## Lc2 -/
set_option Elab.async false
set_option linter.all false
set_option maxRecDepth 100000
set_option maxHeartbeats 2000000
namespace Lk
open PySem PySem.Spec PyProof.Rows L2 Gx
variable [Own]
/-- the outer walk of a comprehension of two clauses -/
theorem lc2_out {J : It} {n : Nat} {G : Hp → Prop} {Y : Nat → Hp → V → Hp → Prop} (w : Walk J n G Y) {g g1 : TG} {tt tt1 : TT} {wi1 : L2.TI} {te : TE} {vs vs1 : List Nat} {σ : L2.St} {H1 : Hp} {D : Addr} {Qd : Hp → Prop} (Pv : Nat → Hp → Prop) (h0 : Pv 0 (upd H1 D (.lst []))) (hG : ∀ i H, i ≤ n → Pv i H → G H)
    (hs : ∀ i x H H', i < n → Pv i H → Y i H x H' → g x (wipe σ vs) H' fun σ2 H2 => wipe σ2 vs = wipe σ vs ∧ tt σ2 H2 fun b H3 =>
      if b = true then wi1 σ2 H3 fun J1 H4 => ∃ W1 : Nat → Nat → Hp → Prop, (∃ m, W1 0 m H4) ∧ ∀ j k H, W1 j k H →
        (J1.stop j H ∧ Pv (i + 1) H) ∨ (J1.go j H ∧ ∃ Nx1 : Hp → Prop, (∀ H', Nx1 H' → ∃ k', k' < k ∧ W1 (j + 1) k' H') ∧ ∀ x H', J1.yld j H x H' → g1 x (wipe σ2 vs1) H' fun σ3 H5 => wipe σ3 vs1 = wipe σ2 vs1 ∧ tt1 σ3 H5 fun b H6 =>
          if b = true then te σ3 H6 fun y H7 => ∃ acc, H7 D = some (.lst acc) ∧ acc.length < sizeLine ∧ Nx1 (upd H7 D (.lst (acc ++ [y]))) else Nx1 H6)
      else Pv (i + 1) H3) (hd : ∀ H, Pv n H → Qd H) :
    ∃ W : Nat → Nat → Hp → Prop, (∃ m, W 0 m (upd H1 D (.lst []))) ∧ ∀ i m H, W i m H →
      (J.stop i H ∧ Qd H) ∨ (J.go i H ∧ ∃ Nx : Hp → Prop, (∀ H', Nx H' → ∃ m', m' < m ∧ W (i + 1) m' H') ∧ ∀ x H', J.yld i H x H' → g x (wipe σ vs) H' fun σ2 H2 => wipe σ2 vs = wipe σ vs ∧ tt σ2 H2 fun b H3 =>
        if b = true then wi1 σ2 H3 fun J1 H4 => ∃ W1 : Nat → Nat → Hp → Prop, (∃ m, W1 0 m H4) ∧ ∀ j k H, W1 j k H →
          (J1.stop j H ∧ Nx H) ∨ (J1.go j H ∧ ∃ Nx1 : Hp → Prop, (∀ H', Nx1 H' → ∃ k', k' < k ∧ W1 (j + 1) k' H') ∧ ∀ x H', J1.yld j H x H' → g1 x (wipe σ2 vs1) H' fun σ3 H5 => wipe σ3 vs1 = wipe σ2 vs1 ∧ tt1 σ3 H5 fun b H6 =>
            if b = true then te σ3 H6 fun y H7 => ∃ acc, H7 D = some (.lst acc) ∧ acc.length < sizeLine ∧ Nx1 (upd H7 D (.lst (acc ++ [y]))) else Nx1 H6)
        else Nx H3) := by
  refine ⟨fun i m H => m = n - i ∧ i ≤ n ∧ Pv i H, ⟨n, by simp, Nat.zero_le _, h0⟩, ?_⟩
  rintro i m H ⟨rfl, hi, p⟩
  have q := hG i H hi p
  by_cases hlt : i < n
  · exact .inr ⟨w.goes i H hlt q, Pv (i + 1), fun H' p' => ⟨n - (i + 1), by omega, rfl, hlt, p'⟩, fun x H' y => hs i x H H' hlt p (w.yields i H x H' hlt q y)⟩
  · have e : i = n := by omega
    subst e
    exact .inl ⟨w.stops H q, hd H p⟩
/-- the inner one -/
theorem lc2_in {J : It} {n : Nat} {G : Hp → Prop} {Y : Nat → Hp → V → Hp → Prop} (w : Walk J n G Y) {g : TG} {tt : TT} {te : TE} {vs : List Nat} {σ : L2.St} {H4 : Hp} {D : Addr} {Qd : Hp → Prop} (Pv : Nat → Hp → Prop) (h0 : Pv 0 H4) (hG : ∀ i H, i ≤ n → Pv i H → G H)
    (hs : ∀ i x H H', i < n → Pv i H → Y i H x H' → g x (wipe σ vs) H' fun σ2 H2 => wipe σ2 vs = wipe σ vs ∧ tt σ2 H2 fun b H3 =>
      if b = true then te σ2 H3 fun y H4 => ∃ acc, H4 D = some (.lst acc) ∧ acc.length < sizeLine ∧ Pv (i + 1) (upd H4 D (.lst (acc ++ [y]))) else Pv (i + 1) H3) (hd : ∀ H, Pv n H → Qd H) :
    ∃ W : Nat → Nat → Hp → Prop, (∃ m, W 0 m H4) ∧ ∀ i m H, W i m H →
      (J.stop i H ∧ Qd H) ∨ (J.go i H ∧ ∃ Nx : Hp → Prop, (∀ H', Nx H' → ∃ m', m' < m ∧ W (i + 1) m' H') ∧ ∀ x H', J.yld i H x H' → g x (wipe σ vs) H' fun σ2 H2 => wipe σ2 vs = wipe σ vs ∧ tt σ2 H2 fun b H3 =>
        if b = true then te σ2 H3 fun y H4 => ∃ acc, H4 D = some (.lst acc) ∧ acc.length < sizeLine ∧ Nx (upd H4 D (.lst (acc ++ [y]))) else Nx H3) := by
  refine ⟨fun i m H => m = n - i ∧ i ≤ n ∧ Pv i H, ⟨n, by simp, Nat.zero_le _, h0⟩, ?_⟩
  rintro i m H ⟨rfl, hi, p⟩
  have q := hG i H hi p
  by_cases hlt : i < n
  · exact .inr ⟨w.goes i H hlt q, Pv (i + 1), fun H' p' => ⟨n - (i + 1), by omega, rfl, hlt, p'⟩, fun x H' y => hs i x H H' hlt p (w.yields i H x H' hlt q y)⟩
  · have e : i = n := by omega
    subst e
    exact .inl ⟨w.stops H q, hd H p⟩
/-- a new list's pairs, told anew behind growth -/
theorem pTI.put {H H' : Hp} {D : Addr} {acc : List V} {rows : List (List Int)} {o : HO} (hD : H D = some (.lst acc)) (e : ∀ a xs, H a = some (.tup xs) → H' a = some (.tup xs)) {vs : List V} (p : Paired (TI H) vs rows) : Paired (TI (upd H' D o)) vs rows :=
  paired_mono (fun x r h => by
    obtain ⟨z, rfl, hz⟩ := h
    exact ⟨z, rfl, by rw [upd_ne (ne_of hD hz (by intro q; cases q)).symm]; exact e _ _ hz⟩) p
end Lk

/-! ## D06 -/
set_option Elab.async false
set_option linter.all false
set_option maxRecDepth 100000
set_option maxHeartbeats 2000000
namespace Lk
open PySem PySem.Spec PyProof.Rows L2 Gx
open GxR (TabG Tabbed TabB)
variable [Own]
abbrev s_are_looks : Stmt := top 20
theorem sc_are_looks : FnScope ["value", "many", "look", "one", "other", "_", "pairs", "lookers", "folk"] ["value", "many"] (defScope s_are_looks) := ⟨rfl, rfl, rfl, by decide +kernel, rfl, by decide +kernel, by decide +kernel⟩
def spAreLooks (Ps : List Addr) : Sp := fun vs H Q _ => ∃ (v : V) (W : Web), vs = [v, .int W.tops.length] ∧ TT2 H v (W.looks.map row3) ∧ W.Ok ∧ Tabs Ps H ∧ ∀ H', Ext H H' → Q (.bl true) H'
def pair2 (l : Look3) : List Int := [l.1, l.2.1]
theorem pairs_asc {W : Web} (ok : W.Ok) : (W.looks.map pair2).Pairwise fun x y => TS.code 64 x < TS.code 64 y := by
  rw [List.pairwise_map]
  refine List.Pairwise.imp_of_mem (fun {a b} ha hb h => ?_) ok.asc
  have h1 := ok.look a ha
  have h2 := ok.look b hb
  have h6 := ok.few
  unfold pair2
  rw [code_pair, code_pair]
  omega
section
variable {P : Program} {w : World} {K : PySem.W.Frag} {mg : Str → Option Value} {base : Heap} {Ps : List Addr}
theorem row3_at {H : Hp} {vs : List V} {ls : List Look3} {i : Nat} {x : V} (p : Paired (TI H) vs (ls.map row3)) (h : vs[i]? = some x) : ∃ l q, ls[i]? = some l ∧ x = .ref q ∧ H q = some (.tup [.int l.1, .int l.2.1, .int l.2.2]) := by
  obtain ⟨row, hrow, q, e, hq⟩ := paired_get' p h
  rw [List.getElem?_map] at hrow
  cases e2 : ls[i]? with
  | none => rw [e2] at hrow; cases hrow
  | some l =>
    rw [e2] at hrow
    obtain rfl := Option.some.inj hrow
    exact ⟨l, q, rfl, e, hq⟩
theorem pair_at {H : Hp} {vs : List V} {ls : List Look3} {i : Nat} {x : V} (p : Paired (TI H) vs (ls.map pair2)) (h : vs[i]? = some x) : ∃ l q, ls[i]? = some l ∧ x = .ref q ∧ H q = some (.tup [.int l.1, .int l.2.1]) := by
  obtain ⟨row, hrow, q, e, hq⟩ := paired_get' p h
  rw [List.getElem?_map] at hrow
  cases e2 : ls[i]? with
  | none => rw [e2] at hrow; cases hrow
  | some l =>
    rw [e2] at hrow
    obtain rfl := Option.some.inj hrow
    exact ⟨l, q, rfl, e, hq⟩
theorem ok_are_looks {f T : Addr} {fd : FuncData} (F : FunT K mg base Ps "are_looks" s_are_looks f fd T) (B : Blt mg) (M : Nums mg)
    (c_is_look : Cal P w K mg base CX0 2 "is_look" ["value", "many"] spIsLook) : FnOk P w K mg base CX0 4 f fd ["value", "many"] (spAreLooks Ps) := by
  refine F.ok sc_are_looks (fun vs H Q E h => ?_) (fun c A outer s0 H vs Q E TB hr h => ?_)
  · obtain ⟨v, W, rfl, _⟩ := h
    rfl
  · obtain ⟨v, W, rfl, ⟨a, ls, rfl, ha, hls⟩, ok, hTb, k⟩ := h
    refine ⟨_, (pss_cons (ps_if (PW.pt (pw_or (pt_not (pt_val (pe_callB call_isi (by rfl) B.isi boot_isinstance (pa_cons (pv 0) (pa_cons (pe_bltn (v := .ty "tuple") (by rfl) B.tuple boot_tyTuple rfl) pa_nil))))) (pw_or1 (pt_cmpR op_gt (pe_callB call_lenT (by rfl) B.len PySem.boot_len (pa_cons (pv 0) pa_nil)) (pe_num M.MOST_LOOKS (by rfl)) (nomark _)))))
        (pss_one (ps_ret pe_bl)) pss_nil)
      (pss_cons (ps_if (pt_not (pt_val (pe_allG (own := [("look", 2)]) (k := 2) (hr.mono (by decide)) rfl sc_are_looks.nd (by rfl) B.all TB rfl (pi_tup (pv 0)) ⟨(blkOk_by (N := ["value", "many", "look", "one", "other", "_", "pairs", "lookers", "folk"]) (sc := defScope s_are_looks) (by decide +kernel)), noCells_ok (by decide +kernel), rfl, rfl⟩ (fun _ _ _ _ _ _ => (pg_name (i := 2) sc_are_looks.nd rfl (by first | exact Or.inl rfl | exact Or.inr rfl))) (fun _ _ _ _ _ _ hr' => pts_nil) (fun _ _ _ _ _ _ hr' => (pe_c0 c_is_look (hr'.mono (by decide)) (by rfl) (pa_cons (pv 2) (pa_cons (pv 1) pa_nil)))))))
        (pss_one (ps_ret pe_bl)) pss_nil)
      (pss_cons (ps_setLc (i := 6) (own := [("one", 3), ("other", 4), ("_", 5)]) rfl sc_are_looks.nd rfl rfl (sw_true rfl rfl rfl (by decide +kernel)) (pi_tup (pv 0)) (blkOk_by (N := ["value", "many", "look", "one", "other", "_", "pairs", "lookers", "folk"]) (sc := defScope s_are_looks) (by decide +kernel)) (fun _ _ _ _ _ => (pg_tupT (n := 3) rfl (pgs_cons (pg_name (i := 3) sc_are_looks.nd rfl (by first | exact Or.inl rfl | exact Or.inr rfl)) (pgs_cons (pg_name (i := 4) sc_are_looks.nd rfl (by first | exact Or.inl rfl | exact Or.inr rfl)) (pgs_cons (pg_name (i := 5) sc_are_looks.nd rfl (by first | exact Or.inl rfl | exact Or.inr rfl)) pgs_nil))))) (fun _ _ _ _ _ => pts_nil) (fun _ _ _ _ _ => (pe_tup (pa_cons (pv 3) (pa_cons (pv 4) pa_nil)))))
      (pss_cons (ps_if (pt_cmpR (op_neLT2 hr.units) (pv 6) (pe_callB (cr_sortedT rfl) (by rfl) B.sorted boot_sorted (pa_cons (pe_callTy (cr_setOfT rfl hr.units) (by rfl) B.set boot_set (pa_cons (pv 6) pa_nil)) pa_nil)) (nomark _))
        (pss_one (ps_ret pe_bl)) pss_nil)
      (pss_cons (ps_set (i := 7) sc_are_looks.nd rfl (by first | exact Or.inl rfl | exact Or.inr rfl) (pe_lc (own := [("_", 5), ("other", 4)]) rfl sc_are_looks.nd (pi_list (pv 6)) (blkOk_by (N := ["value", "many", "look", "one", "other", "_", "pairs", "lookers", "folk"]) (sc := defScope s_are_looks) (by decide +kernel)) (fun _ _ _ _ _ => (pg_tupT (n := 2) rfl (pgs_cons (pg_name (i := 5) sc_are_looks.nd rfl (by first | exact Or.inl rfl | exact Or.inr rfl)) (pgs_cons (pg_name (i := 4) sc_are_looks.nd rfl (by first | exact Or.inl rfl | exact Or.inr rfl)) pgs_nil)))) (fun _ _ _ _ _ => pts_nil) (fun _ _ _ _ _ => (pv 4))))
      (pss_one (ps_ret (pe_allG (own := [("folk", 8)]) (k := 2) (hr.mono (by decide)) rfl sc_are_looks.nd (by rfl) B.all TB rfl (pi_range1 (by rfl) B.range (pa_cons (pv 1) pa_nil)) ⟨(blkOk_by (N := ["value", "many", "look", "one", "other", "_", "pairs", "lookers", "folk"]) (sc := defScope s_are_looks) (by decide +kernel)), noCells_ok (by decide +kernel), rfl, rfl⟩ (fun _ _ _ _ _ _ => (pg_name (i := 8) sc_are_looks.nd rfl (by first | exact Or.inl rfl | exact Or.inr rfl))) (fun _ _ _ _ _ _ hr' => pts_nil) (fun _ _ _ _ _ _ hr' => (pe_cmpR op_le (pe_bmL PySem.F.plainAttrs_list PySem.F.slot_list_count PySem.F.type_list_count mt_cntL (pv 7) (pa_cons (pv 8) pa_nil)) (pe_num M.MOST_LOOKS_OF_ONE (by rfl)) (nomark _))))))))))), ?_⟩
    have lls : ls.length = W.looks.length := by rw [paired_len hls, List.length_map]
    have h14 := ok.most
    have h6 := ok.few
    refine ⟨_, rfl, _, _, _, _, true, rfl, .ty "tuple", isi_tup ha, kit_ty (by decide +kernel), _, rfl, iteF ?_⟩
    refine ⟨_, rfl, _, _, rfl, .inr ha, _, _, rfl, rfl, _, rfl, ?_⟩
    rw [decide_eq_false (by omega : ¬ (14 : Int) < (ls.length : Int))]
    refine iteF ?_
    have hg : TabG H T := hTb T F.mem
    refine ⟨_, rfl, a, rfl, ⟨_, SqT.of ha⟩, hg, fun H2 hT2 => ?_⟩
    have E2 : Ext H H2 := Ext.tabbed F.nown hg hT2
    refine quant_test (walk_tup (K := K) (xs := ls)) (fun _ H' => H' = H2) rfl (fun i H' _ e => by rw [e]; exact SqT.of (E2.tup ha)) (fun i x H4 H5 hi e4 y => ?_) fun H4 e4 => ?_
    · subst e4
      obtain ⟨rfl, hx⟩ := y
      obtain ⟨lk, q, hlk, rfl, hq⟩ := row3_at (pTI.ext E2 hls) hx
      have h1 := ok.look lk (List.mem_of_getElem? hlk)
      refine ⟨rfl, yes ?_⟩
      exact ⟨_, rfl, _, rfl, _, _, lk.1, lk.2.1, lk.2.2, rfl, ⟨q, rfl, hq⟩, h1.1, h1.2.1, h1.2.2, true, rfl, iteTF rfl⟩
    · subst e4
      refine iteF ?_
      refine ⟨_, rfl, a, rfl, ⟨_, SqT.of (E2.tup ha)⟩, fun D hD => ?_⟩
      refine lc_tup (K := K) (xs := ls) (fun i H' => ∃ acc, H' D = some (.lst acc) ∧ Ext H4 H' ∧ acc.length ≤ i ∧ Paired (TI H') acc ((W.looks.take i).map pair2)) ⟨[], upd_same, Ext.new hD _, Nat.le_refl _, .nil⟩ (fun i H' _ ⟨_, _, e, _⟩ => SqT.of (e.tup (E2.tup ha))) (fun i x H' hi ⟨acc, hacc, e, hl, hp⟩ => ?_) fun H' ⟨acc, hacc, e, hl, hp⟩ => ?_
      · obtain ⟨lk, q, hlk, rfl, hq⟩ := row3_at (pTI.ext (E2.trans e) hls) hi
        have hi14 : i < 14 := by
          have := (List.getElem?_eq_some_iff.mp hlk).1
          omega
        refine ⟨q, _, rfl, hq, rfl, _, _, rfl, _, _, rfl, _, _, rfl, rfl, rfl, yes ?_⟩
        refine ⟨_, rfl, _, rfl, (by show 2 ≤ sizeLine; decide), fun u hu => ?_⟩
        have hDu : D ≠ u := ne_of_none hacc hu
        refine ⟨acc, by rw [upd_ne hDu]; exact hacc, small1000 (by omega), acc ++ [.ref u], upd_same, (e.trans (Ext.new hu _)).put hD _, by rw [List.length_append]; simp; omega, ?_⟩
        rw [take_snoc hlk, List.map_append]
        exact pTI.put (H := upd H' u (.tup [.int lk.1, .int lk.2.1])) (by rw [upd_ne hDu]; exact hacc) (fun _ _ h => h) (paired_snoc ⟨u, rfl, upd_same⟩ (pTI.ext (Ext.new hu _) hp))
      · rw [lls, List.take_length] at hp
        have E3 := E2.trans e
        have lacc : acc.length = W.looks.length := by rw [paired_len hp, List.length_map]
        obtain ⟨ks, rfl, hrows, hks⟩ := paired_ks hp
        have lks : ks.length ≤ 14 := by rw [← List.length_map (f := fun p : Addr × List Int => V.ref p.1), lacc]; exact h14
        refine ⟨_, rfl, _, rfl, D, ks, rfl, SqL.of hacc, fun p hpk => SqT.of (hks p hpk), by omega, fun u L hu hL1 hL2 => ?_⟩
        have hksu : ∀ p ∈ ks, p.1 ≠ u := fun p hp z => by
          have := hks p hp
          rw [z, hu] at this
          cases this
        have hmem : ∀ p ∈ ks, ∃ l ∈ W.looks, p.2 = pair2 l := fun p hp => by
          have h1 : p.2 ∈ ks.map (·.2) := List.mem_map.mpr ⟨p, hp, rfl⟩
          rw [← hrows] at h1
          obtain ⟨l, hl, e⟩ := List.mem_map.mp h1
          exact ⟨l, hl, e.symm⟩
        have bdP : ∀ p ∈ ks, p.2.length = 2 ∧ TS.Bd 64 p.2 := fun p hp => by
          obtain ⟨l, hl, e⟩ := hmem p hp
          have h1 := ok.look l hl
          rw [e]
          refine ⟨rfl, fun m hm => ?_⟩
          unfold pair2 at hm
          rcases List.mem_cons.mp hm with z | hm
          · omega
          · rw [List.mem_singleton.mp hm]
            omega
        refine ⟨u, L, 2, 64, rfl, upd_same, fun p hp => SqT.of (by rw [upd_ne (hksu p (hL1 p hp))]; exact hks p (hL1 p hp)), by decide, fun p hp => bdP p (hL1 p hp), fun L' q perm nd hlt hpw hq => ?_⟩
        have E5 := (Ext.new hu _).trans (Ext.new hq (.lst (L'.map fun q => V.ref q.1)))
        have inK : ∀ p ∈ L', p ∈ ks := fun p hp => hL1 p (perm.mem_iff.mp hp)
        have hb : L'.map (·.2) = W.looks.map pair2 := by
          refine asc_eq (f := TS.code 64) ?_ (pairs_asc ok) fun x => ⟨fun hx => ?_, fun hx => ?_⟩
          · rw [List.pairwise_map]
            have nd2 := List.pairwise_map.mp nd
            refine List.Pairwise.imp_of_mem (fun {x y} hx hy h => ?_) (hpw.and nd2)
            obtain ⟨h1, h2⟩ := h
            obtain ⟨l, hl, ex⟩ := hmem x (inK x hx)
            obtain ⟨m, hm, ey⟩ := hmem y (inK y hy)
            have b1 := ok.look l hl
            have b2 := ok.look m hm
            rw [ex, ey] at h1 h2 ⊢
            unfold pair2 at h1 h2 ⊢
            rw [code_pair, code_pair] at h1 ⊢
            rcases Int.lt_or_eq_of_le h1 with z | z
            · exact z
            · exact absurd (by rw [show l.1 = m.1 by omega, show l.2.1 = m.2.1 by omega]) h2
          · obtain ⟨p, hp, rfl⟩ := List.mem_map.mp hx
            rw [hrows]
            exact List.mem_map.mpr ⟨p, inK p hp, rfl⟩
          · rw [hrows] at hx
            obtain ⟨p, hp, rfl⟩ := List.mem_map.mp hx
            obtain ⟨p', hp', e'⟩ := List.mem_map.mp (hL2 p hp)
            exact List.mem_map.mpr ⟨p', perm.mem_iff.mpr hp', e'⟩
        refine ⟨W.looks.map pair2, L'.map (·.2), ⟨D, _, rfl, E5.lst hacc, pTI.ext E5 hp⟩, ⟨q, _, rfl, upd_same, ks_paired fun p hp => E5.tup (hks p (inK p hp))⟩, _, rfl, ?_⟩
        rw [hb, decide_eq_true rfl]
        refine iteF ?_
        refine ⟨_, rfl, D, rfl, ⟨_, SqL.of (E5.lst hacc)⟩, fun D2 hD2 => ?_⟩
        refine lc_list (K := K) (xs := ks.map fun p => V.ref p.1) (fun i H7 => H7 D2 = some (.lst (iv ((W.looks.take i).map fun l => l.2.1))) ∧ Ext H' H7) ⟨upd_same, E5.trans (Ext.new hD2 _)⟩ (fun i H7 _ ⟨_, e7⟩ => SqL.of (e7.lst hacc)) (fun i x H7 hi ⟨h7, e7⟩ => ?_) fun H7 ⟨h7, e7⟩ => ?_
        · obtain ⟨lk, z, hlk, rfl, hz⟩ := pair_at (pTI.ext e7 hp) hi
          refine ⟨z, _, rfl, hz, rfl, _, _, rfl, _, _, rfl, rfl, rfl, yes ?_⟩
          have hi14 : i < 14 := by
            have := (List.getElem?_eq_some_iff.mp hlk).1
            omega
          refine ⟨_, rfl, _, h7, ?_, ?_, e7.put (E5.free hD2) _⟩
          · rw [iv_len, List.length_map, List.length_take]
            exact small1000 (by omega)
          · rw [upd_same, take_snoc hlk, List.map_append]
            show some (HO.lst _) = some (HO.lst (List.map V.int (_ ++ _)))
            rw [List.map_append]
            rfl
        · have h7 : H7 D2 = some (.lst (iv (W.looks.map fun l => l.2.1))) := by
            rw [h7, lacc, List.take_length]
          have E7 := E3.trans e7
          have hg7 : TabG H7 T := E7.tab T hg
          refine ⟨_, rfl, _, rfl, by omega, by omega, hg7, fun H8 hT8 => ?_⟩
          have E8 := E7.trans (Ext.tabbed F.nown hg7 hT8)
          have h8 := (Ext.tabbed F.nown hg7 hT8).lst h7
          refine quant_it (walk_range (lo := 0) (n := ((W.tops.length : Int)).toNat)) (fun _ H' => H' = H8) rfl (fun _ _ _ _ => trivial) (fun i x H9 H10 hi e9 y => ?_) fun H9 e9 => by rw [e9]; exact k H8 E8
          subst e9
          obtain ⟨rfl, rfl⟩ := rng_len y
          refine ⟨rfl, yes ?_⟩
          refine ⟨_, rfl, ⟨D2, _, rfl, h8⟩, _, rfl, D2, _, (i : Int), rfl, rfl, h8, _, _, rfl, rfl, ?_⟩
          have h4 := ok.four (i : Int)
          rw [← List.countP_eq_length_filter] at h4
          refine ⟨true, congrArg V.bl (decide_eq_true ?_), iteTF rfl⟩
          have : ((W.looks.map fun l => l.2.1).count (i : Int)) ≤ 4 := h4
          omega
end
end Lk


/-! ## D07 -/
set_option Elab.async false
set_option linter.all false
set_option maxRecDepth 100000
set_option maxHeartbeats 2000000
namespace Lk
open PySem PySem.Spec PyProof.Rows L2 Gx
open GxR (TabG Tabbed TabB)
variable [Own]
def topAt (W : Web) (i : Int) : Int := W.tops.getD i.toNat 0
theorem topAt_get {W : Web} {i : Int} (h0 : 0 ≤ i) (h1 : i < W.tops.length) : W.tops[i.toNat]? = some (topAt W i) := by
  unfold topAt
  rw [List.getD_eq_getElem?_getD, List.getElem?_eq_getElem (by omega)]
  rfl
theorem topAt_ok {W : Web} (ok : W.Ok) {i : Int} (h0 : 0 ≤ i) (h1 : i < W.tops.length) : 1 ≤ topAt W i ∧ topAt W i ≤ 3 := ok.tops _ (List.mem_of_getElem? (topAt_get h0 h1))
theorem looksOf_ok {W : Web} (ok : W.Ok) {f : Int} : ∀ p ∈ looksOf W f, (0 ≤ p.1 ∧ p.1 < W.tops.length) ∧ (p.2 = 1 ∨ p.2 = -1) := by
  intro p hp
  unfold looksOf at hp
  obtain ⟨l, hl, rfl⟩ := List.mem_map.mp hp
  have := ok.look l (List.mem_filter.mp hl).1
  exact ⟨this.1, this.2.2⟩
def manyStep (W : Web) (m : Int) (p : Int × Int) : Int := m * (topAt W p.1 + 1)
/-- how many rows of moods one can see -/
def manyRows (W : Web) (f : Int) : Int := (looksOf W f).foldl (manyStep W) 1
def spManyRows : Sp := fun vs H Q _ => ∃ (v : V) (W : Web) (f : Int), vs = [v, .int f] ∧ WebAt H v W ∧ W.Ok ∧ ∀ H', Ext H H' → Q (.int (manyRows W f)) H'
theorem foldl_take' {α β : Type} {f : α → β → α} {a : α} {l : List β} {i : Nat} {x : β} (h : l[i]? = some x) : (l.take (i + 1)).foldl f a = f ((l.take i).foldl f a) x := by
  rw [List.take_add_one, h]
  simp
section
variable {P : Program} {w : World} {K : PySem.W.Frag} {mg : Str → Option Value} {base : Heap} {Ps : List Addr}
/-- a look of the list, taken apart -/
theorem look_at {H : Hp} {vs : List V} {ls : List (Int × Int)} {i : Nat} {x : V} (p : Paired (TI H) vs (ls.map row2)) (h : vs[i]? = some x) : ∃ l q, ls[i]? = some l ∧ x = .ref q ∧ H q = some (.tup [.int l.1, .int l.2]) := by
  obtain ⟨row, hrow, q, e, hq⟩ := paired_get' p h
  rw [List.getElem?_map] at hrow
  cases e2 : ls[i]? with
  | none => rw [e2] at hrow; cases hrow
  | some l =>
    rw [e2] at hrow
    obtain rfl := Option.some.inj hrow
    exact ⟨l, q, rfl, e, hq⟩
def stAt (st : List Int) (i : Int) : Int := st.getD i.toNat 0
def placeStep (W : Web) (st : List Int) (m : Int) (p : Int × Int) : Int := m * (topAt W p.1 + 1) + stAt st p.1
def placeOf (W : Web) (st : List Int) (f : Int) : Int := (looksOf W f).foldl (placeStep W st) 0
/-- a state of the web -/
structure StOk (W : Web) (st : List Int) : Prop where
  len : st.length = W.tops.length
  bd : ∀ i : Int, 0 ≤ i → i < W.tops.length → 0 ≤ stAt st i ∧ stAt st i ≤ topAt W i
theorem stAt_get {st : List Int} {i : Int} (h0 : 0 ≤ i) (h1 : i < st.length) : st[i.toNat]? = some (stAt st i) := by
  unfold stAt
  rw [List.getD_eq_getElem?_getD, List.getElem?_eq_getElem (by omega)]
  rfl
theorem place_bd {W : Web} (ok : W.Ok) {st : List Int} (so : StOk W st) : ∀ (ls : List (Int × Int)) (m p : Int), (∀ l ∈ ls, 0 ≤ l.1 ∧ l.1 < W.tops.length) → 0 ≤ p → p < m → 0 ≤ ls.foldl (placeStep W st) p ∧ ls.foldl (placeStep W st) p < ls.foldl (manyStep W) m
  | [], _, _, _, h0, h1 => ⟨h0, h1⟩
  | l :: ls, m, p, hl, h0, h1 => by
    have hh := hl l (List.mem_cons_self ..)
    have ht := topAt_ok ok hh.1 hh.2
    have hs := so.bd l.1 hh.1 hh.2
    refine place_bd ok so ls (manyStep W m l) (placeStep W st p l) (fun x hx => hl x (List.mem_cons_of_mem _ hx)) ?_ ?_
    · unfold placeStep
      have : 0 ≤ p * (topAt W l.1 + 1) := Int.mul_nonneg h0 (by omega)
      omega
    · unfold placeStep manyStep
      have h2 : (p + 1) * (topAt W l.1 + 1) ≤ m * (topAt W l.1 + 1) := Int.mul_le_mul_of_nonneg_right (by omega) (by omega)
      rw [Int.add_mul, Int.one_mul] at h2
      omega
/-- tables: one for each, as long as there are rows -/
structure RuOk (W : Web) (ru : List (List Int)) : Prop where
  len : ru.length = W.tops.length
  rows : ∀ f : Int, 0 ≤ f → f < W.tops.length → ((ru.getD f.toNat []).length : Int) = manyRows W f
def moodTold (W : Web) (ru : List (List Int)) (st : List Int) (f : Int) : Int := (ru.getD f.toNat []).getD (placeOf W st f).toNat 0
def spPlaceSeen : Sp := fun vs H Q _ => ∃ (v z : V) (W : Web) (st : List Int) (f : Int), vs = [v, z, .int f] ∧ WebAt H v W ∧ W.Ok ∧ TI H z st ∧ StOk W st ∧ ∀ H', Ext H H' → Q (.int (placeOf W st f)) H'
def spMoodTold : Sp := fun vs H Q _ => ∃ (v r z : V) (W : Web) (ru : List (List Int)) (st : List Int) (f : Int), vs = [v, r, z, .int f] ∧ WebAt H v W ∧ W.Ok ∧ TT2 H r ru ∧ RuOk W ru ∧ TI H z st ∧ StOk W st ∧ (0 ≤ f ∧ f < W.tops.length) ∧ ∀ H', Ext H H' → Q (.int (moodTold W ru st f)) H'
end
end Lk


/-! ## D11 -/
set_option Elab.async false
set_option linter.all false
set_option maxRecDepth 100000
set_option maxHeartbeats 2000000
namespace Lk
open PySem PySem.Spec PyProof.Rows L2 Gx
open GxR (TabG Tabbed TabB)
open RZ (ItzT pi_zipA)
variable [Own]
theorem walk_zipT {K : PySem.W.Frag} {a b : Addr} {xs ys : List V} {n : Nat} (hn : n = min xs.length ys.length) : Walk (ItzT K a b) n (fun H => SqT K H a xs ∧ SqT K H b ys) (YPair (fun i => xs[i]?) (fun i => ys[i]?)) := by
  subst hn
  refine ⟨fun i _ hi q => ⟨xs, ys, xs[i]'(by omega), ys[i]'(by omega), q.1, q.2, by simp [show i < xs.length by omega], by simp [show i < ys.length by omega]⟩, fun _ q => ⟨xs, ys, q.1, q.2, by omega⟩, fun i H v H' _ q y => ?_⟩
  obtain ⟨T, x, z, h1, h2, h3, h4, h5⟩ := y
  exact ⟨T, x, z, h1, h2, h3, h4 xs q.1, h5 ys q.2⟩
def spIsState (Ps : List Addr) : Sp := fun vs H Q _ => ∃ (v z : V) (W : Web) (st : List Int), vs = [v, z] ∧ WebAt H v W ∧ W.Ok ∧ TI H z st ∧ StOk W st ∧ Tabs Ps H ∧ ∀ H', Ext H H' → Q (.bl true) H'
def spCheckState (Ps : List Addr) : Sp := fun vs H Q _ => ∃ (v z : V) (W : Web) (st : List Int), vs = [v, z] ∧ WebAt H v W ∧ W.Ok ∧ TI H z st ∧ StOk W st ∧ Tabs Ps H ∧ ∀ H', Ext H H' → Q .non H'
abbrev s_wrong_part : Stmt := top 21
theorem sc_wrong_part : FnScope ["web", "tops", "looks"] ["web"] (defScope s_wrong_part) := ⟨rfl, rfl, rfl, by decide +kernel, rfl, by decide +kernel, by decide +kernel⟩
def spWrongPart (Ps : List Addr) : Sp := fun vs H Q _ => ∃ (v : V) (W : Web), vs = [v] ∧ WebAt H v W ∧ W.Ok ∧ Tabs Ps H ∧ ∀ H', Ext H H' → Q .non H'
abbrev s_check_web : Stmt := top 22
theorem sc_check_web : FnScope ["web", "part"] ["web"] (defScope s_check_web) := ⟨rfl, rfl, rfl, by decide +kernel, rfl, by decide +kernel, by decide +kernel⟩
def spCheckWeb (Ps : List Addr) : Sp := fun vs H Q _ => ∃ (v : V) (W : Web), vs = [v] ∧ WebAt H v W ∧ W.Ok ∧ Tabs Ps H ∧ ∀ H', Ext H H' → Q .non H'
def spCheckFolk : Sp := fun vs H Q _ => ∃ (v : V) (W : Web) (f : Int), vs = [v, .int f] ∧ WebAt H v W ∧ (0 ≤ f ∧ f < W.tops.length) ∧ Q .non H
section
variable {P : Program} {w : World} {K : PySem.W.Frag} {mg : Str → Option Value} {base : Heap} {Ps : List Addr}
theorem ok_wrong_part {f : Addr} {fd : FuncData} (F : Fun K "wrong_part" "wrong_part" s_wrong_part f fd) (B : Blt mg)
    (c_are_tops : Cal P w K mg base CX0 3 "are_tops" ["value"] (spAreTops Ps)) (c_are_looks : Cal P w K mg base CX0 4 "are_looks" ["value", "many"] (spAreLooks Ps)) : FnOk P w K mg base CX0 5 f fd ["web"] (spWrongPart Ps) := by
  refine F.ok sc_wrong_part (fun vs H Q E h => ?_) (fun cdv A outer s0 H vs Q E hr h => ?_)
  · obtain ⟨v, W, rfl, _⟩ := h
    rfl
  · obtain ⟨v, W, rfl, hW, ok, hTb, k⟩ := h
    obtain ⟨a, t, l, rfl, ha, ⟨b, rfl, hb⟩, hl⟩ := id hW
    refine ⟨_, (pss_cons (ps_if (PW.pt (pw_or (pt_not (pt_val (pe_callB call_isi (by rfl) B.isi boot_isinstance (pa_cons (pv 0) (pa_cons (pe_bltn (v := .ty "tuple") (by rfl) B.tuple boot_tyTuple rfl) pa_nil))))) (pw_or1 (pt_cmpR op_ne (pe_callB call_lenT (by rfl) B.len PySem.boot_len (pa_cons (pv 0) pa_nil)) pe_int (nomark _)))))
        (pss_one (ps_ret pe_str)) pss_nil)
      (pss_cons (ps_asg (pv 0) (pg_tupT (n := 2) rfl (pgs_cons (pg_name (i := 1) sc_wrong_part.nd rfl (by first | exact Or.inl rfl | exact Or.inr rfl)) (pgs_cons (pg_name (i := 2) sc_wrong_part.nd rfl (by first | exact Or.inl rfl | exact Or.inr rfl)) pgs_nil))))
      (pss_cons (ps_if (pt_not (pt_val (pe_c0 c_are_tops (hr.mono (by decide)) (by rfl) (pa_cons (pv 1) pa_nil))))
        (pss_one (ps_ret pe_str)) pss_nil)
      (pss_cons (ps_if (pt_not (pt_val (pe_c0 c_are_looks (hr.mono (by decide)) (by rfl) (pa_cons (pv 2) (pa_cons (pe_callB call_lenT (by rfl) B.len PySem.boot_len (pa_cons (pv 1) pa_nil)) pa_nil)))))
        (pss_one (ps_ret pe_str)) pss_nil)
      (pss_one (ps_ret pe_non)))))), ?_⟩
    refine ⟨_, rfl, _, _, _, _, true, rfl, .ty "tuple", isi_tup ha, kit_ty (by decide +kernel), _, rfl, iteF ?_⟩
    refine ⟨_, rfl, _, _, rfl, .inr ha, rfl, _, rfl, iteF ?_⟩
    refine ⟨_, rfl, a, _, rfl, ha, rfl, _, _, rfl, _, _, rfl, rfl, ?_⟩
    refine ⟨_, rfl, _, W.tops, rfl, ⟨b, rfl, hb⟩, ⟨ok.some_, ok.few⟩, ok.tops, hTb, fun H1 e1 => ⟨_, rfl, iteF ?_⟩⟩
    refine ⟨_, rfl, _, rfl, _, _, rfl, .inr (e1.tup hb), _, W, ?_, hl.ext e1, ok, hTb.ext e1, fun H2 e2 => ⟨_, rfl, iteF (k H2 (e1.trans e2))⟩⟩
    rw [iv_len]
    rfl
theorem ok_check_web {f : Addr} {fd : FuncData} (F : Fun K "check_web" "check_web" s_check_web f fd)
    (c_wrong_part : Cal P w K mg base CX0 5 "wrong_part" ["web"] (spWrongPart Ps)) : FnOk P w K mg base CX0 6 f fd ["web"] (spCheckWeb Ps) := by
  refine F.ok sc_check_web (fun vs H Q E h => ?_) (fun cdv A outer s0 H vs Q E hr h => ?_)
  · obtain ⟨v, W, rfl, _⟩ := h
    rfl
  · obtain ⟨v, W, rfl, hW, ok, hTb, k⟩ := h
    refine ⟨_, (pss_cons (ps_set (i := 1) sc_check_web.nd rfl (by first | exact Or.inl rfl | exact Or.inr rfl) (pe_c0 c_wrong_part (hr.mono (by decide)) (by rfl) (pa_cons (pv 0) pa_nil)))
      (pss_one (ps_if (pt_cmpR op_notN (pv 1) pe_non (nomark _))
        (pss_one ps_never) pss_nil))), ?_⟩
    exact ⟨_, rfl, _, W, rfl, hW, ok, hTb, fun H' e => ⟨_, rfl, rfl, _, rfl, iteF (k H' e)⟩⟩
end
end Lk


/-! ## LkR -/
set_option Elab.async false
set_option linter.all false
set_option maxRecDepth 100000
set_option maxHeartbeats 2000000
/-! The laws' draws: a row of four, the script first. -/
namespace Lk
open PySem PySem.Spec PyProof.Rows L2 Gx
open GxR (TabG Tabbed TabB)
variable [Own]
/-- as Ext, but for the list at r -/
structure ExtB (r : Addr) (H H' : Hp) : Prop where
  keep : ∀ a o, a ≠ r → H a = some o → isTbl o = false → H' a = some o
  tab : ∀ P, TabG H P → TabG H' P
  tb : ∀ a o, H a = some o → ∃ o', H' a = some o'
  own : ∀ P ps, Own.own P → H P = some (.tbl ps) → H' P = some (.tbl ps)
theorem Ext.b {r : Addr} {H H' : Hp} (e : Ext H H') : ExtB r H H' := ⟨fun a o _ h q => e.keep a o h q, e.tab, e.tb, e.own⟩
theorem ExtB.refl (r : Addr) (H : Hp) : ExtB r H H := (Ext.refl H).b
theorem ExtB.trans {r : Addr} {H H1 H2 : Hp} (a : ExtB r H H1) (b : ExtB r H1 H2) : ExtB r H H2 := ⟨fun c o n h q => b.keep c o n (a.keep c o n h q) q, fun P h => b.tab P (a.tab P h), fun c o h => by
  obtain ⟨o', h'⟩ := a.tb c o h
  exact b.tb c o' h', fun P ps o h => b.own P ps o (a.own P ps o h)⟩
theorem ExtB.upd {r : Addr} {H : Hp} {xs ys : List V} (h : H r = some (.lst xs)) : ExtB r H (upd H r (.lst ys)) := ⟨fun a o n e _ => by rw [upd_ne n]; exact e, fun P ⟨ps, e, t⟩ => ⟨ps, by rw [upd_ne (ne_of h e (by intro z; cases z)).symm]; exact e, t⟩, fun a o e => by
  by_cases z : a = r
  · exact ⟨_, by rw [z]; exact upd_same⟩
  · exact ⟨o, by rw [upd_ne z]; exact e⟩, fun P ps _ e => by rw [upd_ne (ne_of h e (by intro z; cases z)).symm]; exact e⟩
theorem ExtB.free {r : Addr} {H H' : Hp} (e : ExtB r H H') {l : Addr} (h : H' l = none) : H l = none := by
  cases q : H l with
  | none => rfl
  | some o =>
    obtain ⟨o', h'⟩ := e.tb l o q
    rw [h] at h'
    cases h'
section
variable {r : Addr} {H H' : Hp} {rs : List V}
theorem ExtB.tup (e : ExtB r H H') (hr : H r = some (.lst rs)) {a : Addr} {xs : List V} (h : H a = some (.tup xs)) : H' a = some (.tup xs) := e.keep _ _ (ne_of hr h (by intro z; cases z)).symm h rfl
theorem ExtB.lst (e : ExtB r H H') {a : Addr} {xs : List V} (n : a ≠ r) (h : H a = some (.lst xs)) : H' a = some (.lst xs) := e.keep _ _ n h rfl
theorem TI.extB (e : ExtB r H H') (hr : H r = some (.lst rs)) {v : V} {ns : List Int} (h : TI H v ns) : TI H' v ns := by
  obtain ⟨a, q, h⟩ := h
  exact ⟨a, q, e.tup hr h⟩
theorem pTI.extB (e : ExtB r H H') (hr : H r = some (.lst rs)) {vs : List V} {rows : List (List Int)} (h : Paired (TI H) vs rows) : Paired (TI H') vs rows := paired_mono (fun _ _ h => h.extB e hr) h
theorem TT2.extB (e : ExtB r H H') (hr : H r = some (.lst rs)) {v : V} {rows : List (List Int)} (h : TT2 H v rows) : TT2 H' v rows := by
  obtain ⟨a, vs, q, h, p⟩ := h
  exact ⟨a, vs, q, e.tup hr h, pTI.extB e hr p⟩
theorem WebAt.extB (e : ExtB r H H') (hr : H r = some (.lst rs)) {v : V} {W : Web} (h : WebAt H v W) : WebAt H' v W := by
  obtain ⟨a, t, l, q, h, p1, p2⟩ := h
  exact ⟨a, t, l, q, e.tup hr h, p1.extB e hr, p2.extB e hr⟩
theorem Tabs.extB {Ps : List Addr} (t : Tabs Ps H) (e : ExtB r H H') : Tabs Ps H' := fun P h => e.tab P (t P h)
end
/-- the rest of a row of draws -/
structure Dr where
  pos : Nat
  rest : Int
  cell : Int
structure Dr.Ok (d : Dr) : Prop where
  r0 : 0 ≤ d.rest
  r1 : d.rest < 2147483647
  c0 : 0 ≤ d.cell
theorem SqL.extB {K : PySem.W.Frag} {r : Addr} {H H' : Hp} (e : ExtB r H H') {a : Addr} {xs : List V} (n : a ≠ r) (h : SqL K H a xs) : SqL K H' a xs := by
  rcases h with (h | ⟨o, h⟩) | h
  · exact .inl (.inl (e.keep _ _ n h rfl))
  · exact .inl (.inr ⟨o, e.keep _ _ n h rfl⟩)
  · exact .inr h
theorem SqL.ext {K : PySem.W.Frag} {H H' : Hp} (e : Ext H H') {a : Addr} {xs : List V} (h : SqL K H a xs) : SqL K H' a xs := by
  rcases h with (h | ⟨o, h⟩) | h
  · exact .inl (.inl (e.keep _ _ h rfl))
  · exact .inl (.inr ⟨o, e.keep _ _ h rfl⟩)
  · exact .inr h
/-- the script, that is no row -/
def ScrAt (K : PySem.W.Frag) (H : Hp) (r sc : Addr) (xs : List V) : Prop := (SqL K H sc xs ∧ sc ≠ r) ∨ ∀ H' : Hp, SqL K H' sc xs
theorem ScrAt.sql {K : PySem.W.Frag} {H : Hp} {r sc : Addr} {xs : List V} (h : ScrAt K H r sc xs) : SqL K H sc xs := by
  rcases h with h | h
  · exact h.1
  · exact h H
theorem ScrAt.extB {K : PySem.W.Frag} {H H' : Hp} {r sc : Addr} {xs : List V} (h : ScrAt K H r sc xs) (e : ExtB r H H') : ScrAt K H' r sc xs := by
  rcases h with ⟨h, n⟩ | h
  · exact .inl ⟨SqL.extB e n h, n⟩
  · exact .inr h
theorem ScrAt.new {K : PySem.W.Frag} {H : Hp} {r sc : Addr} {xs : List V} (h : SqL K H sc xs) (hr : H r = none) (o : HO) : ScrAt K (L2.upd H r o) r sc xs := by
  rcases h with (h | ⟨o', h⟩) | h
  · have n := ne_of_none h hr
    exact .inl ⟨.inl (.inl (by rw [upd_ne n]; exact h)), n⟩
  · have n := ne_of_none h hr
    exact .inl ⟨.inl (.inr ⟨o', by rw [upd_ne n]; exact h⟩), n⟩
  · exact .inr fun _ => .inr h
/-- at a list that stands not in H0 -/
theorem ScrAt.put {K : PySem.W.Frag} {H H0 : Hp} {r sc D : Addr} {xs : List V} (h : ScrAt K H r sc xs) (h0 : ScrAt K H0 r sc xs) (q : H0 D = none) (o : HO) : ScrAt K (L2.upd H D o) r sc xs := by
  rcases h0 with ⟨h0, n0⟩ | h0
  · rcases h0 with (h1 | ⟨o1, h1⟩) | h1
    · have n := ne_of_none h1 q
      refine .inl ⟨?_, n0⟩
      rcases h.sql with (h2 | ⟨o2, h2⟩) | h2
      · exact .inl (.inl (by rw [upd_ne n]; exact h2))
      · exact .inl (.inr ⟨o2, by rw [upd_ne n]; exact h2⟩)
      · exact .inr h2
    · have n := ne_of_none h1 q
      refine .inl ⟨?_, n0⟩
      rcases h.sql with (h2 | ⟨o2, h2⟩) | h2
      · exact .inl (.inl (by rw [upd_ne n]; exact h2))
      · exact .inl (.inr ⟨o2, by rw [upd_ne n]; exact h2⟩)
      · exact .inr h2
    · exact .inr fun _ => .inr h1
  · exact .inr h0
/-- the row stands -/
structure RowAt (K : PySem.W.Frag) (H : Hp) (r sc : Addr) (ns : List Int) (d : Dr) : Prop where
  row : H r = some (.lst [.ref sc, .int d.pos, .int d.rest, .int d.cell])
  scr : ScrAt K H r sc (iv ns)
  len : ns.length ≤ 63
  ok : d.Ok
theorem RowAt.ext {K : PySem.W.Frag} {H H' : Hp} {r sc : Addr} {ns : List Int} {d : Dr} (h : RowAt K H r sc ns d) (e : Ext H H') : RowAt K H' r sc ns d := ⟨e.lst h.row, h.scr.extB e.b, h.len, h.ok⟩
theorem RowAt.extB {K : PySem.W.Frag} {H H' : Hp} {r sc : Addr} {ns : List Int} {d d' : Dr} (h : RowAt K H r sc ns d) (e : ExtB r H H') (hr : H' r = some (.lst [.ref sc, .int d'.pos, .int d'.rest, .int d'.cell])) (ok : d'.Ok) : RowAt K H' r sc ns d' := ⟨hr, h.scr.extB e, h.len, ok⟩
/-- one draw -/
def drawn (ns : List Int) (d : Dr) (m : Int) : Int × Dr :=
  if 0 < d.cell then (d.cell % m, { d with cell := d.cell / m })
  else if ns.length < d.pos + 1 then ((d.rest * 48271 + 11) % 2147483647 / 7 % m, { d with pos := d.pos + 1, rest := (d.rest * 48271 + 11) % 2147483647 })
  else ((ns.getD d.pos 0) % m, { pos := d.pos + 1, rest := (d.rest * 48271 + ns.getD d.pos 0 + 11) % 2147483647, cell := if 10 ^ 18 ≤ ns.getD d.pos 0 then ns.getD d.pos 0 / m else d.cell })
theorem drawn_bd {ns : List Int} {d : Dr} {m : Int} (h : 0 < m) : 0 ≤ (drawn ns d m).1 ∧ (drawn ns d m).1 < m := by
  unfold drawn
  split
  · exact ⟨Int.emod_nonneg _ (by omega), Int.emod_lt_of_pos _ h⟩
  · split
    · exact ⟨Int.emod_nonneg _ (by omega), Int.emod_lt_of_pos _ h⟩
    · exact ⟨Int.emod_nonneg _ (by omega), Int.emod_lt_of_pos _ h⟩
theorem drawn_ok {ns : List Int} {d : Dr} {m : Int} (h : 0 < m) (ok : d.Ok) : (drawn ns d m).2.Ok := by
  have h1 := ok.r0
  have h2 := ok.r1
  have h3 := ok.c0
  unfold drawn
  split
  · exact ⟨h1, h2, Int.ediv_nonneg h3 (by omega)⟩
  · split
    · exact ⟨Int.emod_nonneg _ (by omega), Int.emod_lt_of_pos _ (by omega), h3⟩
    · refine ⟨Int.emod_nonneg _ (by omega), Int.emod_lt_of_pos _ (by omega), ?_⟩
      show 0 ≤ (if 10 ^ 18 ≤ ns.getD d.pos 0 then ns.getD d.pos 0 / m else d.cell)
      split
      · rename_i hh
        exact Int.ediv_nonneg (by omega) (by omega)
      · exact h3
end Lk

/-! ## D20 -/
set_option Elab.async false
set_option linter.all false
set_option maxRecDepth 100000
set_option maxHeartbeats 2000000
namespace Lk
open PySem PySem.Spec PyProof.Rows L2 Gx
open GxR (TabG Tabbed TabB)
variable [Own]
abbrev s__law_taken : Stmt := top 42
theorem sc__law_taken : FnScope ["row", "many", "found", "cell"] ["row", "many"] (defScope s__law_taken) := ⟨rfl, rfl, rfl, by decide +kernel, rfl, by decide +kernel, by decide +kernel⟩
/-- a row of draws stands -/
def Rw (K : PySem.W.Frag) (H : Hp) (r sc : Addr) (ns : List Int) : Prop := ∃ d, RowAt K H r sc ns d
theorem Rw.lst {K : PySem.W.Frag} {H : Hp} {r sc : Addr} {ns : List Int} (h : Rw K H r sc ns) : ∃ rs, H r = some (.lst rs) := by
  obtain ⟨_, h⟩ := h
  exact ⟨_, h.row⟩
theorem Rw.ext {K : PySem.W.Frag} {H H' : Hp} {r sc : Addr} {ns : List Int} (h : Rw K H r sc ns) (e : Ext H H') : Rw K H' r sc ns := by
  obtain ⟨_, h⟩ := h
  exact ⟨_, h.ext e⟩
def spTaken (K : PySem.W.Frag) : Sp := fun vs H Q _ => ∃ (r sc : Addr) (ns : List Int) (m : Int), vs = [.ref r, .int m] ∧ Rw K H r sc ns ∧ (0 < m ∧ m < 1000000) ∧
  ∀ H' i, ExtB r H H' → Rw K H' r sc ns → (∀ a, a ≠ r → H' a = H a) → (0 ≤ i ∧ i < m) → Q (.int i) H'
section
variable {P : Program} {w : World} {K : PySem.W.Frag} {mg : Str → Option Value} {base : Heap} {Ps : List Addr}
theorem ok_taken {f : Addr} {fd : FuncData} (F : Fun K "_law_taken" "_law_taken" s__law_taken f fd) (B : Blt mg) : FnOk P w K mg base CX0 1 f fd ["row", "many"] (spTaken K) := by
  refine F.ok sc__law_taken (fun vs H Q E h => ?_) (fun cdv A outer s0 H vs Q E hr h => ?_)
  · obtain ⟨r, sc, ns, m, rfl, _⟩ := h
    rfl
  · obtain ⟨r, sc, ns, m, rfl, ⟨d, hR⟩, hm, k0⟩ := h
    have k : ∀ H', ExtB r H H' → RowAt K H' r sc ns (drawn ns d m).2 → (∀ a, a ≠ r → H' a = H a) → Q (.int (drawn ns d m).1) H' := fun H' e q t => k0 H' _ e ⟨_, q⟩ t (drawn_bd hm.1)
    refine ⟨_, (pss_cons (ps_if (pt_cmpR op_gt (pe_ix ix_lT (pv 0) pe_int (fun _ _ => rfl)) pe_int (nomark _))
        (pss_cons (ps_set (i := 2) sc__law_taken.nd rfl (by first | exact Or.inl rfl | exact Or.inr rfl) (pe_op op_mod (pe_callTy call_int1 (by rfl) B.int boot_tyInt (pa_cons (pe_ix ix_lT (pv 0) pe_int (fun _ _ => rfl)) pa_nil)) (pv 1)))
        (pss_cons (ps_asg (pe_op op_fdiv (pe_ix ix_lT (pv 0) pe_int (fun _ _ => rfl)) (pv 1)) (pg_sub (pv 0) pe_int set_list))
        (pss_one (ps_ret (pv 2))))) pss_nil)
      (pss_cons (ps_asg (pe_op op_add (pe_ix ix_lT (pv 0) pe_int (fun _ _ => rfl)) pe_int) (pg_sub (pv 0) pe_int set_list))
      (pss_cons (ps_if (pt_cmpR op_gt (pe_ix ix_lT (pv 0) pe_int (fun _ _ => rfl)) (pe_callB call_len_seq (by rfl) B.len PySem.boot_len (pa_cons (pe_ix ix_lT (pv 0) pe_int (fun _ _ => rfl)) pa_nil)) (nomark _))
        (pss_cons (ps_asg (pe_op op_mod (pe_callTy call_int1 (by rfl) B.int boot_tyInt (pa_cons (pe_op op_add (pe_op op_mul (pe_ix ix_lT (pv 0) pe_int (fun _ _ => rfl)) pe_int) pe_int) pa_nil)) pe_int) (pg_sub (pv 0) pe_int set_list))
        (pss_one (ps_ret (pe_op op_mod (pe_callTy call_int1 (by rfl) B.int boot_tyInt (pa_cons (pe_op op_fdiv (pe_ix ix_lT (pv 0) pe_int (fun _ _ => rfl)) pe_int) pa_nil)) (pv 1))))) pss_nil)
      (pss_cons (ps_set (i := 3) sc__law_taken.nd rfl (by first | exact Or.inl rfl | exact Or.inr rfl) (pe_ix ix_list (pe_ix ix_lT (pv 0) pe_int (fun _ _ => rfl)) (pe_op op_sub (pe_ix ix_lT (pv 0) pe_int (fun _ _ => rfl)) pe_int) (fun _ _ => rfl)))
      (pss_cons (ps_asg (pe_op op_mod (pe_callTy call_int1 (by rfl) B.int boot_tyInt (pa_cons (pe_op op_add (pe_op op_add (pe_op op_mul (pe_ix ix_lT (pv 0) pe_int (fun _ _ => rfl)) pe_int) (pv 3)) pe_int) pa_nil)) pe_int) (pg_sub (pv 0) pe_int set_list))
      (pss_cons (ps_if (pt_cmpR op_ge (pv 3) (pe_op op_pow pe_int pe_int) (nomark _))
        (pss_one (ps_asg (pe_op op_fdiv (pv 3) (pv 1)) (pg_sub (pv 0) pe_int set_list))) pss_nil)
      (pss_one (ps_ret (pe_op op_mod (pe_callTy call_int1 (by rfl) B.int boot_tyInt (pa_cons (pv 3) pa_nil)) (pv 1)))))))))), ?_⟩
    have h1 := hR.ok.r0
    have h2 := hR.ok.r1
    have h3 := hR.ok.c0
    have k1 := k
    refine ⟨_, rfl, r, _, _, _, rfl, rfl, hR.row, rfl, _, _, rfl, rfl, _, rfl, ?_⟩
    unfold drawn at k1
    by_cases hc : 0 < d.cell
    · rw [if_pos hc] at k1
      rw [decide_eq_true hc]
      refine iteT ?_
      refine ⟨_, rfl, r, _, _, _, rfl, rfl, hR.row, rfl, .inl ⟨_, rfl, _, rfl, _, _, rfl, rfl, hm.1, ?_⟩⟩
      refine ⟨_, rfl, r, _, _, _, rfl, rfl, hR.row, rfl, _, rfl, _, _, rfl, rfl, ⟨hm.1, by omega⟩, _, rfl, r, _, _, _, rfl, rfl, hR.row, rfl, _, rfl, ?_⟩
      exact k1 _ (ExtB.upd hR.row) (hR.extB (ExtB.upd hR.row) upd_same ⟨h1, h2, Int.ediv_nonneg h3 (by omega)⟩) fun a ha => upd_ne ha
    · rw [if_neg hc] at k1
      rw [decide_eq_false hc]
      refine iteF ?_
      refine ⟨_, rfl, r, _, _, _, rfl, rfl, hR.row, rfl, _, _, rfl, rfl, _, rfl, r, _, _, _, rfl, rfl, hR.row, rfl, ?_⟩
      have b1 := ExtB.upd (ys := [V.ref sc, .int ((d.pos : Int) + 1), .int d.rest, .int d.cell]) hR.row
      have r1 : (upd H r (.lst [V.ref sc, .int ((d.pos : Int) + 1), .int d.rest, .int d.cell])) r = some (.lst [V.ref sc, .int ((d.pos : Int) + 1), .int d.rest, .int d.cell]) := upd_same
      have s1 := (hR.scr.extB b1).sql
      refine ⟨_, rfl, r, _, _, _, rfl, rfl, r1, rfl, _, rfl, r, _, _, _, rfl, rfl, r1, rfl, sc, _, rfl, .inl s1, _, _, rfl, rfl, _, rfl, ?_⟩
      have eL : decide (((iv ns).length : Int) < (d.pos : Int) + 1) = decide (ns.length < d.pos + 1) := by
        rw [iv_len]
        exact decide_eq_decide.mpr (by omega)
      rw [eL]
      by_cases hL : ns.length < d.pos + 1
      · rw [if_pos hL] at k1
        rw [decide_eq_true hL]
        refine iteT ?_
        refine ⟨_, rfl, r, _, _, _, rfl, rfl, r1, rfl, _, _, rfl, rfl, .inl ⟨by omega, by omega⟩, _, _, rfl, rfl, .inl ⟨_, rfl, _, _, rfl, rfl, (show (0 : Int) < 2147483647 by decide), ?_⟩⟩
        refine ⟨_, rfl, r, _, _, _, rfl, rfl, r1, rfl, ?_⟩
        have eu : ∀ z w : HO, upd (upd H r z) r w = upd H r w := fun z w => upd_upd
        rw [eu]
        refine ⟨_, rfl, r, _, _, _, rfl, rfl, upd_same, rfl, _, _, rfl, rfl, ⟨by decide, by decide⟩, .inl ⟨_, rfl, _, rfl, _, _, rfl, rfl, hm.1, ?_⟩⟩
        exact k1 _ (ExtB.upd hR.row) (hR.extB (ExtB.upd hR.row) upd_same ⟨Int.emod_nonneg _ (by omega), Int.emod_lt_of_pos _ (by omega), h3⟩) fun a ha => upd_ne ha
      · rw [if_neg hL] at k1
        rw [decide_eq_false hL]
        refine iteF ?_
        have hp : ns[d.pos]? = some (ns.getD d.pos 0) := by rw [List.getD_eq_getElem?_getD, List.getElem?_eq_getElem (by omega)]; rfl
        generalize ns.getD d.pos 0 = cell at hp k1
        refine ⟨_, rfl, r, _, _, _, rfl, rfl, r1, rfl, _, rfl, r, _, _, _, rfl, rfl, r1, rfl, _, _, rfl, rfl, sc, _, _, _, rfl, rfl, s1, at_of (j := d.pos) (by omega) (iv_at hp), ?_⟩
        refine ⟨_, rfl, r, _, _, _, rfl, rfl, r1, rfl, _, _, rfl, rfl, .inl ⟨by omega, by omega⟩, _, rfl, _, _, rfl, rfl, _, _, rfl, rfl, .inl ⟨_, rfl, _, _, rfl, rfl, (show (0 : Int) < 2147483647 by decide), ?_⟩⟩
        refine ⟨_, rfl, r, _, _, _, rfl, rfl, r1, rfl, ?_⟩
        have eu : ∀ z w : HO, upd (upd H r z) r w = upd H r w := fun z w => upd_upd
        rw [eu]
        refine ⟨_, rfl, _, _, rfl, rfl, ⟨by decide, by decide, by decide⟩, _, _, rfl, rfl, _, rfl, ?_⟩
        have e18 : (10 : Int) ^ (18 : Int).toNat = 10 ^ 18 := rfl
        rw [e18]
        have i1 : 0 ≤ (d.rest * 48271 + cell + 11) % 2147483647 := Int.emod_nonneg _ (by omega)
        have i2 : (d.rest * 48271 + cell + 11) % 2147483647 < 2147483647 := Int.emod_lt_of_pos _ (by omega)
        by_cases h18 : 10 ^ 18 ≤ cell
        · rw [if_pos h18] at k1
          rw [decide_eq_true h18]
          refine iteT ?_
          refine ⟨_, rfl, _, rfl, _, _, rfl, rfl, ⟨hm.1, by omega⟩, _, rfl, r, _, _, _, rfl, rfl, upd_same, rfl, ?_⟩
          rw [eu]
          refine ⟨_, rfl, .inl ⟨_, rfl, _, rfl, _, _, rfl, rfl, hm.1, ?_⟩⟩
          exact k1 _ (ExtB.upd hR.row) (hR.extB (ExtB.upd hR.row) upd_same ⟨i1, i2, Int.ediv_nonneg (by omega) (by omega)⟩) fun a ha => upd_ne ha
        · rw [if_neg h18] at k1
          rw [decide_eq_false h18]
          refine iteF ?_
          refine ⟨_, rfl, .inl ⟨_, rfl, _, rfl, _, _, rfl, rfl, hm.1, ?_⟩⟩
          exact k1 _ (ExtB.upd hR.row) (hR.extB (ExtB.upd hR.row) upd_same ⟨i1, i2, h3⟩) fun a ha => upd_ne ha
end
end Lk


/-! ## D05 -/
set_option Elab.async false
set_option linter.all false
set_option maxRecDepth 100000
set_option maxHeartbeats 2000000
namespace Lk
open PySem PySem.Spec PyProof.Rows L2 Gx
open GxR (TabG Tabbed TabB)
variable [Own]
/-- the moods up to a top -/
def moods (t : Int) : List Int := (List.range (t + 1).toNat).map fun k : Nat => (k : Int)
def rowsStep (rows : List (List Int)) (t : Int) : List (List Int) := rows.flatMap fun r => (moods t).map fun m => r ++ [m]
/-- all rows of moods up to these tops -/
def rowsOf (tops : List Int) : List (List Int) := tops.foldl rowsStep [[]]
theorem moods_len (t : Int) : (moods t).length = (t + 1).toNat := by unfold moods; rw [List.length_map, List.length_range]
theorem rowsStep_len (rows : List (List Int)) (t : Int) : (rowsStep rows t).length = rows.length * (t + 1).toNat := by
  unfold rowsStep
  induction rows with
  | nil => simp
  | cons r rs ih =>
    rw [List.flatMap_cons, List.length_append, ih, List.length_map, moods_len, List.length_cons, Nat.add_mul, Nat.one_mul, Nat.add_comm]
theorem rows_len4 {tops : List Int} (h : ∀ t ∈ tops, t ≤ 3) : ∀ rows : List (List Int), (tops.foldl rowsStep rows).length ≤ rows.length * 4 ^ tops.length := by
  induction tops with
  | nil => intro rows; simp
  | cons t ts ih =>
    intro rows
    have h1 := ih (fun u hu => h u (List.mem_cons_of_mem _ hu)) (rowsStep rows t)
    rw [rowsStep_len] at h1
    have h2 : (t + 1).toNat ≤ 4 := by
      have := h t (List.mem_cons_self ..)
      omega
    rw [List.foldl_cons, List.length_cons, Nat.pow_succ]
    refine Nat.le_trans h1 ?_
    have h3 : rows.length * (t + 1).toNat ≤ rows.length * 4 := Nat.mul_le_mul_left _ h2
    calc rows.length * (t + 1).toNat * 4 ^ ts.length ≤ rows.length * 4 * 4 ^ ts.length := Nat.mul_le_mul_right _ h3
      _ = rows.length * (4 ^ ts.length * 4) := by rw [Nat.mul_assoc, Nat.mul_comm 4]
theorem rows_row {tops : List Int} : ∀ {rows : List (List Int)} {n : Nat}, (∀ r ∈ rows, r.length = n) → ∀ r ∈ tops.foldl rowsStep rows, r.length = n + tops.length := by
  induction tops with
  | nil => intro rows n h r hr; simpa using h r hr
  | cons t ts ih =>
    intro rows n h r hr
    rw [List.foldl_cons] at hr
    have := ih (rows := rowsStep rows t) (n := n + 1) (fun q hq => by
      unfold rowsStep at hq
      obtain ⟨z, hz, hq⟩ := List.mem_flatMap.mp hq
      obtain ⟨m, _, rfl⟩ := List.mem_map.mp hq
      rw [List.length_append, h z hz]
      rfl) r hr
    rw [this, List.length_cons]
    omega
def spRowsOf : Sp := fun vs H Q _ => ∃ (v : V) (tops : List Int), vs = [v] ∧ TI H v tops ∧ tops.length ≤ 6 ∧ (∀ t ∈ tops, 0 ≤ t ∧ t ≤ 3) ∧ ∀ H' p vs, Ext H H' → H p = none → H' p = some (.lst vs) → Paired (TI H') vs (rowsOf tops) → Q (.ref p) H'
theorem foldl_take {α β : Type} {f : α → β → α} {a : α} {l : List β} {i : Nat} {x : β} (h : l[i]? = some x) : (l.take (i + 1)).foldl f a = f ((l.take i).foldl f a) x := by
  rw [List.take_add_one, h]
  simp
theorem flatMap_take {α β : Type} {f : α → List β} {l : List α} {i : Nat} {x : α} (h : l[i]? = some x) : (l.take (i + 1)).flatMap f = (l.take i).flatMap f ++ f x := by
  rw [List.take_add_one, h]
  simp
section
variable {P : Program} {w : World} {K : PySem.W.Frag} {mg : Str → Option Value} {base : Heap} {Ps : List Addr}
end
end Lk


/-! ## Seq2 -/
set_option Elab.async false
set_option linter.all false
set_option maxRecDepth 100000
set_option maxHeartbeats 2000000
/-! Walks over a list or a tuple. -/
namespace Lk
open PySem PySem.Spec PyProof.Rows L2 Gx
variable [Own]
/-- a list (true) or a tuple of these -/
def SqB (k : Bool) (H : Hp) (a : Addr) (xs : List V) : Prop := if k = true then H a = some (.lst xs) else H a = some (.tup xs)
theorem SqB.ext {k : Bool} {H H' : Hp} {a : Addr} {xs : List V} (e : Ext H H') (h : SqB k H a xs) : SqB k H' a xs := by
  cases k with
  | true => exact e.lst h
  | false => exact e.tup h
def itB (K : PySem.W.Frag) (k : Bool) (a : Addr) : It := if k = true then Itl K a else Itt K a
def iSeqV (K : PySem.W.Frag) (i : Nat) : L2.TI := fun σ H R => ∃ a, σ[i]? = some (some (.ref a)) ∧ ∃ (k : Bool) (xs : List V), SqB k H a xs ∧ R (itB K k a) H
section
variable {X : Cx} {tg l : Expr}
theorem pi_seqV {i : Nat} (hv : PE X l (tVar i)) : PI X tg l (iSeqV X.K i) := by
  refine ⟨fun pins s σ H R I h => ?_⟩
  obtain ⟨a, e, k, xs, h, r⟩ := h
  cases k with
  | true => exact (pi_list hv).run pins s σ H R I ⟨_, e, a, rfl, ⟨xs, SqL.of h⟩, r⟩
  | false => exact (pi_tup hv).run pins s σ H R I ⟨_, e, a, rfl, ⟨xs, SqT.of h⟩, r⟩
end
theorem for_seq {K : PySem.W.Frag} {k : Bool} {a : Addr} {xs : List V} {g : TG} {tb : TS} {D : Ends} {σ : L2.St} {H : Hp} (Pv : Nat → L2.St → Hp → Prop) (h0 : Pv 0 σ H) (hl : ∀ i σ H, i ≤ xs.length → Pv i σ H → SqB k H a xs)
    (hs : ∀ i x σ H, xs[i]? = some x → Pv i σ H → g x σ H fun σ2 H2 => tb { nx := Pv (i + 1), rt := D.rt, bk := D.nx, ct := Pv (i + 1) } σ2 H2) (hd : ∀ σ H, Pv xs.length σ H → D.nx σ H) :
    ∃ W : Nat → Nat → L2.St → Hp → Prop, (∃ m, W 0 m σ H) ∧ ∀ i m σ H, W i m σ H → (itB K k a).stop i H ∧ D.nx σ H ∨ (itB K k a).go i H ∧
      ∃ N : L2.St → Hp → Prop, (∀ σ' H', N σ' H' → ∃ m', m' < m ∧ W (i + 1) m' σ' H') ∧ ∀ x H', (itB K k a).yld i H x H' → g x σ H' fun σ2 H2 => tb { nx := N, rt := D.rt, bk := D.nx, ct := N } σ2 H2 := by
  cases k with
  | true => exact for_list (K := K) (a := a) (xs := xs) Pv h0 (fun i σ H hi p => SqL.of (hl i σ H hi p)) hs hd
  | false => exact for_tup (K := K) (a := a) (xs := xs) Pv h0 (fun i σ H hi p => SqT.of (hl i σ H hi p)) hs hd
theorem paired_app {α β : Type} {R : α → β → Prop} : ∀ {l l' : List α} {m m' : List β}, Paired R l m → Paired R l' m' → Paired R (l ++ l') (m ++ m')
  | _, _, _, _, .nil, q => q
  | _, _, _, _, .cons r t, q => .cons r (paired_app t q)
end Lk

/-! ## Zip3 -/
set_option Elab.async false
set_option linter.all false
set_option maxRecDepth 100000
set_option maxHeartbeats 2000000
/-! zip of a list and two tuples of one length. -/
namespace Lk
open PySem PySem.Spec PyProof.Rows L2 Gx
variable [Own]
/-- what stands at the three -/
def At3 (a b c : Addr) (H : Hp) (xs ys zs : List V) : Prop := (H a = some (.lst xs) ∧ H b = some (.tup ys) ∧ H c = some (.tup zs)) ∧ ys.length = xs.length ∧ zs.length = xs.length
def Itz3 (a b c : Addr) : It where
  go i H := ∃ xs ys zs, At3 a b c H xs ys zs ∧ i < xs.length
  yld i H v H' := ∃ T x y u, v = .ref T ∧ H T = none ∧ H' = upd H T (.tup [x, y, u]) ∧ ∀ xs ys zs, At3 a b c H xs ys zs → xs[i]? = some x ∧ ys[i]? = some y ∧ zs[i]? = some u
  stop i H := ∃ xs ys zs, At3 a b c H xs ys zs ∧ i = xs.length
theorem vals_arr {xs : List V} {its : List Value} (v : Vals xs its) {i : Nat} {u : Value} (h : its.toArray[i]? = some u) : ∃ x, xs[i]? = some x ∧ L2.RelV x u := by
  have h2 : its[i]? = some u := by simpa using h
  exact paired_get v h2
theorem istup_is {h : Heap} {a : Addr} {arr : Array Value} (q : IsTup h a arr) : h.IsTuple a arr := by
  first
  | exact q
  | (obtain ⟨n, q⟩ := q; exact ⟨_, q, rfl, n, rfl⟩)
  | exact ⟨_, q, rfl, _, rfl⟩
theorem is_istup {h : Heap} {a : Addr} {arr : Array Value} (q : h.IsTuple a arr) (h0 : ∀ o, h.get? a = some o → o.cls = .type "tuple" → True) : IsTup h a arr := by
  first
  | exact q
  | exact ⟨_, q⟩
theorem get_lt {h : Heap} {a : Addr} {o : Obj} (e : h.get? a = some o) : a < h.objs.size := by
  rcases Nat.lt_or_ge a h.objs.size with q | q
  · exact q
  · exfalso
    unfold Heap.get? at e
    rw [Array.getElem?_eq_none q] at e
    cases e
abbrev tn3 (z TI TO i1 i2 i3 a b c : Addr) : Nat → Heap → Prop := fun i h => IsZip h z TI TO .none ∧ IsTupOf3 h TI (.ref i1) (.ref i2) (.ref i3) ∧ (∃ a1 a2 a3, IsTupOf3 h TO a1 a2 a3) ∧ h.IsListIter i1 a i ∧ h.IsTupleIter i2 b i ∧ h.IsTupleIter i3 c i
section
variable {P : Program} {w : World} {K : PySem.W.Frag}
theorem turn_zip3 {elts : List Expr} {kk : Nat} {tpos : Pos} {a b c z TI TO i1 i2 i3 : Addr} (sep : ZipSep3 z TI TO i1 i2 i3 [i1, a] [i2, b] [i3, c]) (n1 : a ≠ i1) (n2 : b ≠ i2) (n3 : c ≠ i3) :
    Turn P w K (.Tuple elts kk tpos) (Itz3 a b c) [z, TI, TO, i1, i2, i3] z (tn3 z TI TO i1 i2 i3 a b c) := by
  refine ⟨List.mem_cons_self .., ?_, ?_, ?_, ?_, ?_⟩
  · rintro i h ⟨hz, hti, ⟨a1, a2, a3, hto⟩, ⟨o1, h1, c1, d1⟩, ⟨o2, h2, c2, d2⟩, ⟨o3, h3, c3, d3⟩⟩ q hq
    simp only [List.mem_cons, List.mem_nil_iff, or_false] at hq
    rcases hq with rfl | rfl | rfl | rfl | rfl | rfl
    · exact ⟨_, hz, fun v e => by cases e⟩
    · exact ⟨_, hti, fun v e => by cases e⟩
    · exact ⟨_, hto, fun v e => by cases e⟩
    · exact ⟨_, h1, fun v e => by rw [d1] at e; cases e⟩
    · exact ⟨_, h2, fun v e => by rw [d2] at e; cases e⟩
    · exact ⟨_, h3, fun v e => by rw [d3] at e; cases e⟩
  · rintro i h h' ⟨hz, hti, ⟨a1, a2, a3, hto⟩, ⟨o1, h1, c1, d1⟩, ⟨o2, h2, c2, d2⟩, ⟨o3, h3, c3, d3⟩⟩ kp
    exact ⟨kp z (by simp) _ hz, kp TI (by simp) _ hti, ⟨a1, a2, a3, kp TO (by simp) _ hto⟩, ⟨o1, kp i1 (by simp) _ h1, c1, d1⟩, ⟨o2, kp i2 (by simp) _ h2, c2, d2⟩, ⟨o3, kp i3 (by simp) _ h3, c3, d3⟩⟩
  · rintro X rfl rfl rfl calm i pins s σ H E I hfp ⟨hz, hti, hto, h1, h2, h3⟩ ⟨xs, ys, zs, ⟨⟨ea, eb, ec⟩, ly, lz⟩, hi⟩
    obtain ⟨its1, m1, v1, g1, s1⟩ := I.lst ea
    obtain ⟨its2, v2, g2, s2⟩ := I.tuple (SqT.of eb)
    obtain ⟨its3, v3, g3, s3⟩ := I.tuple (SqT.of ec)
    have hA : X.A.in1.handled = none := I.ok.hd calm
    have G := GoesN.zip3 (prog := X.prog) (w := X.w) (A := X.A) (elts := elts) (x1 := kk) (pos := tpos) sep (Draws.list hA i1 a n1 its1.toArray) (Draws.tuple hA i2 b n2 its2.toArray) (Draws.tuple hA i3 c n3 its3.toArray)
    have l1 := paired_len v1
    have l2 := paired_len v2
    have l3 := paired_len v3
    refine G.goes i s _ E (by simp only [List.size_toArray]; omega) ⟨hz, hti, hto, ⟨h1, ⟨_, g1, rfl, _, rfl⟩⟩, ⟨h2, istup_is g2⟩, ⟨h3, istup_is g3⟩⟩ ?_
    rintro v h' tk ⟨T, x, y, u, rfl, hT, p1, p2, p3, hI⟩ ⟨qz, qti, qto, ⟨q1, _⟩, ⟨q2, _⟩, ⟨q3, _⟩⟩ kp ht
    obtain ⟨x', e1, r1⟩ := vals_arr v1 p1
    obtain ⟨y', e2, r2⟩ := vals_arr v2 p2
    obtain ⟨u', e3, r3⟩ := vals_arr v3 p3
    have hT0 : H T = none := I.hok.fresh hT
    have I2 := I.turnedNew (h' := h') (t' := tk) (ch := [z, TO, i1, i2, i3]) (T := T) (ob := .tup [x', y', u']) kp (fun q hq => hfp q (by
      simp only [List.mem_cons, List.mem_nil_iff, or_false] at hq ⊢
      rcases hq with h | h | h | h | h <;> simp [h])) hT (by
        unfold ObjOk
        exact ⟨by show 3 ≤ sizeLine; decide, [x, y, u], .cons r1 (.cons r2 (.cons r3 .nil)), hI⟩)
    refine ⟨.ref T, _, I2, rfl, ⟨T, x', y', u', rfl, hT0, rfl, ?_⟩, ⟨qz, qti, qto, q1, q2, q3⟩, fun q hq => ?_⟩
    · rintro xs' ys' zs' ⟨⟨fa, fb, fc⟩, _, _⟩
      rw [ea] at fa
      rw [eb] at fb
      rw [ec] at fc
      cases fa
      cases fb
      cases fc
      exact ⟨e1, e2, e3⟩
    · obtain ⟨hn, _⟩ := hfp q hq
      obtain ⟨o, ho, _⟩ : ∃ o, s.heap.get? q = some o ∧ True := by
        obtain ⟨a1, a2, a3, hto⟩ := hto
        obtain ⟨o1, h1, _⟩ := h1
        obtain ⟨o2, h2, _⟩ := h2
        obtain ⟨o3, h3, _⟩ := h3
        simp only [List.mem_cons, List.mem_nil_iff, or_false] at hq
        rcases hq with rfl | rfl | rfl | rfl | rfl | rfl
        · exact ⟨_, hz, trivial⟩
        · exact ⟨_, hti, trivial⟩
        · exact ⟨_, hto, trivial⟩
        · exact ⟨_, h1, trivial⟩
        · exact ⟨_, h2, trivial⟩
        · exact ⟨_, h3, trivial⟩
      have : q ≠ T := fun e => by
        rw [e] at ho
        exact absurd (get_lt ho) (Nat.not_lt.mpr hT)
      rw [upd_ne this]
      exact hn
  · rintro X rfl rfl rfl calm i pins s σ H E I hfp ⟨hz, hti, hto, h1, h2, h3⟩ ⟨xs, ys, zs, ⟨⟨ea, eb, ec⟩, ly, lz⟩, hi⟩
    obtain ⟨its1, m1, v1, g1, s1⟩ := I.lst ea
    obtain ⟨its2, v2, g2, s2⟩ := I.tuple (SqT.of eb)
    obtain ⟨its3, v3, g3, s3⟩ := I.tuple (SqT.of ec)
    have hA : X.A.in1.handled = none := I.ok.hd calm
    have G := GoesN.zip3 (prog := X.prog) (w := X.w) (A := X.A) (elts := elts) (x1 := kk) (pos := tpos) sep (Draws.list hA i1 a n1 its1.toArray) (Draws.tuple hA i2 b n2 its2.toArray) (Draws.tuple hA i3 c n3 its3.toArray)
    have l1 := paired_len v1
    have l2 := paired_len v2
    have l3 := paired_len v3
    have en : min (min its1.toArray.size its2.toArray.size) its3.toArray.size = i := by simp only [List.size_toArray]; omega
    refine G.stops s _ E (by rw [en]; exact ⟨hz, hti, hto, ⟨h1, ⟨_, g1, rfl, _, rfl⟩⟩, ⟨h2, istup_is g2⟩, ⟨h3, istup_is g3⟩⟩) ?_
    intro h' tk kp ht
    exact I.turnedL (h' := h') (t' := tk) (ch := [z, TO, i1, i2, i3]) kp (fun q hq => hfp q (by
      simp only [List.mem_cons, List.mem_nil_iff, or_false] at hq ⊢
      rcases hq with h | h | h | h | h <;> simp [h]))
  · rintro A i s Q E ⟨hz, _⟩ q
    exact wpAny_pyIter_zip hz q
def iZip3 (ta : TA) : L2.TI := fun σ H R => ta σ H fun vs H1 => ∃ (a b c : Addr) (xs ys zs : List V), vs = [.ref a, .ref b, .ref c] ∧ At3 a b c H1 xs ys zs ∧ R (Itz3 a b c) H1
theorem pi_zip3 {X : Cx} {e e2 e3 : Expr} {ta : TA} {p pos tpos : Pos} {elts : List Expr} {kk : Nat} (hg : Gl X "zip") (hm : X.mg "zip" = none) (ha : PA X [e, e2, e3] ta)
    (hs : starEach [e, e2, e3] X.env = (false, eval e X.env) :: starEach [e2, e3] X.env := by rfl) (hpl : (backTo pos (starEach [e2, e3] X.env)).any (·.1) = false := by rfl) :
    PI X (.Tuple elts kk tpos) (.Call (.Name "zip" p) [e, e2, e3] [] pos) (iZip3 ta) := by
  refine ⟨fun pins s σ H R I h => ?_⟩
  refine Call_ (ld_blt I hg hm boot_zip (PyProof.Rows.callWith_type1 (thn (ha.run pos pins s σ H _ I h) fun us s2 q => ?_) hs hpl))
  obtain ⟨vs, H2, I2, rv, a, b, c, xs, ys, zs, rfl, hat, r⟩ := q
  obtain ⟨⟨ea, eb, ec⟩, ly, lz⟩ := id hat
  cases rv with
  | cons r1 rv =>
  cases rv with
  | cons r2 rv =>
  cases rv with
  | cons r3 rv =>
  cases rv
  cases r1
  cases r2
  cases r3
  obtain ⟨its1, m1, v1, g1, s1⟩ := I2.lst ea
  obtain ⟨its2, v2, g2, s2'⟩ := I2.tuple (SqT.of eb)
  obtain ⟨its3, v3, g3, s3⟩ := I2.tuple (SqT.of ec)
  have la := get_lt g1
  have lb : b < s2.heap.objs.size := by obtain ⟨o, g, _⟩ := g2; exact get_lt g
  have lc : c < s2.heap.objs.size := by obtain ⟨o, g, _⟩ := g3; exact get_lt g
  refine zip_begins3 (begins_list a its1.toArray) (begins_tuple b its2.toArray) (begins_tuple c its3.toArray) ⟨_, g1, rfl, _, rfl⟩ (istup_is g2) (istup_is g3) ?_
  intro h' hz hti hto e1 e2 e3 hsz kp
  refine wpAny_pyIter_zip hz ?_
  have sep := zip_sep3 (N := s2.heap.objs.size) (fp1 := [a]) (fp2 := [b]) (fp3 := [c]) (by simpa using la) (by simpa using lb) (by simpa using lc)
  have I3 : L2.Inv X pins σ H2 { heap := h', gens := s2.gens, drawn := s2.drawn, toks := s2.toks, os := s2.os } := I2.kept kp
  refine ⟨_, _, _, _, H2, rfl, I3, turn_zip3 sep (Nat.ne_of_lt la) (Nat.ne_of_lt (Nat.lt_succ_of_lt lb)) (Nat.ne_of_lt (Nat.lt_succ_of_lt (Nat.lt_succ_of_lt lc))), ⟨hz, hti, ⟨_, _, _, hto⟩, ⟨_, e1, rfl, rfl⟩, ⟨_, e2, rfl, rfl⟩, ⟨_, e3, rfl, rfl⟩⟩, fun q hq => ?_, r⟩
  have hq2 : s2.heap.objs.size ≤ q := by
    simp only [List.mem_cons, List.mem_nil_iff, or_false] at hq
    rcases hq with h | h | h | h | h | h <;> (rw [h]; simp)
  exact I2.fpOk hq2 (I2.hok.fresh hq2)
theorem walk_zip3 {a b c : Addr} {xs ys zs : List V} : Walk (Itz3 a b c) xs.length (fun H => At3 a b c H xs ys zs) (fun i H v H' => ∃ T x y u, v = .ref T ∧ H T = none ∧ H' = upd H T (.tup [x, y, u]) ∧ xs[i]? = some x ∧ ys[i]? = some y ∧ zs[i]? = some u) := by
  refine ⟨fun i H hi h => ⟨xs, ys, zs, h, hi⟩, fun H h => ⟨xs, ys, zs, h, rfl⟩, fun i H x H' hi h y => ?_⟩
  obtain ⟨T, x', y', u, e, h0, e2, q⟩ := y
  exact ⟨T, x', y', u, e, h0, e2, q xs ys zs h⟩
end
end Lk

/-! ## D24 -/
set_option Elab.async false
set_option linter.all false
set_option maxRecDepth 100000
set_option maxHeartbeats 2000000
namespace Lk
open PySem PySem.Spec PyProof.Rows L2 Gx
open GxR (TabG Tabbed TabB)
variable [Own]
/-- a comprehension over any walk -/
theorem lc_walk {J : It} {n : Nat} {G : Hp → Prop} {Y : Nat → Hp → V → Hp → Prop} (w : Walk J n G Y) {g : TG} {tt : TT} {te : TE} {vs : List Nat} {σ : L2.St} {H1 : Hp} {D : Addr} {Qd : Hp → Prop} (Pv : Nat → Hp → Prop) (h0 : Pv 0 (upd H1 D (.lst []))) (hG : ∀ i H, i ≤ n → Pv i H → G H)
    (hs : ∀ i x H H', i < n → Pv i H → Y i H x H' → g x (wipe σ vs) H' fun σ2 H2 => wipe σ2 vs = wipe σ vs ∧ tt σ2 H2 fun b H3 =>
      if b = true then te σ2 H3 fun y H4 => ∃ acc, H4 D = some (.lst acc) ∧ acc.length < sizeLine ∧ Pv (i + 1) (upd H4 D (.lst (acc ++ [y]))) else Pv (i + 1) H3) (hd : ∀ H, Pv n H → Qd H) :
    ∃ W : Nat → Nat → Hp → Prop, (∃ m, W 0 m (upd H1 D (.lst []))) ∧ ∀ i m H, W i m H →
      (J.stop i H ∧ Qd H) ∨ (J.go i H ∧ ∃ Nx : Hp → Prop, (∀ H', Nx H' → ∃ m', m' < m ∧ W (i + 1) m' H') ∧ ∀ x H', J.yld i H x H' → g x (wipe σ vs) H' fun σ2 H2 => wipe σ2 vs = wipe σ vs ∧ tt σ2 H2 fun b H3 =>
        if b = true then te σ2 H3 fun y H4 => ∃ acc, H4 D = some (.lst acc) ∧ acc.length < sizeLine ∧ Nx (upd H4 D (.lst (acc ++ [y]))) else Nx H3) := by
  refine ⟨fun i m H => m = n - i ∧ i ≤ n ∧ Pv i H, ⟨n, by simp, Nat.zero_le _, h0⟩, ?_⟩
  rintro i m H ⟨rfl, hi, p⟩
  have q := hG i H hi p
  by_cases hlt : i < n
  · exact .inr ⟨w.goes i H hlt q, Pv (i + 1), fun H' p' => ⟨n - (i + 1), by omega, rfl, hlt, p'⟩, fun x H' y => hs i x H H' hlt p (w.yields i H x H' hlt q y)⟩
  · have e : i = n := by omega
    subst e
    exact .inl ⟨w.stops H q, hd H p⟩
/-- an empty list, told of any -/
def rEqLn : R2 := fun x y H Q => ∃ (a b : Addr) (n : Nat), x = .ref a ∧ y = .ref b ∧ H a = some (.lst (List.replicate n (.int 1))) ∧ H b = some (.lst []) ∧ Q (.bl (decide (n = 0))) H
/-- nowhere worse, by signs -/
def lawGoes : List Int → List Int → List Int → Bool
  | s :: ss, x :: xs, y :: ys => !decide (s * (y - x) < 0) && lawGoes ss xs ys
  | _, _, _ => true
def spLawGoes : Sp := fun vs H Q _ => ∃ (a : Addr) (x y : V) (ss xs ys : List Int), vs = [.ref a, x, y] ∧ H a = some (.lst (iv ss)) ∧ TI H x xs ∧ TI H y ys ∧ xs.length = ss.length ∧ ys.length = ss.length ∧ ss.length ≤ 1000 ∧ (∀ s ∈ ss, s = 1 ∨ s = -1) ∧ (∀ x ∈ xs, 0 ≤ x ∧ x ≤ 1000) ∧ (∀ x ∈ ys, 0 ≤ x ∧ x ≤ 1000) ∧
  ∀ H', Ext H H' → Q (.bl (lawGoes ss xs ys)) H'
def worse (ss xs ys : List Int) : Nat → Nat
  | 0 => 0
  | n + 1 => worse ss xs ys n + if ss.getD n 0 * (ys.getD n 0 - xs.getD n 0) < 0 then 1 else 0
theorem worse_le (ss xs ys : List Int) : ∀ n, worse ss xs ys n ≤ n
  | 0 => Nat.le_refl _
  | n + 1 => by
    have := worse_le ss xs ys n
    unfold worse
    split <;> omega
theorem worse_cons (s x y : Int) (ss xs ys : List Int) : ∀ n, worse (s :: ss) (x :: xs) (y :: ys) (n + 1) = (if s * (y - x) < 0 then 1 else 0) + worse ss xs ys n
  | 0 => by simp [worse]
  | n + 1 => by
    have := worse_cons s x y ss xs ys n
    rw [worse, this, worse]
    simp only [List.getD_cons_succ]
    omega
theorem worse_goes : ∀ (ss xs ys : List Int), xs.length = ss.length → ys.length = ss.length → decide (worse ss xs ys ss.length = 0) = lawGoes ss xs ys
  | [], [], [], _, _ => by simp [worse, lawGoes]
  | s :: ss, x :: xs, y :: ys, h1, h2 => by
    rw [List.length_cons, worse_cons, lawGoes, ← worse_goes ss xs ys (by simpa using h1) (by simpa using h2)]
    by_cases h : s * (y - x) < 0
    · rw [if_pos h, decide_eq_true h]
      simp
    · rw [if_neg h, decide_eq_false h]
      simp
section
variable {P : Program} {w : World} {K : PySem.W.Frag} {mg : Str → Option Value} {base : Heap} {Ps : List Addr}
theorem eqv_reps (n : Nat) : PyData.eqv (.list ((List.replicate n 1).map .int)) (.list ([].map .int)) = decide (n = 0) := by
  cases n with
  | zero => simp [PyData.eqv, PyData.eqvAll]
  | succ n => simp [PyData.eqv, PyData.eqvAll, List.replicate_succ]
theorem shaped_li (a : List Int) : SeqAt.shaped (.list (a.map .int)) = true := by
  unfold SeqAt.shaped
  simp only [PyData.canLay0, canLay_ints a, PyData.depth, depth_ints a, Bool.true_and]
  decide
theorem op_eqLn {X : Cx} (hu : X.A.units + 64 < cLine) : OpR X (compareOp .Eq) rEqLn := by
  intro pins s σ H x y v u Q I rx ry h
  obtain ⟨a, b, n, rfl, rfl, h1, h2, q⟩ := h
  refine op_eqD hu pins s σ H _ _ v u Q I rx ry ⟨_, _, .lst (SqL.of h1) (by
    have := dpAll_ints (K := X.K) (H := H) (List.replicate n 1)
    unfold iv at this
    rw [List.map_replicate] at this
    exact this), .lst (SqL.of h2) .nil, shaped_li _, shaped_li [], ?_⟩
  rw [show ([] : List PyData) = ([] : List Int).map .int from rfl, eqv_reps]
  exact q
end
end Lk


/-! ## Own0 -/
set_option Elab.async false
set_option linter.all false
set_option maxRecDepth 100000
set_option maxHeartbeats 2000000
/-! raise X(), X an own error class without an __init__ of its own. -/
namespace Lk
open PySem PySem.Spec PyProof.Rows L2
variable [Own]
/-- what the written part says of an own error class x, at C -/
structure Own0 (K : PySem.W.Frag) (mg : Str → Option Value) (x : Str) (C : Addr) : Prop where
  gC : mg x = some (.ref C)
  ex : PySem.W.excIn K C [.type "ValueError", .type "Exception", .type "BaseException", .type "object"] "ValueError.__new__" = true
  kC : PySem.W.keepIn K (.ref C) = true
  exC : PySem.W.subIn K (.ref C) (.type "BaseException") = some true
  tyC : PySem.W.typeIn K (.ref C) = some (.type "type")
section
variable {X : Cx} {C : Addr} {x : Str} {p pos pos2 : Pos}
theorem pmk0 (T : Own0 X.K X.mg x C) (hg : Gl X x) (hdb : (x == ("__debug__" : Str)) = false := by decide) : PMk X (.Call (.Name x p) [] [] pos) (fun _ H Q => Q (.ref C) none H) := by
  intro pins s σ H Q I h
  refine wpAny_Call_Name_kw (ld_glob I hg T.gC ?_ hdb)
  refine PySem.W.callWith_K0 I.kIn T.kC ?_
  show wpAny _ _ (call (.ref C) []) _ _ _
  obtain ⟨bm, N, nm, qn, bs, hdct, sn, sub, ab, col, dd, k0, k1, k2, k3, k5, mN, hC, hN, hni, T2⟩ := exc_obj I.kIn T.ex
  refine wpAny_call_exc_subT PySem.F.excBase_ValueError T2 hC hN hni (fun h' e hm => ?_) (Nat.zero_le _)
  exact mk_of I hm (raises_own T.exC T.tyC) h (I.hok.gone hm.new)
def tRaise0 (C : Addr) (W : WX) : TS := fun _ σ H => W (.ref C) none σ H
theorem ps_raise0 {W : WX} (hc : X.calm = true) (T : Own0 X.K X.mg x C) (tk : Takes X W) (hg : Gl X x) (hdb : (x == ("__debug__" : Str)) = false := by decide) :
    PS X (.Raise (some (.Call (.Name x p) [] [] pos)) none pos2) (tRaise0 C W) := ps_raise hc tk (pmk0 T hg hdb)
end
end Lk

/-! ## CntB -/
set_option Elab.async false
set_option linter.all false
set_option maxRecDepth 100000
set_option maxHeartbeats 2000000
/-! How often a flat thing stands in a list of flat things. -/
namespace Lk
open PySem PySem.Spec PyProof.Rows L2
variable [Own]
theorem cnt_vals {y : V} : ∀ {ys : List V} {us : List Value}, Vals ys us → ys.all flatV = true → us.countP (eqU y) = ys.countP fun z => eqV z y
  | _, _, .nil, _ => rfl
  | z :: ys, u :: us, .cons r t, h => by
    rw [List.all_cons, Bool.and_eq_true] at h
    rw [List.countP_cons, List.countP_cons, cnt_vals t h.2, eqU_of r h.1]
def rCntF (K : PySem.W.Frag) : V → List V → Hp → VK → Prop := fun x xs H Q => ∃ (a : Addr) (ys : List V) (y : V), x = .ref a ∧ xs = [y] ∧ SqL K H a ys ∧ flatV y = true ∧ ys.all flatV = true ∧ Q (.int (ys.countP fun z => eqV z y : Nat)) H
theorem mt_cntF {X : Cx} : MtR X "list.count" (rCntF X.K) := by
  intro pins s σ H x xs v us Q I rx rxs h
  obtain ⟨a, ys, y, rfl, rfl, hs, fy, fys, q⟩ := h
  cases rx
  cases rxs with
  | cons ry rt =>
    rename_i uy ut
    cases rt
    obtain ⟨its, rv, ⟨⟨cls, dd, data, sl⟩, n, ho, hc, hdn, hd⟩, hlen⟩ := I.list hs
    simp only at hc hd
    subst hc hd
    refine call_meets PySem.F.slot_list_count ⟨_, ho, rfl⟩ PySem.F.entry_list_count (PySem.F.args_list_count_2 _ _)
      (SeqAt.list_countAt a its.toArray n dd sl uy (eqU y)) ⟨ho, fun u' hu' => mem_eqAt ry fy rv fys u' (by simpa using hu'), ?_⟩
    refine ⟨.int (ys.countP fun z => eqV z y : Nat), H, I.tok _, ⟨s.toks, ?_⟩, q⟩
    show Value.int ((its.toArray.toList.countP (eqU y) : Nat) : Int) s.toks = _
    rw [show its.toArray.toList = its from rfl, cnt_vals rv fys]
end Lk

/-! ## D62g -/
set_option Elab.async false
set_option linter.all false
set_option maxRecDepth 100000
set_option maxHeartbeats 4000000
namespace Lk
open PySem PySem.Spec PyProof.Rows L2 Gx LamX
open GxR (TabG Tabbed TabB)
variable [Own]
/-- the errors that the law tells apart by a word -/
def errN (k : Nat) : Str := (["BadState", "BadFolk", "BadLot", "BadRing", "BadNumber", "BadWord", "HasOdd", "HasRing", "NoEven", "NoOdd", "BadStep"] : List Str).getD k ""
def wordN (k : Nat) : Str := (["state", "folk", "lot", "ring", "number", "word", "odd", "tree", "noeven", "noodd", "step"] : List Str).getD k ""
/-- what the written part says of the error at C, the i-th of these -/
structure RefG (K : PySem.W.Frag) (mg : Str → Option Value) (CF C : Addr) (Ad : Str → Addr) (i : Nat) : Prop where
  gF : mg "FolkError" = some (.ref CF)
  te : PySem.W.exmOne K (.ref C) (.ref CF) = some true
  ec : ExcC K C
  kW : ∀ x ∈ (["BadWeb", "BadRules", "TooMany"] : List Str), mg x = some (.ref (Ad x)) ∧ PySem.W.kitOne K (.ref C) (.ref (Ad x)) = some false
  kN : ∀ k, k < 11 → mg (errN k) = some (.ref (Ad (errN k))) ∧ PySem.W.kitOne K (.ref C) (.ref (Ad (errN k))) = some (k == i)
  i11 : i < 11
/-- the suite of the except clause -/
def suiteOf : List Stmt → List Stmt
  | .Try _ [.ExceptHandler _ _ b _] _ _ _ :: _ => b
  | _ => []
section
variable {P : Program} {w : World} {K : PySem.W.Frag} {mg : Str → Option Value} {base : Heap} {Ps : List Addr} {CF C : Addr} {Ad : Str → Addr} {i : Nat}
end
end Lk


/-! ## D63 -/
set_option Elab.async false
set_option linter.all false
set_option maxRecDepth 100000
set_option maxHeartbeats 4000000
/-! A lambda that lets errors out, handed to the def that tells which; all but the table of its code stays. -/
namespace Lk
open PySem PySem.Spec PyProof.Rows L2 Gx LamX NdefX
variable [Own]
section
variable {X : Cx} {pins : List (Addr × Obj)} {σ : L2.St} {H : Hp} {s : Shared}
/-- all but what stands at P stays, nothing goes -/
def Grown (P : Addr) (H H1 : Hp) : Prop := (∀ b o, b ≠ P → H b = some o → H1 b = some o) ∧ ∀ b, H1 b = none → H b = none
theorem lam_bare {c P : Addr} {q : Str} {params : Arguments} {body : Expr} {scope : Scope} {pos : Pos} {E : Value → Shared → Prop} {Q : Value → Shared → Prop} (I : Inv X pins σ H s) (TB : LamX.TabB X.base X.mg c P) (hcode : X.env.code = .ref c) (hT : TabS H P q) (hq : X.env.qual ++ "<lambda>" = q)
    (hdef : defaultsOf params X.env = ([], [])) (hfree : ∀ y ∈ scope.names, y.2 = .free → ∃ c, X.env.cells.lookup y.1 = some c)
    (k : ∀ (f c' : Addr) (pm ctv : Value) (H2 : Hp) (s2 : Shared), Inv X pins σ H2 s2 → Grown P H H2 → TabS H2 P q → s2.heap.get? f = some (PySem.W.kla_obj "<lambda>" q params body scope (cloFrom X.env.cells scope.names []) pm c' ctv) → H2 f = none → f ∉ frs X.stack → H2 c' = some (CodeO c' q) → Q (.ref f) s2) :
    wpAny (model X.prog X.w) X.A (eval (.Lambda params body scope pos) X.env) Q E s := by
  subst hq
  obtain ⟨tb, tP, tOk, tAll⟩ := hT
  refine PySem.W.kla_eval hdef ?_
  have old : s.heap.get? P = some { cls := .none, data := .fields tb } := I.hok P _ tP
  have blt : s.heap.BuiltinsAt X.mg P := TB.bm.keeps I.bk
  have out : ∀ {HH : Hp} {S : Shared}, Inv X pins σ HH S → S.heap.objs.size ∉ frs X.stack := fun {HH S} J hm =>
    (List.mem_cons.mp (J.stkSub _ hm)).elim (fun e => Nat.lt_irrefl _ (e ▸ J.lt)) fun e => J.nofs (Nat.le_refl _) e
  cases found : codeAmong pos tb.toList with
  | some cv =>
    obtain ⟨c0, rfl, c0O⟩ := tAll pos cv found
    refine PySem.W.kla_makeFunctionHit (mg := X.mg) (c := c) (P := P) (ps := tb) (closure_ok hfree) I.ok.glob (I.mod.glob.keeps I.bk) hcode (TB.code.keeps I.bk) old tOk found blt fun ctv hh tk grown hsz => ?_
    have J : Inv X pins σ H { s with heap := hh, toks := tk } := I.kept grown
    have J2 : Inv X pins σ H { s with heap := hh.push (PySem.W.kla_obj "<lambda>" (X.env.qual ++ "<lambda>") params body scope (cloFrom X.env.cells scope.names []) ((X.mg "__name__").getD .none) c0 ctv), toks := tk } := J.kept (t' := tk) fun _ _ e => Heap.get?_push_of_some _ e
    exact k hh.objs.size c0 _ ctv H _ J2 ⟨fun _ _ _ e => e, fun _ e => e⟩ ⟨tb, tP, tOk, tAll⟩ (Heap.get?_push_size _ rfl) (J.hok.fresh (Nat.le_refl _)) (out J) c0O
  | none =>
    refine PySem.W.kla_makeFunction (mg := X.mg) (c := c) (P := P) (ps := tb) (closure_ok hfree) I.ok.glob (I.mod.glob.keeps I.bk) hcode (TB.code.keeps I.bk) old tOk found TB.gP blt fun c1 ctv hh tk grown hge hlt hrec htb => ?_
    obtain ⟨c2, oc, vs, t, e2, hoc, hd, hv⟩ := hrec
    cases e2
    have nC : H c1 = none := I.hok.fresh hge
    have nCP : P ≠ c1 := ne_of_none tP nC
    have J := inv_table (q := X.env.qual ++ "<lambda>") (t' := tk) (more := #[rawInt pos.line, rawInt pos.col, .ref c1]) (h' := hh) I tP (fun b o hb e => grown b o hb e) htb hge ⟨oc, vs, t, hoc, hd, hv⟩
    have J2 := J.kept (t' := tk) (h' := hh.push (PySem.W.kla_obj "<lambda>" (X.env.qual ++ "<lambda>") params body scope (cloFrom X.env.cells scope.names []) ((X.mg "__name__").getD .none) c1 ctv)) fun _ _ e => Heap.get?_push_of_some _ e
    have ext : ∀ b o, b ≠ P → H b = some o → upd (upd H P (.tbl (tb ++ #[rawInt pos.line, rawInt pos.col, .ref c1]))) c1 (CodeO c1 (X.env.qual ++ "<lambda>")) b = some o := fun b o hb e => by
      rw [upd_ne (ne_of_none e nC), upd_ne hb]
      exact e
    have e1 : upd (upd H P (.tbl (tb ++ #[rawInt pos.line, rawInt pos.col, .ref c1]))) c1 (CodeO c1 (X.env.qual ++ "<lambda>")) P = some (.tbl (tb ++ #[rawInt pos.line, rawInt pos.col, .ref c1])) := by
      rw [upd_ne nCP]
      exact upd_same
    have el : (tb ++ #[rawInt pos.line, rawInt pos.col, .ref c1]).toList = tb.toList ++ [rawInt pos.line, rawInt pos.col, .ref c1] := by simp
    have tS : TabS (upd (upd H P (.tbl (tb ++ #[rawInt pos.line, rawInt pos.col, .ref c1]))) c1 (CodeO c1 (X.env.qual ++ "<lambda>"))) P (X.env.qual ++ "<lambda>") := by
      refine ⟨_, e1, by rw [el]; exact PySem.TriplesOk_snoc _ _ _ _ tOk, fun p' cv hcv => ?_⟩
      rw [el] at hcv
      rcases among_app _ tOk hcv with z | z
      · obtain ⟨c0, a1, a2⟩ := tAll p' cv z
        exact ⟨c0, a1, ext _ _ (fun z => by rw [z, tP] at a2; cases a2) a2⟩
      · exact ⟨c1, z, upd_same⟩
    exact k hh.objs.size c1 _ ctv _ _ J2 ⟨ext, fun b e => upd_none (upd_none e)⟩ tS (Heap.get?_push_size _ rfl) (J.hok.fresh (Nat.le_refl _)) (out J) upd_same
end
/-- the reading of x(lambda: ..): TT is what x makes of the lambda's -/
def tGive (P : Addr) (q : Str) (TT : (XK → Hp → VK → Prop) → Hp → VK → Prop) (t : XK → TE) : TE := fun σ H Q => TabS H P q ∧ ∀ H1, Grown P H H1 → TabS H1 P q → TT (fun E H' Q' => t E σ H' Q') H1 Q
/-- what the def handed the lambda is, in the written part -/
structure GDef (K : PySem.W.Frag) (mg : Str → Option Value) (x : Str) (st : Stmt) (g : Addr) (cdv : Value) : Prop where
  gm : mg x = some (.ref g)
  gk : PySem.W.keepIn K (.ref g) = true
  fn : ∃ (oc : Value) (od : Option Addr) (kV doc pm : Value) (an : Option Addr) (ct : Value) (osl : Array (Option Value)), K.lookup g = some ⟨oc, od, .func (PySem.W.fnOf x x (defArgs st) (defBody st) (defScope st) .none kV doc pm an cdv ct), osl⟩ ∧ Binds K (PySem.W.fnOf x x (defArgs st) (defBody st) (defScope st) .none kV doc pm an cdv ct) ["work"] []
  cd : PySem.W.codeIn K cdv x = true
section
variable {X : Cx}
theorem pe_give {TT : (XK → Hp → VK → Prop) → Hp → VK → Prop} {x q : Str} {st : Stmt} {g c P : Addr} {k : Nat} {cdv : Value} {Ng : List Str} {params : Arguments} {body : Expr} {scope : Scope} {t : XK → TE} {p lpos pos : Pos} (hg : Gl X x) (G : GDef X.K X.mg x st g cdv)
    (Sg : FnScope Ng ["work"] (defScope st)) (h0 : Ng[0]? = some ("work" : Str)) (hv : Vis (defScope st) "work") (hq : X.env.qual ++ "<lambda>" = q) (hG : GivesTo X Ng x (defScope st) g cdv (defBody st) "work" q TT)
    (TB : LamX.TabB X.base X.mg c P) (hcode : X.env.code = .ref c) (hr : Room (k + 2) X.A) (L : LamS X.env.scope scope) (hdef : defaultsOf params X.env = ([], []))
    (hbind : ∀ (q : Str) (cl : List (Str × Addr)) (pm cv ctv : Value), bindArgs (PySem.W.kla_fn "<lambda>" q params body scope cl pm cv ctv) ⟨[], []⟩ = pure [])
    (hbody : ∀ (A : Around) (outer : List Env) (s : Shared) (H : Hp) (E : XK) (f c' : Addr), Room k (A.deeper (lamEnv X scope s.heap.objs.size f c')) → PE (lamCx X A outer s H E scope f c') body (t E))
    (hdb : (x == ("__debug__" : Str)) = false := by decide) :
    PE X (.Call (.Name x p) [.Lambda params body scope lpos] [] pos) (tGive P q TT t) := by
  subst hq
  obtain ⟨oc, od, kV, doc, pm, an, ct, osl, lk, hb⟩ := G.fn
  refine ⟨fun pins s σ H Q I ⟨hT, h⟩ => wpAny_Call_Name_kw (ld_glob I hg G.gm (PySem.W.callWith_K (h₀ := X.base) I.ok.mod.kin G.gk ?_ (by rfl) (by rfl)) hdb)⟩
  refine Calls.spliced_cons (lam_bare I TB hcode hT rfl hdef (L.has I.ok) fun f c' pm' ctv H1 s' I1 eN T1 hf hfn hfr hco => Calls.spliced_nil ⟨I1.kIn, ?_⟩)
  refine wpAny_call (codeAny_mono (run_ofS (CX := C8.CX0) (E := C8.E0) (Q := Q) (N := Ng) (ps := ["work"]) (us := [.ref f]) (vs := [.ref f]) lk G.cd Sg hr I1.env0 (hb s' [.ref f] I1.kIn rfl) (.cons rfl .nil) rfl fun hr' => ?_) fun r s2 hq => ?_)
  · obtain ⟨t', a, b⟩ := hG f c' s' H1 Q (fun E H' Q' => t E σ H' Q') (fun W pn xe E p1 p2 tk hW => pe_act (i := 0) I1 L hf hfn hfr (hbind _ _ _ _ _) tk hW hr' (fun A outer s H hr2 => hbody A outer s H E f c' hr2) h0 hv) hco (h H1 eN T1)
    exact ⟨t', a.nox, b⟩
  · match r, hq with
    | .ok (.ret u), hq => exact I1.after hq
    | .ok .next, hq => exact hq.elim
    | .ok .brk, hq => exact hq.elim
    | .ok .cont, hq => exact hq.elim
    | .error e, hq => exact (show False from hq).elim
end
end Lk


/-! ## EndP -/
set_option Elab.async false
set_option linter.all false
set_option maxRecDepth 100000
set_option maxHeartbeats 4000000
/-! The end of any law: defs as they stand in the heap behind the program's lines, their tables of code objects. -/
namespace Lk
open PySem PySem.Spec PyProof.Rows L2 Gx
/-- the tables of code objects are empty when the law is called -/
def TabAll (q : Program) (mg : Str → Option Value) (h : Heap) : Prop := ∀ d ∈ recsOf q, ∃ a o fd c P, mg d.name = some (.ref a) ∧ h.get? a = some o ∧ o.data = .func fd ∧ fd.code = .ref c ∧ h.IsCode c P #[] ∧ h.TableAt c P #[]
theorem walk_tabs {l : PySem.W.OpenLaw} {q : Program} {XP : (Str → Option Value) → Heap → Prop} {YP : World → Heap → Prop} {d : DefRec} {K : Params → PySem.W.Frag} {k : Nat} {x : Str} (hn : l.most = some 63) (hdf : d.params.defaults = []) (hr : Room k callerA) (hY : ∀ w h, YP w h → (K w.params).In h)
    (F : ∀ w mg fa h, (K w.params).In h → h.Ns mainGlobals mg → mg d.name = some (.ref fa) → TabAll q mg h → LamX.LawAtS l w (K w.params) CX0 k 63 x mg fa h) : PySem.W.WalkO q [] XP YP l.row.toRowW d [] (fun f vs => PySem.call f vs) := by
  refine Att.attach_callB hn hdf fun w _ s1 mg _ fa _ _ _ _ a vs ns G Y _ _ _ hm ho hi hl hb hg => ?_
  obtain ⟨fd, cs, sp, t1, t2, t3, t4, t5, t6⟩ := F w mg fa s1.heap (hY w _ Y) G.T.g hm G.T.tab
  exact LamX.law_callTs (hY w _ Y) G.T.g G.T.b G.T.builtins G.T.nolimit hg t1 t2 t3 G.T.bmain ho hi (Nat.le_trans hl (by decide)) hr t6 t4 (fun H hH hS => t5 H a ns hl hb hH hS) fun _ _ _ z => z
/-- a def of the module, named as it is bound -/
structure FnAt (K : PySem.W.Frag) (x : Str) (st : Stmt) : Prop where
  ex : ∃ f fd, PySem.W.nsIn K mainGlobals x = some (some (.ref f)) ∧ L2.Fun K x x st f fd
/-- .. that has a table of code objects, at T -/
structure FnTb (K : PySem.W.Frag) (x : Str) (st : Stmt) (T : Addr) : Prop where
  ex : ∃ f oc od kV doc pm an cda ct osl ccl cdd vs ccs, PySem.W.nsIn K mainGlobals x = some (some (.ref f)) ∧ K.lookup f = some ⟨oc, od, .func (PySem.W.fnOf x x (defArgs st) (defBody st) (defScope st) .none kV doc pm an (.ref cda) ct), osl⟩ ∧ PySem.W.codeIn K (.ref cda) x = true ∧ PySem.W.keepIn K (.ref f) = true ∧
    K.lookup cda = some ⟨ccl, cdd, .fields vs, ccs⟩ ∧ vs[11]? = some (.ref T)
/-- .. in the heap -/
structure TabAt (K : PySem.W.Frag) (mg : Str → Option Value) (h : Heap) (x : Str) (st : Stmt) (c T : Addr) : Prop where
  hd : PySem.W.CodeHd h c T
  none : h.get? T = some { cls := .none, data := .fields #[] }
  fn : ∃ f fd, mg x = some (.ref f) ∧ L2.Fun K x x st f fd ∧ ∃ (oc : Value) (od : Option Addr) (kV doc pm : Value) (an : Option Addr) (ct : Value) (osl : Array (Option Value)),
    fd = PySem.W.fnOf x x (defArgs st) (defBody st) (defScope st) .none kV doc pm an (.ref c) ct ∧ K.lookup f = some ⟨oc, od, .func fd, osl⟩ ∧ PySem.W.codeIn K (.ref c) x = true
section
variable {P : Program} {w : World} {K : PySem.W.Frag} {mg : Str → Option Value} {base h : Heap} {x : Str} {st : Stmt} {q : Program} {CX : CXT} {k : Nat} {ps : List Str} {sp : Sp}
theorem fnAt {f : Addr} {oc : Value} {od an : Option Addr} {osl : Array (Option Value)} {kV doc pm cdv ct : Value} (n : PySem.W.nsIn K mainGlobals x = some (some (.ref f)))
    (l : K.lookup f = some ⟨oc, od, .func (PySem.W.fnOf x x (defArgs st) (defBody st) (defScope st) .none kV doc pm an cdv ct), osl⟩) (c : PySem.W.codeIn K cdv x = true) (k : PySem.W.keepIn K (.ref f) = true) : FnAt K x st := ⟨⟨_, _, n, L2.fun_mk l c k⟩⟩
theorem fnTb {f cda T : Addr} {oc : Value} {od an : Option Addr} {osl : Array (Option Value)} {kV doc pm ct : Value} {ccl : Value} {cdd : Option Addr} {vs : Array Value} {ccs : Array (Option Value)} (n : PySem.W.nsIn K mainGlobals x = some (some (.ref f)))
    (l : K.lookup f = some ⟨oc, od, .func (PySem.W.fnOf x x (defArgs st) (defBody st) (defScope st) .none kV doc pm an (.ref cda) ct), osl⟩) (c : PySem.W.codeIn K (.ref cda) x = true) (k : PySem.W.keepIn K (.ref f) = true)
    (lc : K.lookup cda = some ⟨ccl, cdd, .fields vs, ccs⟩) (l11 : vs[11]? = some (.ref T)) : FnTb K x st T := ⟨⟨_, _, _, _, _, _, _, _, _, _, _, _, _, _, n, l, c, k, lc, l11⟩⟩
theorem FnAt.cal (A : FnAt K x st) (X : K.In h) (G : h.Ns mainGlobals mg)
    (hb : ∀ (kV doc pm : Value) (an : Option Addr) (cdv ct : Value) (us : List Value), us.length = ps.length → bindArgs (PySem.W.fnOf x x (defArgs st) (defBody st) (defScope st) .none kV doc pm an cdv ct) ⟨us, []⟩ = pure (ps.zip us))
    (ok : ∀ f fd, L2.Fun K x x st f fd → FnOk P w K mg base CX k f fd ps sp) : Cal P w K mg base CX k x ps sp := by
  obtain ⟨f, fd, n, F⟩ := A.ex
  exact ⟨f, fd, PySem.W.mg_of X G n, F.kp, F.binds hb, ok f fd F⟩
theorem FnAt.gdef (A : FnAt K x st) (X : K.In h) (G : h.Ns mainGlobals mg)
    (hb : ∀ (kV doc pm : Value) (an : Option Addr) (cdv ct : Value) (us : List Value), us.length = ["work"].length → bindArgs (PySem.W.fnOf x x (defArgs st) (defBody st) (defScope st) .none kV doc pm an cdv ct) ⟨us, []⟩ = pure ((["work"] : List Str).zip us)) : ∃ g cdv, GDef K mg x st g cdv := by
  obtain ⟨f, fd, n, F⟩ := A.ex
  have B := F.binds (ps := ["work"]) hb
  have kp := F.kp
  obtain ⟨oc, od, kV, doc, pm, an, cdv, ct, osl, rfl, lk, hcd⟩ := F.ex
  exact ⟨f, cdv, PySem.W.mg_of X G n, kp, ⟨oc, od, kV, doc, pm, an, ct, osl, lk, B⟩, hcd⟩
theorem FnTb.tab {T : Addr} (A : FnTb K x st T) (X : K.In h) (G : h.Ns mainGlobals mg) (TA : TabAll q mg h) (hr : ((recsOf q).any fun e => e.name == x) = true) : ∃ c, TabAt K mg h x st c T := by
  obtain ⟨d, hd, hx⟩ := List.any_eq_true.mp hr
  have hx : d.name = x := beq_iff_eq.mp hx
  subst hx
  obtain ⟨a, o, fd, c, Q, h1, h2, h3, h4, h5, h6⟩ := TA d hd
  obtain ⟨f, oc, od, kV, doc, pm, an, cda, ct, osl, ccl, cdd, vs, ccs, n, lk, hcd, kp, lc, l11⟩ := A.ex
  have hm := PySem.W.mg_of X G n
  rw [hm] at h1
  cases h1
  have g := X _ _ lk
  rw [h2] at g
  cases g
  have e3 : fd = PySem.W.fnOf d.name d.name (defArgs st) (defBody st) (defScope st) .none kV doc pm an (.ref cda) ct := by
    have h3' : Data.func (PySem.W.fnOf d.name d.name (defArgs st) (defBody st) (defScope st) .none kV doc pm an (.ref cda) ct) = Data.func fd := h3
    exact (Data.func.inj h3').symm
  subst e3
  have e4 : Value.ref cda = .ref c := h4
  cases e4
  have eT : Q = T := by
    obtain ⟨⟨o, us, g1, _, g2, g3⟩, _⟩ := h6
    have g4 := X _ _ lc
    rw [g1] at g4
    cases g4
    have g2' : Data.fields vs = Data.fields us := g2
    cases g2'
    rw [l11] at g3
    cases g3
    rfl
  subst eT
  exact ⟨c, PySem.W.CodeHd.of h5 h6, h6.2, a, _, hm, L2.fun_mk lk hcd kp, oc, od, kV, doc, pm, an, ct, osl, rfl, lk, hcd⟩
theorem TabAt.cal [Own] {c T : Addr} {Ps : List Addr} (A : TabAt K mg h x st c T) (hP : T ∈ Ps) (hn : ¬ Own.own T) (tb : LamX.TabB base mg c T)
    (hb : ∀ (kV doc pm : Value) (an : Option Addr) (cdv ct : Value) (us : List Value), us.length = ps.length → bindArgs (PySem.W.fnOf x x (defArgs st) (defBody st) (defScope st) .none kV doc pm an cdv ct) ⟨us, []⟩ = pure (ps.zip us))
    (ok : ∀ f fd, FunT K mg base Ps x st f fd T → FnOk P w K mg base CX k f fd ps sp) : Cal P w K mg base CX k x ps sp := by
  obtain ⟨f, fd, hm, F, oc, od, kV, doc, pm, an, ct, osl, e, lk, hcd⟩ := A.fn
  exact ⟨f, fd, hm, F.kp, F.binds hb, ok f fd ⟨⟨oc, od, kV, doc, pm, an, c, ct, osl, e, lk, hcd, tb.code, tb.bm, tb.gP⟩, hP, hn⟩⟩
end
/-- no table stands among the heap's written objects -/
def noTbl (K : PySem.W.Frag) : Bool := K.all fun p => match p.2.data with | .fields vs => vs.size != 0 | _ => true
theorem lookup_mem {α β : Type} [BEq α] [LawfulBEq α] {a : α} {b : β} : ∀ {l : List (α × β)}, l.lookup a = some b → (a, b) ∈ l
  | [], e => by simp at e
  | (c, d) :: r, e => by
    rw [List.lookup_cons] at e
    cases hc : a == c with
    | true =>
      rw [hc] at e
      have := beq_iff_eq.mp hc
      subst this
      cases e
      exact .head _
    | false =>
      rw [hc] at e
      exact .tail _ (lookup_mem e)
theorem noTbl_at {K : PySem.W.Frag} {h : Heap} {T : Addr} (n : noTbl K = true) (X : K.In h) (e : h.get? T = some { cls := .none, data := .fields #[] }) : K.lookup T = none := by
  cases q : K.lookup T with
  | none => rfl
  | some o =>
    have g := X _ _ q
    rw [e] at g
    cases g
    have := List.all_eq_true.mp n _ (lookup_mem q)
    exact absurd this (fun z => Bool.noConfusion (show false = true from z))
theorem exm_self {K : PySem.W.Frag} {S : Addr} (h1 : PySem.W.subIn K (.ref S) (.type "BaseException") = some true) (h2 : PySem.W.isClsIn K S = true) (h3 : PySem.W.typeIn K (.ref S) = some (.type "type")) (h4 : PySem.W.subIn K (.ref S) (.ref S) = some true) : PySem.W.exmOne K (.ref S) (.ref S) = some true := by
  have h5 : (PySem.W.clsIn K S).isSome = true := h2
  have t1 : ((some true : Option Bool) == some true) = true := by decide
  have t2 : (some (Value.type "type") == some (Value.type "type")) = true := by rfl
  unfold PySem.W.exmOne
  rw [h1, if_pos t1]
  have t3 : ((PySem.W.clsIn K S).isSome && PySem.W.typeIn K (.ref S) == some (.type "type")) = true := by
    rw [h3, h5, t2] <;> rfl
  show (if ((PySem.W.clsIn K S).isSome && PySem.W.typeIn K (.ref S) == some (.type "type")) = true then PySem.W.subIn K (.ref S) (.ref S) else none) = some true
  rw [if_pos t3]
  exact h4
theorem num_mk {K : PySem.W.Frag} {x : Str} {n : Int} {t : Tok} (e : PySem.W.nsIn K mainGlobals x = some (some (.int n t))) : ∃ t, PySem.W.nsIn K mainGlobals x = some (some (.int n t)) := ⟨t, e⟩
/-- an own error class of the module without an __init__ of its own, as raised and as caught -/
structure OwnAt (K : PySem.W.Frag) (x : Str) (C : Addr) : Prop where
  gC : PySem.W.nsIn K mainGlobals x = some (some (.ref C))
  ex : PySem.W.excIn K C [.type "ValueError", .type "Exception", .type "BaseException", .type "object"] "ValueError.__new__" = true
  kC : PySem.W.keepIn K (.ref C) = true
  exC : PySem.W.subIn K (.ref C) (.type "BaseException") = some true
  tyC : PySem.W.typeIn K (.ref C) = some (.type "type")
  isC : PySem.W.isClsIn K C = true
  sC : PySem.W.subIn K (.ref C) (.ref C) = some true
theorem OwnAt.own0 {K : PySem.W.Frag} {h : Heap} {mg : Str → Option Value} {x : Str} {C : Addr} (o : OwnAt K x C) (X : K.In h) (G : h.Ns mainGlobals mg) : @Own0 K mg x C := ⟨PySem.W.mg_of X G o.gC, o.ex, o.kC, o.exC, o.tyC⟩
theorem OwnAt.te {K : PySem.W.Frag} {x : Str} {C : Addr} (o : OwnAt K x C) : PySem.W.exmOne K (.ref C) (.ref C) = some true := exm_self o.exC o.isC o.tyC o.sC
/-- two defs of unlike names stand apart -/
theorem fn_apart {K : PySem.W.Frag} {h : Heap} {mg : Str → Option Value} {x y : Str} {st st' : Stmt} {f1 f2 : Addr} (X : K.In h) (G : h.Ns mainGlobals mg) (A : FnAt K x st) (B : FnAt K y st') (ne : x ≠ y) (m1 : mg x = some (.ref f1)) (m2 : mg y = some (.ref f2)) : f1 ≠ f2 := by
  obtain ⟨g1, gd1, n1, F1⟩ := A.ex
  obtain ⟨g2, gd2, n2, F2⟩ := B.ex
  have h1 := PySem.W.mg_of X G n1
  have h2 := PySem.W.mg_of X G n2
  rw [m1] at h1
  rw [m2] at h2
  cases h1
  cases h2
  obtain ⟨oc1, od1, kV1, doc1, pm1, an1, cd1, ct1, osl1, rfl, lk1, _⟩ := F1.ex
  obtain ⟨oc2, od2, kV2, doc2, pm2, an2, cd2, ct2, osl2, rfl, lk2, _⟩ := F2.ex
  intro e
  subst e
  rw [lk1] at lk2
  have e2 := congrArg (fun o : Option Obj => match o with | some ⟨_, _, .func fd, _⟩ => fd.name | _ => "") lk2
  exact ne e2
/-- .. that calls itself -/
theorem FnAt.calR {P : Program} {w : World} {K : PySem.W.Frag} {mg : Str → Option Value} {base h : Heap} {x : Str} {st : Stmt} {CX : CXT} {k : Nat} {ps : List Str} {sp : Sp} (A : FnAt K x st) (X : K.In h) (G : h.Ns mainGlobals mg)
    (hb : ∀ (kV doc pm : Value) (an : Option Addr) (cdv ct : Value) (us : List Value), us.length = ps.length → bindArgs (PySem.W.fnOf x x (defArgs st) (defBody st) (defScope st) .none kV doc pm an cdv ct) ⟨us, []⟩ = pure (ps.zip us))
    (ok : ∀ f fd, L2.Fun K x x st f fd → mg x = some (.ref f) → Binds K fd ps [] → FnOk P w K mg base CX k f fd ps sp) : Cal P w K mg base CX k x ps sp := by
  obtain ⟨f, fd, n, F⟩ := A.ex
  have hm := PySem.W.mg_of X G n
  exact ⟨f, fd, hm, F.kp, F.binds hb, ok f fd F hm (F.binds hb)⟩
end Lk

/-! ## D05L -/
set_option Elab.async false
set_option linter.all false
set_option maxRecDepth 100000
set_option maxHeartbeats 2000000
namespace Lk
open PySem PySem.Spec PyProof.Rows L2 Gx
open GxR (TabG Tabbed TabB)
variable [Own]
/-- rows_of, of a list -/
def spRowsOfL : Sp := fun vs H Q _ => ∃ (a : Addr) (tops : List Int), vs = [.ref a] ∧ H a = some (.lst (iv tops)) ∧ tops.length ≤ 6 ∧ (∀ t ∈ tops, 0 ≤ t ∧ t ≤ 3) ∧ ∀ H' p vs, Ext H H' → H p = none → H' p = some (.lst vs) → Paired (TI H') vs (rowsOf tops) → Q (.ref p) H'
section
variable {P : Program} {w : World} {K : PySem.W.Frag} {mg : Str → Option Value} {base : Heap} {Ps : List Addr}
end
end Lk


/-! ## DcS -/
set_option Elab.async false
set_option linter.all false
set_option maxRecDepth 100000
set_option maxHeartbeats 2000000
/-! d[t] = v by a comprehension, t a tuple of ints. -/
namespace Lk
open PySem PySem.Spec PyProof.Rows L2
variable [Own]
theorem dT_dictSet {X : Cx} {pins : List (Addr × Obj)} {σ : L2.St} {H : Hp} {s : Shared} {E : Value → Shared → Prop} {D b : Addr} {kvs : List (List L2.Key × V)} {k : List L2.Key} {v : V} {u r : Value} {Q : Unit → Shared → Prop} (hu : X.A.units + 1 < cLine) (I : Inv X pins σ H s) (hD : H D = some (.dT kvs)) (hb : H b = some (.tup (k.map kV))) (hz : kvs.length < sizeLine)
    (ry : RelV (.ref b) u) (rv : RelV v r) (h : ∀ s', Inv X pins σ (upd H D (.dT (putK kvs k v))) s' → Q () s') : wpAny (model X.prog X.w) X.A (dictSet D u r) Q E s := by
  cases (show u = Value.ref b from ry)
  obtain ⟨_, hd, xs, rel, dd⟩ := dt_of I.hok hD
  have hl : (putK kvs k v).length ≤ sizeLine := by have := length_putK kvs k v; omega
  refine wpAny_dictSet_heap (hsz := by rw [← Paired.length rel]; omega) (show X.A.units < cLine by omega) (key_of I.hok hb) dd fun h' dd' hs => h _ ?_
  obtain ⟨q, es, ep, hq, h2, h3, h4, _, h5⟩ := dd'
  refine d_write I (by rw [hD]; exact True.intro) hs ⟨q, hq⟩ ⟨hl, hd, _, (rel.put k hb rv).keeps fun c ys ec => ?_, q, es, ep, hq, h2, h3, h4, h5⟩
  rw [upd_ne (L2.ne_of ec hD (fun z => nomatch z))]
  exact ec
end Lk

/-! ## Dct -/
set_option Elab.async false
set_option linter.all false
set_option maxRecDepth 100000
set_option maxHeartbeats 2000000
/-! {t: v for ..}, the keys tuples: the dict told as .dT. -/
namespace Lk
open PySem PySem.Spec PyProof.Rows L2
variable [Own]
/-- a block of names, its iterator's objects untracked, ahead of turn i -/
structure Ahead (Y : Cx) (tn : Nat → Heap → Prop) (τ : L2.St) (i : Nat) (H : Hp) (s : Shared) : Prop where
  inv : Inv Y [] τ H s
  at_ : tn i s.heap
  off : ∀ b ∈ Y.ex, H b = none
theorem Ahead.fps {Y : Cx} {tn : Nat → Heap → Prop} {τ : L2.St} {i : Nat} {H : Hp} {s : Shared} (a : Ahead Y tn τ i H s) (hp : Y.pn = []) : ∀ b ∈ Y.ex, FpOk Y [] H b := by
  intro b hb
  have e1 := a.inv.ok.exf b hb
  refine ⟨a.off b hb, e1.1, a.inv.ok.exfs b hb, Or.inl hb, fun x c q => e1.2 x c q, ?_⟩
  rw [hp]
  intro p hm
  simp at hm
/-- a turn is over: the slots that the block's names had are forgotten -/
theorem Ahead.next {Y : Cx} {K : PySem.W.Frag} {tg : Expr} {J : It} {it : Addr} {tn : Nat → Heap → Prop} {τ τ2 : L2.St} {vs : List Nat} {i : Nat} {H : Hp} {s0 s : Shared} (T : Turn Y.prog Y.w K tg J Y.ex it tn)
    (I : Inv Y ([] ++ pinsAt Y.ex s0.heap) τ2 H s) (at0 : tn (i + 1) s0.heap) (hw : wipe τ2 vs = wipe τ vs) : Ahead Y tn (wipe τ vs) (i + 1) H s := by
  have same : ∀ b ∈ Y.ex, ∀ o, s0.heap.get? b = some o → s.heap.get? b = some o ∧ H b = none := by
    intro b hb o e
    have h := I.pin (b, o) (List.mem_append.mpr (.inr (List.mem_append.mpr (.inr (mem_pinsAt hb e)))))
    exact ⟨h.1, h.2.1⟩
  have I0 : Inv Y [] τ2 H s := Inv.unpinned I
  refine ⟨I0.weak (by rw [← hw]; exact wipe_length τ2 vs) (fun j v e => ?_), T.keep (i + 1) s0.heap s.heap at0 (fun b hb o e => (same b hb o e).1), fun b hb => ?_⟩
  · rw [← hw] at e
    exact (wipe_some e).1
  · obtain ⟨o, e, _⟩ := T.obj (i + 1) s0.heap at0 b hb
    exact (same b hb o e).2
/-- keys tuples of ints or texts: D the new dict -/
def tDct (wi : L2.TI) (g : TG) (tt : TT) (tk tv : TE) (vs : List Nat) : TE := fun σ H Q => wi σ H fun J H1 => ∀ D, H1 D = none → ∃ W : Nat → Nat → Hp → Prop, (∃ m, W 0 m (upd H1 D (.dT []))) ∧ ∀ i m H, W i m H →
  J.stop i H ∧ Q (.ref D) H ∨ J.go i H ∧ ∃ N : Hp → Prop, (∀ H', N H' → ∃ m', m' < m ∧ W (i + 1) m' H') ∧ ∀ x H', J.yld i H x H' → g x (wipe σ vs) H' fun τ H2 => wipe τ vs = wipe σ vs ∧ tt τ H2 fun b H3 =>
    if b = true then tk τ H3 fun y H4 => tv τ H4 fun z H5 => ∃ b kvs k, y = .ref b ∧ H5 b = some (.tup (k.map kV)) ∧ H5 D = some (.dT kvs) ∧ kvs.length < sizeLine ∧ N (upd H5 D (.dT (putK kvs k z))) else N H3
section
variable {X : Cx} {kx vx tg iter : Expr} {ifs : List Expr} {scope : Scope} {own : List (Str × Nat)} {pos : Pos} {wi : L2.TI} {g : TG} {tt : TT} {tk tv : TE}
theorem dct_any {pins : List (Addr × Obj)} {s : Shared} {σ : L2.St} {H : Hp} {Q : VK} {pos' : Pos} {use : Option (Value → Sem Unit)} {Qf : Value → Shared → Prop} (hc : X.calm = true) (hu : X.A.units + 1 < cLine) (hN : X.N.Nodup) (I : Inv X pins σ H s) (hi : PI X tg iter wi) (ok : BlkOk X.N X.env.scope scope own)
    (hg : ∀ (s : Shared) (H : Hp) (C : Addr) (cl : List (Str × Addr)) (fp : List Addr), PG (X.blk s H scope (compEnvC scope cl C X.env) fp) tg g)
    (ht : ∀ (s : Shared) (H : Hp) (C : Addr) (cl : List (Str × Addr)) (fp : List Addr), PTs (X.blk s H scope (compEnvC scope cl C X.env) fp) ifs tt)
    (hk : ∀ (s : Shared) (H : Hp) (C : Addr) (cl : List (Str × Addr)) (fp : List Addr), PE (X.blk s H scope (compEnvC scope cl C X.env) fp) kx tk)
    (hv : ∀ (s : Shared) (H : Hp) (C : Addr) (cl : List (Str × Addr)) (fp : List Addr), PE (X.blk s H scope (compEnvC scope cl C X.env) fp) vx tv)
    (hs : ∀ x, foldedSetIterable iter X.env x = pure x) (h : tDct wi g tt tk tv (own.map (·.2)) σ H Q)
    (hEnd : ∀ (D C : Addr) (s' : Shared) (m : Str → Option Value) (H' : Hp), Inv X pins σ H' s' → Q (.ref D) H' → s'.heap.Ns C m → FpOk X pins H' C → compPost (model X.prog X.w) X.A X.xe use Qf (.ref D) C (.ok .next) s') :
    wpAny (model X.prog X.w) X.A (comprehension (.DictComp kx vx [⟨tg, iter, ifs, 0⟩] scope pos) scope X.env pos' newDict false (eval iter X.env) use) Qf X.xe s := by
  have hfr : ∀ y ∈ scope.names, y.2 = .free → ∃ c, X.env.cells.lookup y.1 = some c := by
    intro y hy e
    exact I.ok.has _ (ok.free y hy e)
  have loc : ∀ y ∈ scope.names, y.2 = .local → scope.names.lookup y.1 = some .local := by
    intro y hy e
    rw [ok.uniq y hy, e]
  refine wpAny_comprehension_free (use := use) rfl hs (closure_ok hfr) ok.kind loc ?_
  refine thn (hi.run pins s σ H _ I h) fun v s1 h1 => thn h1 fun itv s2 ⟨it, fp, tn, J, H2, hit, I2, T, at2, f2, q⟩ => ?_
  subst hit
  refine wpAny_newObj_type ?_
  refine newEnv_comp ?_
  have dn : H2 s2.heap.objs.size = none := I2.hok.fresh (Nat.le_refl _)
  obtain ⟨W, ⟨m0, w0⟩, turn⟩ := q _ dn
  have I3 := I2.laid (h' := s2.heap.push { cls := .type "dict", data := .dict #[] }) (o := .dT []) (t' := s2.toks) (fun b u e => Heap.get?_push_of_some _ e) (Nat.le_refl _) (dt_empty s2.heap I2.big)
  generalize eH : upd H2 s2.heap.objs.size (.dT []) = H3 at I3 w0
  generalize es : ({ s2 with heap := s2.heap.push { cls := .type "dict", data := .dict #[] }, toks := s2.toks } : Shared) = s3 at I3
  have es2 : s3.heap = s2.heap.push { cls := .type "dict", data := .dict #[] } := by rw [← es]
  generalize eD : s2.heap.objs.size = D at turn dn eH
  have lt2 : ∀ b ∈ fp, b < D := by
    intro b hb
    obtain ⟨o, e, _⟩ := T.obj 0 s2.heap at2 b hb
    rw [← eD]
    exact Heap.lt_size e
  have f3 : ∀ b ∈ fp, FpOk X pins H3 b ∧ b < s3.heap.objs.size := by
    intro b hb
    refine ⟨⟨?_, (f2 b hb).2⟩, ?_⟩
    · rw [← eH, upd_ne (Nat.ne_of_lt (lt2 b hb))]
      exact (f2 b hb).1
    · rw [es2, Heap.size_push, eD]
      exact Nat.lt_succ_of_lt (lt2 b hb)
  have I4 := block_start I3 ok hN f3
  have G := hg s3 H3 s3.heap.objs.size (cellsFrom (s3.heap.objs.size + 1) scope.names (cloFrom X.env.cells scope.names [])) fp
  have Ts := ht s3 H3 s3.heap.objs.size (cellsFrom (s3.heap.objs.size + 1) scope.names (cloFrom X.env.cells scope.names [])) fp
  have Ek := hk s3 H3 s3.heap.objs.size (cellsFrom (s3.heap.objs.size + 1) scope.names (cloFrom X.env.cells scope.names [])) fp
  have Ev := hv s3 H3 s3.heap.objs.size (cellsFrom (s3.heap.objs.size + 1) scope.names (cloFrom X.env.cells scope.names [])) fp
  have loc3 : (compEnvC scope (cellsFrom (s3.heap.objs.size + 1) scope.names (cloFrom X.env.cells scope.names [])) s3.heap.objs.size X.env).locals = s3.heap.objs.size := rfl
  have grown : ∀ b o, s2.heap.get? b = some o → (pushCells (s3.heap.push { cls := .type "dict", data := .dict #[] }) scope.names).get? b = some o := by
    intro b o e
    refine pushCells_keeps _ _ _ _ (Heap.get?_push_of_some _ ?_)
    rw [es2]
    exact Heap.get?_push_of_some _ e
  have at4 := T.keep 0 s2.heap _ at2 fun b _ o e => grown b o e
  generalize e4 : ({ s3 with heap := pushCells (s3.heap.push { cls := .type "dict", data := .dict #[] }) scope.names } : Shared) = s4 at I4
  have e4h : s4.heap = pushCells (s3.heap.push { cls := .type "dict", data := .dict #[] }) scope.names := by rw [← e4]
  rw [← e4h] at at4
  have a0 : Ahead (X.blk s3 H3 scope (compEnvC scope (cellsFrom (s3.heap.objs.size + 1) scope.names (cloFrom X.env.cells scope.names [])) s3.heap.objs.size X.env) fp) tn (wipe σ (own.map (·.2))) 0 H3 s4 := ⟨I4, at4, fun b hb => (f3 b hb).1.1⟩
  suffices L : codeAny (model X.prog X.w) X.A (.compLoop (.DictComp kx vx [⟨tg, iter, ifs, 0⟩] scope pos) 0 (.ref it) (.ref D) (compEnvC scope (cellsFrom (s3.heap.objs.size + 1) scope.names (cloFrom X.env.cells scope.names [])) s3.heap.objs.size X.env)) (compPost (model X.prog X.w) X.A X.xe use Qf (.ref D) s3.heap.objs.size) s4 by
    exact codeAny_compStart_dict L (T.self X.A 0 s4 _ _ at4 L)
  generalize eY : X.blk s3 H3 scope (compEnvC scope (cellsFrom (s3.heap.objs.size + 1) scope.names (cloFrom X.env.cells scope.names [])) s3.heap.objs.size X.env) fp = Y at a0 G Ts Ek Ev
  generalize ec : compEnvC scope (cellsFrom (s3.heap.objs.size + 1) scope.names (cloFrom X.env.cells scope.names [])) s3.heap.objs.size X.env = ce at eY loc3
  have y1 : Y.prog = X.prog := by rw [← eY]
  have y2 : Y.w = X.w := by rw [← eY]
  have y3 : Y.A = X.A := by rw [← eY]
  have y4 : Y.env = ce := by rw [← eY]
  have y5 : Y.ex = fp := by rw [← eY]
  have y6 : Y.pn = [] := by rw [← eY]
  have y7 : Y.K = X.K := by rw [← eY]
  have y8 : Y.calm = true := by rw [← eY]; exact hc
  have y9 : Y.xe = fun _ _ => False := by rw [← eY]
  have TY : Turn Y.prog Y.w X.K tg J Y.ex it tn := by rw [y1, y2, y5]; exact T
  refine compLoop_anyD (fun n s' => ∃ i H', Ahead Y tn (wipe σ (own.map (·.2))) i H' s' ∧ W i n H') ?_ m0 ⟨0, H3, a0, w0⟩
  rintro n s5 ⟨i, H5, a5, w5⟩
  have fps := a5.fps y6
  rcases turn i n H5 w5 with ⟨st, qq⟩ | ⟨go, N, hN', step⟩
  · have fin := TY.done Y rfl rfl y7 y8 i [] s5 _ H5 (fun _ _ => False) a5.inv fps a5.at_ st
    rw [y3] at fin
    rw [y1, y2] at fin
    refine thnF fin fun r s6 ⟨hr, I6⟩ => ?_
    subst hr
    have nC : H5 s3.heap.objs.size = none := by
      have z := I6.free
      rw [y4, loc3] at z
      exact z
    obtain ⟨m, hm, _⟩ := I6.loc
    rw [y4, loc3] at hm
    have u6 := I6.base
    have h6 := I6.hok
    have o6 := I6.os
    rw [← eY] at u6 h6 o6
    have I7 : Inv X pins σ H5 s6 := I3.call' (ch := fp) o6 u6 h6 I6.bare fun b hb => by
      have z := (f3 b hb).1.2
      exact ⟨z.2.2.1, z.1, z.2.2.2.1, z.2.2.2.2⟩
    have F := I3.fpOk (H' := H5) (Nat.le_refl _) nC
    exact hEnd D s3.heap.objs.size s6 m H5 I7 qq hm F
  · have one := TY.item Y rfl rfl y7 y8 i [] s5 _ H5 (fun _ _ => False) a5.inv fps a5.at_ go
    rw [y3] at one
    rw [y1, y2] at one
    refine thnF one fun r s6 ⟨u, hr, h6⟩ => ?_
    subst hr
    refine thnF h6 fun _ s7 ⟨x, H7, I7, r7, yy, at7, off7⟩ => ?_
    have p7 := I7.pinned (Ahead.fps ⟨I7, at7, off7⟩ y6) (TY.obj _ _ at7)
    have done : ∀ {τ : L2.St} {H' : Hp} {s' : Shared}, Inv Y ([] ++ pinsAt Y.ex s7.heap) τ H' s' → wipe τ (own.map (·.2)) = wipe σ (own.map (·.2)) → N H' → ∃ m, m < n ∧ ∃ i H', Ahead Y tn (wipe σ (own.map (·.2))) i H' s' ∧ W i m H' := by
      intro τ H' s' I' hw nx
      obtain ⟨m', hlt, w'⟩ := hN' H' nx
      exact ⟨m', hlt, i + 1, H', Ahead.next TY I' at7 hw, w'⟩
    have gg := G.run _ s7 _ H7 x u _ p7 r7 (step x H7 yy)
    rw [y1, y2, y3, y4, y9] at gg
    refine thnF gg fun _ s8 ⟨τ, H8, I8, hw, q8⟩ => ?_
    have tr := Ts.run _ s8 τ H8 _ I8 q8
    rw [y1, y2, y3, y4, y9] at tr
    refine thnF tr fun b s9 ⟨H9, I9, q9⟩ => ?_
    cases b with
    | false => exact done I9 hw q9
    | true =>
      have kr := Ek.run _ s9 τ H9 _ I9 q9
      rw [y1, y2, y3, y4, y9] at kr
      refine thnF kr fun kv s10 ⟨yk, H10, I10, r10, q10⟩ => ?_
      have vr := Ev.run _ s10 τ H10 _ I10 q10
      rw [y1, y2, y3, y4, y9] at vr
      refine thnF vr fun vv s11 ⟨yv, H11, I11, r11, bb, kvs, k, ek, hb, hD, hz, nx⟩ => ?_
      subst ek
      have set_ := dT_dictSet (X := Y) (E := notedBy (model X.prog X.w) X.A ce fun e s' => compPost (model X.prog X.w) X.A X.xe use Qf (.ref D) s3.heap.objs.size (.error e) s') (Q := fun _ s' => ∃ m, m < n ∧ ∃ i H', Ahead Y tn (wipe σ (own.map (·.2))) i H' s' ∧ W i m H') (by rw [y3]; exact hu) I11 hD hb hz r10 r11 fun s12 I12 => done I12 hw nx
      rw [y1, y2, y3] at set_
      exact set_
theorem pe_dct (hc : X.calm = true) (hu : X.A.units + 1 < cLine) (hN : X.N.Nodup) (hi : PI X tg iter wi) (ok : BlkOk X.N X.env.scope scope own)
    (hg : ∀ (s : Shared) (H : Hp) (C : Addr) (cl : List (Str × Addr)) (fp : List Addr), PG (X.blk s H scope (compEnvC scope cl C X.env) fp) tg g)
    (ht : ∀ (s : Shared) (H : Hp) (C : Addr) (cl : List (Str × Addr)) (fp : List Addr), PTs (X.blk s H scope (compEnvC scope cl C X.env) fp) ifs tt)
    (hk : ∀ (s : Shared) (H : Hp) (C : Addr) (cl : List (Str × Addr)) (fp : List Addr), PE (X.blk s H scope (compEnvC scope cl C X.env) fp) kx tk)
    (hv : ∀ (s : Shared) (H : Hp) (C : Addr) (cl : List (Str × Addr)) (fp : List Addr), PE (X.blk s H scope (compEnvC scope cl C X.env) fp) vx tv)
    (hs : ∀ x, foldedSetIterable iter X.env x = pure x := by intro _; rfl) : PE X (.DictComp kx vx [⟨tg, iter, ifs, 0⟩] scope pos) (tDct wi g tt tk tv (own.map (·.2))) := by
  constructor
  intro pins s σ H Q I h
  rw [arm_eval_DictComp]
  exact dct_any hc hu hN I hi ok hg ht hk hv hs h fun D C s' m H' I' q hn F => ⟨m, hn, fun h'' sb => ⟨.ref D, H', I'.turned (t' := s'.toks) (fun b o hb e => (sb.2 b hb).trans e) F.1 F.2.1 F.2.2.2.1 F.2.2.2.2.1 F.2.2.2.2.2, rfl, q⟩⟩
/-- the model's other statement for a dict that a name takes -/
theorem sw_dct {gs : List Comprehension} {py : Pos} {y : Str} {l : Nat} {env : Env} (hk : env.scope.kind = .function) (hy : env.scope.names.lookup y = some .local) (hl : (py.line == pos.line) = true)
    (ha : (scope.names.any fun (n, k) => n == y && (k == .local || k == .cell)) = false) : swapsWith (.DictComp kx vx gs scope pos) (some (.Name y py)) l env = pure true := by
  have h1 : env.blockKind = .function := by
    unfold Env.blockKind
    rw [hk]
    rfl
  have h2 : env.kindOf y = some .local := hy
  simp only [swapsWith, h1, h2, ha, Expr.pos, hl]
  rfl
/-- name = {..} -/
theorem ps_setDct {i : Nat} {y : Str} {py spos : Pos} (hc : X.calm = true) (hu : X.A.units + 1 < cLine) (hN : X.N.Nodup) (hy : X.N[i]? = some y) (hyl : X.env.scope.names.lookup y = some .local)
    (hsw : swapsWith (.DictComp kx vx [⟨tg, iter, ifs, 0⟩] scope pos) (some (.Name y py)) spos.line X.env = pure true) (hi : PI X tg iter wi) (ok : BlkOk X.N X.env.scope scope own)
    (hg : ∀ (s : Shared) (H : Hp) (C : Addr) (cl : List (Str × Addr)) (fp : List Addr), PG (X.blk s H scope (compEnvC scope cl C X.env) fp) tg g)
    (ht : ∀ (s : Shared) (H : Hp) (C : Addr) (cl : List (Str × Addr)) (fp : List Addr), PTs (X.blk s H scope (compEnvC scope cl C X.env) fp) ifs tt)
    (hk : ∀ (s : Shared) (H : Hp) (C : Addr) (cl : List (Str × Addr)) (fp : List Addr), PE (X.blk s H scope (compEnvC scope cl C X.env) fp) kx tk)
    (hv : ∀ (s : Shared) (H : Hp) (C : Addr) (cl : List (Str × Addr)) (fp : List Addr), PE (X.blk s H scope (compEnvC scope cl C X.env) fp) vx tv)
    (hs : ∀ x, foldedSetIterable iter X.env x = pure x := by intro _; rfl) : PS X (.Assign [.Name y py] (.DictComp kx vx [⟨tg, iter, ifs, 0⟩] scope pos) spos) (tAsg (tDct wi g tt tk tv (own.map (·.2))) (gName i)) := by
  constructor
  intro pins s σ H D I h
  rw [exec_Assign_Name_used _ _ _ _ hsw]
  apply wpAny_bind
  apply wpAny_standAt
  apply wpAny_bind
  show wpAny _ X.A (do let _ ← comprehension (.DictComp kx vx [⟨tg, iter, ifs, 0⟩] scope pos) scope X.env (firstIterPos [⟨tg, iter, ifs, 0⟩] pos) newDict false (eval iter X.env) (some (assign (.Name y py) X.env))) _ _ s
  apply wpAny_bind
  have run := dct_any (Q := fun x H1 => gName i x σ H1 D.nx) (use := some (assign (.Name y py) X.env)) (Qf := fun _ s' => SP X pins D .next s') (pos' := firstIterPos [⟨tg, iter, ifs, 0⟩] pos) (pos := pos) hc hu hN I hi ok hg ht hk hv hs h fun L C s' m H' I' q hn F => by
    show wpAny _ _ (assign (.Name y py) X.env (.ref L)) _ _ _
    apply wpAny_assign_Name
    refine store_ok2 (v := V.ref L) I' hN hy (Or.inl hyl) rfl (fun s2 I2 ⟨a, sb, ha⟩ => ?_) (Or.inr hyl)
    have ne : C ≠ a := by
      rcases ha with z | z
      · exact fun e => F.2.1 (e.trans z)
      · exact fun e => F.2.2.2.2.1 y a z e.symm
    exact ⟨m, hn.sameBut sb ne, fun h3 sb3 => ⟨_, H', I2.turned (t' := s2.toks) (fun b o hb e => (sb3.2 b hb).trans e) F.1 F.2.1 F.2.2.2.1 F.2.2.2.2.1 F.2.2.2.2.2, q⟩⟩
  exact thn run fun _ s' hq => wpAny_pure (wpAny_pure hq)
end
end Lk
namespace Lk
open PySem PySem.Spec PyProof.Rows L2
variable [Own]
/-- over any walk -/
theorem dct_walk {J : It} {n : Nat} {G : Hp → Prop} {Y : Nat → Hp → V → Hp → Prop} (w : Walk J n G Y) {g : TG} {tt : TT} {tk tv : TE} {vs : List Nat} {σ : L2.St} {H1 : Hp} {D : Addr} {Qd : Hp → Prop} (Pv : Nat → Hp → Prop) (h0 : Pv 0 (upd H1 D (.dT []))) (hG : ∀ i H, i ≤ n → Pv i H → G H)
    (hs : ∀ i x H H', i < n → Pv i H → Y i H x H' → g x (wipe σ vs) H' fun τ H2 => wipe τ vs = wipe σ vs ∧ tt τ H2 fun b H3 =>
      if b = true then tk τ H3 fun y H4 => tv τ H4 fun z H5 => ∃ b kvs k, y = .ref b ∧ H5 b = some (.tup (k.map kV)) ∧ H5 D = some (.dT kvs) ∧ kvs.length < sizeLine ∧ Pv (i + 1) (upd H5 D (.dT (putK kvs k z))) else Pv (i + 1) H3) (hd : ∀ H, Pv n H → Qd H) :
    ∃ W : Nat → Nat → Hp → Prop, (∃ m, W 0 m (upd H1 D (.dT []))) ∧ ∀ i m H, W i m H →
      J.stop i H ∧ Qd H ∨ J.go i H ∧ ∃ N : Hp → Prop, (∀ H', N H' → ∃ m', m' < m ∧ W (i + 1) m' H') ∧ ∀ x H', J.yld i H x H' → g x (wipe σ vs) H' fun τ H2 => wipe τ vs = wipe σ vs ∧ tt τ H2 fun b H3 =>
        if b = true then tk τ H3 fun y H4 => tv τ H4 fun z H5 => ∃ b kvs k, y = .ref b ∧ H5 b = some (.tup (k.map kV)) ∧ H5 D = some (.dT kvs) ∧ kvs.length < sizeLine ∧ N (upd H5 D (.dT (putK kvs k z))) else N H3 := by
  refine ⟨fun i m H => (m = n - i ∧ i ≤ n) ∧ Pv i H, ⟨n, ⟨by omega, Nat.zero_le n⟩, h0⟩, ?_⟩
  rintro i m H ⟨⟨hm, hi⟩, p⟩
  have q := hG i H hi p
  rcases Nat.lt_or_ge i n with lt | ge
  · exact .inr ⟨w.goes i H lt q, Pv (i + 1), fun H' p' => ⟨n - (i + 1), by omega, ⟨rfl, lt⟩, p'⟩, fun x H' y => hs i x H H' lt p (w.yields i H x H' lt q y)⟩
  · obtain rfl : i = n := Nat.le_antisymm hi ge
    exact .inl ⟨w.stops H q, hd H p⟩
end Lk

/-! ## RM -/
set_option Elab.async false
set_option linter.all false
/-! Rings of looks, as data: the paths level by level; what they are. -/
namespace Lk
theorem nodup_le {α : Type} [DecidableEq α] : ∀ (l D : List α), l.Nodup → (∀ x ∈ l, x ∈ D) → l.length ≤ D.length
  | [], D, _, _ => Nat.zero_le _
  | x :: l, D, nd, h => by
    obtain ⟨n1, n2⟩ := List.nodup_cons.mp nd
    have hx : x ∈ D := h x (List.mem_cons_self ..)
    have ih := nodup_le l (D.erase x) n2 fun y hy => by
      have ne : y ≠ x := fun e => n1 (e ▸ hy)
      exact (List.mem_erase_of_ne ne).mpr (h y (List.mem_cons_of_mem _ hy))
    rw [List.length_erase_of_mem hx] at ih
    have : 0 < D.length := List.length_pos_of_mem hx
    rw [List.length_cons]
    omega
/-- the whole numbers from a, below b -/
def nums (a b : Int) : List Int := (List.range (b - a).toNat).map fun i : Nat => a + (i : Int)
theorem nums_len (a b : Int) : (nums a b).length = (b - a).toNat := by unfold nums; rw [List.length_map, List.length_range]
theorem mem_nums {a b x : Int} : x ∈ nums a b ↔ a ≤ x ∧ x < b := by
  unfold nums
  rw [List.mem_map]
  constructor
  · rintro ⟨i, hi, rfl⟩
    have := List.mem_range.mp hi
    omega
  · rintro ⟨h1, h2⟩
    exact ⟨(x - a).toNat, List.mem_range.mpr (by omega), by omega⟩
theorem nums_get {a b : Int} {i : Nat} (h : i < (b - a).toNat) : (nums a b)[i]? = some (a + (i : Int)) := by
  unfold nums
  rw [List.getElem?_map, List.getElem?_range h] <;> rfl
theorem nums_cons {a b : Int} (h : a < b) : nums a b = a :: nums (a + 1) b := by
  unfold nums
  have e : (b - a).toNat = (b - (a + 1)).toNat + 1 := by omega
  rw [e, List.range_succ_eq_map, List.map_cons, List.map_map]
  congr 1
  · simp
  · refine List.map_congr_left fun i _ => ?_
    show a + ((i + 1 : Nat) : Int) = a + 1 + (i : Int)
    omega
theorem nums_nil {a b : Int} (h : b ≤ a) : nums a b = [] := by
  unfold nums
  have e : (b - a).toNat = 0 := by omega
  rw [e] <;> rfl
/-- the greater ones alone -/
theorem nums_over {q : Int → Bool} {h b : Int} : ∀ (n : Nat) {a : Int}, (h + 1 - a).toNat = n → a ≤ h + 1 → (nums a b).filter (fun x => q x && decide (h < x)) = (nums (h + 1) b).filter q
  | 0, a, e, l => by
    have ea : a = h + 1 := by omega
    subst ea
    refine List.filter_congr fun x hx => ?_
    have := (mem_nums.mp hx).1
    rw [decide_eq_true (show h < x by omega), Bool.and_true]
  | n + 1, a, e, l => by
    by_cases hab : a < b
    · rw [nums_cons hab, List.filter_cons]
      have : decide (h < a) = false := decide_eq_false (by omega)
      rw [this, Bool.and_false]
      simp only [Bool.false_eq_true, if_false]
      exact nums_over n (by omega) (by omega)
    · rw [nums_nil (by omega), nums_nil (by omega)] <;> rfl
/-! ### looks by their numbers -/
def lookN (ls : List (Int × Int × Int)) (n : Int) : Int × Int × Int := ls.getD n.toNat (0, 0, 0)
/-- at whom, who, the sign -/
def lkd (ls : List (Int × Int × Int)) (n : Int) : Int := (lookN ls n).1
def lkr (ls : List (Int × Int × Int)) (n : Int) : Int := (lookN ls n).2.1
def lks (ls : List (Int × Int × Int)) (n : Int) : Int := (lookN ls n).2.2
theorem lookN_get {ls : List (Int × Int × Int)} {n : Int} (h0 : 0 ≤ n) (h : n < ls.length) : ls[n.toNat]? = some (lookN ls n) := by
  unfold lookN
  rw [List.getD_eq_getElem?_getD, List.getElem?_eq_getElem (by omega)] <;> rfl
theorem lookN_mem {ls : List (Int × Int × Int)} {n : Int} (h0 : 0 ≤ n) (h : n < ls.length) : lookN ls n ∈ ls := List.mem_of_getElem? (lookN_get h0 h)
def closesP (ls : List (Int × Int × Int)) (p : List Int) : Bool := lkr ls (p.getLastD 0) == lkd ls (p.headD 0)
def goesOnP (ls : List (Int × Int × Int)) (p : List Int) (n : Int) : Bool := lkd ls n == lkr ls (p.getLastD 0) && !((p.map (lkr ls)).contains (lkr ls n))
def longer (ls : List (Int × Int × Int)) (p : List Int) : List (List Int) := if closesP ls p = true then [] else ((nums (p.headD 0 + 1) ls.length).filter (goesOnP ls p)).map fun n => p ++ [n]
def level (ls : List (Int × Int × Int)) : Nat → List (List Int)
  | 0 => (nums 0 ls.length).map fun n => [n]
  | k + 1 => (level ls k).flatMap (longer ls)
def foundN (ls : List (Int × Int × Int)) : Nat → List (List Int)
  | 0 => []
  | k + 1 => foundN ls k ++ (level ls k).filter (closesP ls)
/-- all rings, not yet sorted -/
def ringsRaw (ls : List (Int × Int × Int)) : List (List Int) := foundN ls 7
/-- a path: numbers of looks, the first the least, each one's looker the one at whom the next one looks, through unlike folk -/
structure PathOk (ls : List (Int × Int × Int)) (p : List Int) : Prop where
  ne : p ≠ []
  num : ∀ n ∈ p, 0 ≤ n ∧ n < ls.length
  nd : (p.map (lkr ls)).Nodup
  least : ∀ n ∈ p, p.headD 0 ≤ n
  chain : ∀ (i : Nat) (a b : Int), p[i]? = some a → p[i + 1]? = some b → lkr ls a = lkd ls b
theorem headD_app {p : List Int} {x : List Int} (h : p ≠ []) : (p ++ x).headD 0 = p.headD 0 := by
  cases p with
  | nil => exact absurd rfl h
  | cons a b => rfl
theorem getLastD_app {p : List Int} {n : Int} : (p ++ [n]).getLastD 0 = n := by simp [List.getLastD_eq_getLast?]
theorem getLastD_get {p : List Int} (h : p ≠ []) : p[p.length - 1]? = some (p.getLastD 0) := by
  rw [List.getLastD_eq_getLast?, List.getLast?_eq_getElem?]
  have : 0 < p.length := List.length_pos_iff.mpr h
  rw [List.getElem?_eq_getElem (by omega)] <;> rfl
theorem getLastD_mem {p : List Int} (h : p ≠ []) : p.getLastD 0 ∈ p := List.mem_of_getElem? (getLastD_get h)
theorem headD_mem {p : List Int} (h : p ≠ []) : p.headD 0 ∈ p := by
  cases p with
  | nil => exact absurd rfl h
  | cons a b => exact List.mem_cons_self ..
theorem path_one {ls : List (Int × Int × Int)} {n : Int} (h : 0 ≤ n ∧ n < ls.length) : PathOk ls [n] :=
  ⟨by simp, fun m hm => by rw [List.mem_singleton.mp hm]; exact h, by simp, fun m hm => by rw [List.mem_singleton.mp hm]; exact Int.le_refl _, fun i a b h1 h2 => by simp at h2⟩
theorem path_more {ls : List (Int × Int × Int)} {p : List Int} {n : Int} (ok : PathOk ls p) (hn : p.headD 0 + 1 ≤ n ∧ n < ls.length) (g : goesOnP ls p n = true) : PathOk ls (p ++ [n]) := by
  obtain ⟨g1, g2⟩ := Bool.and_eq_true_iff.mp g
  have g1 : lkd ls n = lkr ls (p.getLastD 0) := beq_iff_eq.mp g1
  have g2 : lkr ls n ∉ p.map (lkr ls) := by
    intro z
    rw [Bool.not_eq_true', ← Bool.not_eq_true] at g2
    exact g2 (List.contains_iff_mem.mpr z)
  have h0 := ok.num _ (headD_mem ok.ne)
  refine ⟨by simp, fun m hm => ?_, ?_, fun m hm => ?_, fun i a b h1 h2 => ?_⟩
  · rcases List.mem_append.mp hm with q | q
    · exact ok.num m q
    · rw [List.mem_singleton.mp q]
      exact ⟨by omega, hn.2⟩
  · rw [List.map_append, List.map_singleton]
    refine List.nodup_append.mpr ⟨ok.nd, by simp, fun a ha b hb => ?_⟩
    rw [List.mem_singleton.mp hb]
    intro e
    exact g2 (e ▸ ha)
  · rw [headD_app ok.ne]
    rcases List.mem_append.mp hm with q | q
    · exact ok.least m q
    · rw [List.mem_singleton.mp q]
      omega
  · by_cases hi : i + 1 < p.length
    · rw [List.getElem?_append_left (by omega)] at h1
      rw [List.getElem?_append_left hi] at h2
      exact ok.chain i a b h1 h2
    · have hl : i + 1 = p.length := by
        have := (List.getElem?_eq_some_iff.mp h2).1
        rw [List.length_append, List.length_singleton] at this
        omega
      rw [List.getElem?_append_right (by omega), hl, Nat.sub_self] at h2
      rw [List.getElem?_append_left (by omega)] at h1
      have e1 := getLastD_get ok.ne
      rw [show p.length - 1 = i by omega, h1] at e1
      have eb : n = b := by simpa using h2
      rw [Option.some.inj e1, ← eb]
      exact g1.symm
theorem longer_mem {ls : List (Int × Int × Int)} {p q : List Int} (h : q ∈ longer ls p) : closesP ls p = false ∧ ∃ n, q = p ++ [n] ∧ (p.headD 0 + 1 ≤ n ∧ n < ls.length) ∧ goesOnP ls p n = true := by
  unfold longer at h
  by_cases c : closesP ls p = true
  · rw [if_pos c] at h
    simp at h
  · rw [if_neg c] at h
    obtain ⟨n, hn, rfl⟩ := List.mem_map.mp h
    obtain ⟨h1, h2⟩ := List.mem_filter.mp hn
    exact ⟨by simpa using c, n, rfl, mem_nums.mp h1, h2⟩
theorem level_ok {ls : List (Int × Int × Int)} : ∀ (k : Nat) {p : List Int}, p ∈ level ls k → PathOk ls p ∧ p.length = k + 1
  | 0, p, h => by
    obtain ⟨n, hn, rfl⟩ := List.mem_map.mp h
    exact ⟨path_one (mem_nums.mp hn), rfl⟩
  | k + 1, p, h => by
    obtain ⟨q, hq, hp⟩ := List.mem_flatMap.mp h
    obtain ⟨ok, hl⟩ := level_ok k hq
    obtain ⟨_, n, rfl, hn, g⟩ := longer_mem hp
    exact ⟨path_more ok hn g, by rw [List.length_append, hl]; rfl⟩
theorem level_none {ls : List (Int × Int × Int)} {m : Nat} (hm : ∀ l ∈ ls, 0 ≤ l.2.1 ∧ l.2.1 < (m : Int)) {k : Nat} (hk : m ≤ k) : level ls k = [] := by
  cases e : level ls k with
  | nil => rfl
  | cons p r =>
    obtain ⟨ok, hl⟩ := level_ok (ls := ls) k (p := p) (by rw [e]; exact List.mem_cons_self ..)
    have := nodup_le (p.map (lkr ls)) (nums 0 m) ok.nd fun x hx => by
      obtain ⟨n, hn, rfl⟩ := List.mem_map.mp hx
      obtain ⟨h0, h1⟩ := ok.num n hn
      exact mem_nums.mpr (hm _ (lookN_mem h0 h1))
    rw [List.length_map, nums_len, hl] at this
    omega
theorem filter_len_le {α : Type} (p : α → Bool) (l : List α) : (l.filter p).length ≤ l.length := List.length_filter_le _ _
theorem longer_len (ls : List (Int × Int × Int)) (p : List Int) (h : 0 ≤ p.headD 0 ∨ True) (h14 : ls.length ≤ 14) (h0 : 0 ≤ p.headD 0) : (longer ls p).length ≤ 14 := by
  unfold longer
  split
  · exact Nat.zero_le _
  · rw [List.length_map]
    refine Nat.le_trans (List.length_filter_le _ _) ?_
    rw [nums_len]
    omega
theorem flatMap_len {α β : Type} {f : α → List β} {c : Nat} : ∀ {l : List α}, (∀ x ∈ l, (f x).length ≤ c) → (l.flatMap f).length ≤ c * l.length
  | [], _ => by simp
  | x :: l, h => by
    rw [List.flatMap_cons, List.length_append, List.length_cons]
    have h1 := h x (List.mem_cons_self ..)
    have h2 := flatMap_len (l := l) fun y hy => h y (List.mem_cons_of_mem _ hy)
    rw [Nat.mul_succ]
    omega
theorem level_len {ls : List (Int × Int × Int)} (h14 : ls.length ≤ 14) : ∀ k : Nat, (level ls k).length ≤ 14 ^ (k + 1)
  | 0 => by
    show ((nums 0 ls.length).map fun n => [n]).length ≤ 14 ^ (0 + 1)
    rw [List.length_map, nums_len]
    omega
  | k + 1 => by
    have h := flatMap_len (f := longer ls) (c := 14) (l := level ls k) fun p hp => longer_len ls p (.inr trivial) h14 ((level_ok k hp).1.num _ (headD_mem (level_ok k hp).1.ne)).1
    have h2 := level_len h14 k
    show ((level ls k).flatMap (longer ls)).length ≤ 14 ^ (k + 1 + 1)
    rw [Nat.pow_succ]
    omega
theorem level_small {ls : List (Int × Int × Int)} (h14 : ls.length ≤ 14) (hm : ∀ l ∈ ls, 0 ≤ l.2.1 ∧ l.2.1 < (6 : Int)) (k : Nat) : (level ls k).length ≤ 7529536 := by
  by_cases hk : 6 ≤ k
  · rw [level_none (m := 6) hm hk]
    exact Nat.zero_le _
  · have h := level_len h14 k
    have h2 : 14 ^ (k + 1) ≤ 14 ^ 6 := Nat.pow_le_pow_right (by decide) (by omega)
    exact Nat.le_trans h h2
theorem found_small {ls : List (Int × Int × Int)} (h14 : ls.length ≤ 14) (hm : ∀ l ∈ ls, 0 ≤ l.2.1 ∧ l.2.1 < (6 : Int)) : ∀ k : Nat, (foundN ls k).length ≤ 8108730
  | 0 => Nat.zero_le _
  | 1 => by
    have := level_len h14 0
    have h2 := List.length_filter_le (closesP ls) (level ls 0)
    show ([] ++ (level ls 0).filter (closesP ls)).length ≤ _
    rw [List.nil_append]
    omega
  | k + 2 => by
    have key : ∀ k, (foundN ls k).length ≤ if k = 0 then 0 else if k = 1 then 14 else if k = 2 then 210 else if k = 3 then 2954 else if k = 4 then 41370 else if k = 5 then 579194 else 8108730 := by
      intro k
      induction k with
      | zero => exact Nat.zero_le _
      | succ k ih =>
        have h1 := level_len h14 k
        have h2 := List.length_filter_le (closesP ls) (level ls k)
        have e : (foundN ls (k + 1)).length = (foundN ls k).length + ((level ls k).filter (closesP ls)).length := by
          show (foundN ls k ++ _).length = _
          rw [List.length_append]
        rw [e]
        rcases (by omega : k = 0 ∨ k = 1 ∨ k = 2 ∨ k = 3 ∨ k = 4 ∨ k = 5 ∨ 6 ≤ k) with z | z | z | z | z | z | z
        · subst z; have z0 : (foundN ls 0).length = 0 := rfl; simp at h1 ⊢; omega
        · subst z; simp at ih h1 ⊢; omega
        · subst z; simp at ih h1 ⊢; omega
        · subst z; simp at ih h1 ⊢; omega
        · subst z; simp at ih h1 ⊢; omega
        · subst z; simp at ih h1 ⊢; omega
        · rw [level_none (m := 6) hm z] at h2 ⊢
          simp at ih ⊢
          split at ih <;> (try split at ih) <;> (try split at ih) <;> (try split at ih) <;> (try split at ih) <;> (try split at ih) <;> (try split) <;> (try split) <;> (try split) <;> (try split) <;> (try split) <;> omega
    have := key (k + 2)
    refine Nat.le_trans this ?_
    repeat' split
    all_goals omega
theorem found_end {ls : List (Int × Int × Int)} {k : Nat} (h : level ls k = []) : ∀ j, foundN ls (k + j) = foundN ls k
  | 0 => rfl
  | j + 1 => by
    have hz : ∀ j, level ls (k + j) = [] := fun j => by
      induction j with
      | zero => exact h
      | succ j ih =>
        show (level ls (k + j)).flatMap (longer ls) = []
        rw [ih] <;> rfl
    show foundN ls (k + j) ++ (level ls (k + j)).filter (closesP ls) = _
    rw [hz j, found_end h j]
    simp
theorem found_all {ls : List (Int × Int × Int)} {k : Nat} (h : level ls k = []) (hk : k ≤ 7) : foundN ls k = ringsRaw ls := by
  have := found_end h (7 - k)
  rw [show k + (7 - k) = 7 by omega] at this
  exact this.symm
theorem found_mem {ls : List (Int × Int × Int)} : ∀ {k : Nat} {p : List Int}, p ∈ foundN ls k → ∃ j, j < k ∧ p ∈ level ls j ∧ closesP ls p = true
  | 0, p, h => by simp [foundN] at h
  | k + 1, p, h => by
    rcases List.mem_append.mp (show p ∈ foundN ls k ++ (level ls k).filter (closesP ls) from h) with q | q
    · obtain ⟨j, a, b⟩ := found_mem q
      exact ⟨j, by omega, b⟩
    · obtain ⟨a, b⟩ := List.mem_filter.mp q
      exact ⟨k, by omega, a, b⟩
theorem raw_ok {ls : List (Int × Int × Int)} {p : List Int} (h : p ∈ ringsRaw ls) : PathOk ls p ∧ closesP ls p = true ∧ p.length ≤ 7 := by
  obtain ⟨j, hj, a, b⟩ := found_mem (k := 7) h
  obtain ⟨ok, hl⟩ := level_ok j a
  exact ⟨ok, b, by omega⟩
/-- a ring twice over is none -/
theorem raw_twice {ls : List (Int × Int × Int)} {p : List Int} (h : p ≠ []) : p ++ p ∉ ringsRaw ls := fun z => by
  have nd := (raw_ok z).1.nd
  rw [List.map_append] at nd
  have := (List.nodup_append.mp nd).2.2 (lkr ls (p.headD 0)) (List.mem_map.mpr ⟨_, headD_mem h, rfl⟩) _ (List.mem_map.mpr ⟨_, headD_mem h, rfl⟩)
  exact this rfl
/-! ### signs -/
def prodS (ls : List (Int × Int × Int)) (p : List Int) : Int := p.foldl (fun a n => a * lks ls n) 1
def evenP (ls : List (Int × Int × Int)) (p : List Int) : Bool := (p.filter fun n => lks ls n == -1).length % 2 == 0
theorem prod_fold {ls : List (Int × Int × Int)} : ∀ (p : List Int) (a : Int), (a = 1 ∨ a = -1) → (∀ n ∈ p, lks ls n = 1 ∨ lks ls n = -1) →
    p.foldl (fun a n => a * lks ls n) a = a * (if (p.filter fun n => lks ls n == -1).length % 2 = 0 then 1 else -1)
  | [], a, _, _ => by simp
  | n :: p, a, ha, h => by
    have hn := h n (List.mem_cons_self ..)
    rw [List.foldl_cons, prod_fold p (a * lks ls n) (by rcases ha with e | e <;> rcases hn with f | f <;> rw [e, f] <;> simp) fun m hm => h m (List.mem_cons_of_mem _ hm), List.filter_cons]
    rcases hn with f | f
    · rw [f]
      simp
    · rw [f]
      simp only [beq_self_eq_true, if_true, List.length_cons]
      by_cases e : (p.filter fun n => lks ls n == -1).length % 2 = 0
      · rw [if_pos e, if_neg (by omega)]
        omega
      · rw [if_neg e, if_pos (by omega)]
        omega
theorem prod_even {ls : List (Int × Int × Int)} {p : List Int} (h : ∀ n ∈ p, lks ls n = 1 ∨ lks ls n = -1) : prodS ls p = if evenP ls p = true then 1 else -1 := by
  unfold prodS
  rw [prod_fold p 1 (.inl rfl) h, Int.one_mul]
  unfold evenP
  by_cases e : (p.filter fun n => lks ls n == -1).length % 2 = 0
  · rw [if_pos e, e] <;> rfl
  · rw [if_neg e, if_neg (by simpa using e)]
end Lk

/-! ## Lcg -/
set_option Elab.async false
set_option linter.all false
set_option maxRecDepth 100000
set_option maxHeartbeats 2000000
/-! Comprehensions told by a function of what their source holds. -/
namespace Lk
open PySem PySem.Spec PyProof.Rows L2 Gx
variable [Own]
/-- what is told of a value stays told in heaps that have grown, and behind a write at a list -/
structure Stays {α : Type} (S : Hp → V → α → Prop) : Prop where
  ext : ∀ {H H' : Hp} {v : V} {a : α}, Ext H H' → S H v a → S H' v a
  put : ∀ {H : Hp} {D : Addr} {acc : List V} {o : HO} {v : V} {a : α}, H D = some (.lst acc) → S H v a → S (upd H D o) v a
theorem stTI : Stays TI := ⟨fun e h => h.ext e, fun {H D acc o v a} hD h => by
  obtain ⟨z, rfl, hz⟩ := h
  exact ⟨z, rfl, by rw [upd_ne (ne_of hD hz (by intro q; cases q)).symm]; exact hz⟩⟩
/-- an int -/
def VI : Hp → V → Int → Prop := fun _ v n => v = .int n
theorem stVI : Stays VI := ⟨fun _ h => h, fun _ h => h⟩
theorem pVI {H : Hp} : ∀ {vs : List V} {ns : List Int}, Paired (VI H) vs ns → vs = iv ns
  | _, _, .nil => rfl
  | _, _, .cons h t => by rw [show _ = _ from h, pVI t] <;> rfl
theorem iv_pVI {H : Hp} : ∀ ns : List Int, Paired (VI H) (iv ns) ns
  | [] => .nil
  | n :: ns => .cons rfl (iv_pVI ns)
/-- any value, told by nothing but itself -/
def VV : Hp → V → V → Prop := fun _ v w => v = w
theorem stVV : Stays VV := ⟨fun _ h => h, fun _ h => h⟩
theorem pVV {H : Hp} : ∀ {vs ws : List V}, Paired (VV H) vs ws → vs = ws
  | _, _, .nil => rfl
  | _, _, .cons h t => by rw [show _ = _ from h, pVV t]
theorem vv_p {H : Hp} : ∀ vs : List V, Paired (VV H) vs vs
  | [] => .nil
  | _ :: vs => .cons rfl (vv_p vs)
theorem filterMap_take {α β : Type} {f : α → Option β} {l : List α} {i : Nat} {x : α} (h : l[i]? = some x) : (l.take (i + 1)).filterMap f = (l.take i).filterMap f ++ (match f x with | some y => [y] | none => []) := by
  rw [take_snoc h, List.filterMap_append]
  congr 1
  cases e : f x <;> simp [e]
theorem lc_fm {J : It} {n : Nat} {G : Hp → Prop} {Y : Nat → Hp → V → Hp → Prop} (w : Walk J n G Y) {α β : Type} {R : Hp → V → α → Prop} {S : Hp → V → β → Prop} (st : Stays S) {bs : List α} {g : TG} {tt : TT} {te : TE} {vs : List Nat} {σ : L2.St} {H1 : Hp} {D : Addr} {Qd : Hp → Prop}
    (f : α → Option β) (hD : H1 D = none) (few : n ≤ sizeLine) (hn : bs.length = n) (hG : ∀ H', Ext H1 H' → G H') (hY : ∀ i H x H', Ext H1 H → i < n → Y i H x H' → H' = H ∧ ∃ b, bs[i]? = some b ∧ R H x b)
    (hs : ∀ x b H' (Ky : V → Hp → Prop) (Kn : Hp → Prop), Ext H1 H' → b ∈ bs → R H' x b → (∀ y r H4, f b = some r → Ext H' H4 → S H4 y r → Ky y H4) → (∀ H3, f b = none → Ext H' H3 → Kn H3) →
      g x (wipe σ vs) H' fun σ2 H2 => wipe σ2 vs = wipe σ vs ∧ tt σ2 H2 fun c H3 => if c = true then te σ2 H3 Ky else Kn H3)
    (hd : ∀ H' acc, Ext H1 H' → H' D = some (.lst acc) → Paired (S H') acc (bs.filterMap f) → Qd H') :
    ∃ W : Nat → Nat → Hp → Prop, (∃ m, W 0 m (upd H1 D (.lst []))) ∧ ∀ i m H, W i m H →
      (J.stop i H ∧ Qd H) ∨ (J.go i H ∧ ∃ Nx : Hp → Prop, (∀ H', Nx H' → ∃ m', m' < m ∧ W (i + 1) m' H') ∧ ∀ x H', J.yld i H x H' → g x (wipe σ vs) H' fun σ2 H2 => wipe σ2 vs = wipe σ vs ∧ tt σ2 H2 fun b H3 =>
        if b = true then te σ2 H3 fun y H4 => ∃ acc, H4 D = some (.lst acc) ∧ acc.length < sizeLine ∧ Nx (upd H4 D (.lst (acc ++ [y]))) else Nx H3) := by
  refine lc_walk w (fun i H' => ∃ acc, H' D = some (.lst acc) ∧ Ext H1 H' ∧ acc.length ≤ i ∧ Paired (S H') acc ((bs.take i).filterMap f)) ⟨[], upd_same, Ext.new hD _, Nat.le_refl _, .nil⟩ (fun i H' _ ⟨_, _, e, _⟩ => hG H' e) (fun i x H' H2 hi ⟨acc, hacc, e, hl, hp⟩ y => ?_) fun H' ⟨acc, hacc, e, hl, hp⟩ => ?_
  · obtain ⟨rfl, b, hb, hr⟩ := hY i H' x H2 e hi y
    refine hs x b _ _ _ e (List.mem_of_getElem? hb) hr (fun y r H4 hf e4 hy => ?_) fun H3 hf e3 => ?_
    · have h4 := e4.lst hacc
      refine ⟨acc, h4, by omega, acc ++ [y], upd_same, (e.trans e4).put hD _, by rw [List.length_append]; simp; omega, ?_⟩
      rw [filterMap_take hb, hf]
      exact paired_snoc (st.put h4 hy) (paired_mono (fun v a h => st.put h4 (st.ext e4 h)) hp)
    · refine ⟨acc, e3.lst hacc, e.trans e3, by omega, ?_⟩
      rw [filterMap_take hb, hf]
      show Paired _ _ (_ ++ [])
      rw [List.append_nil]
      exact paired_mono (fun v a h => st.ext e3 h) hp
  · refine hd H' acc e hacc ?_
    rw [← hn, List.take_length] at hp
    exact hp
section
variable {K : PySem.W.Frag} {a : Addr} {xs : List V} {α β : Type} {R : Hp → V → α → Prop} {S : Hp → V → β → Prop} {bs : List α} {g : TG} {tt : TT} {te : TE} {vs : List Nat} {σ : L2.St} {H1 : Hp} {D : Addr} {Qd : Hp → Prop}
/-- over a list -/
theorem lc_fmL (sr : Stays R) (st : Stays S) (f : α → Option β) (hD : H1 D = none) (hx : H1 a = some (.lst xs)) (hp : Paired (R H1) xs bs) (few : xs.length ≤ sizeLine)
    (hs : ∀ x b H' (Ky : V → Hp → Prop) (Kn : Hp → Prop), Ext H1 H' → b ∈ bs → R H' x b → (∀ y r H4, f b = some r → Ext H' H4 → S H4 y r → Ky y H4) → (∀ H3, f b = none → Ext H' H3 → Kn H3) →
      g x (wipe σ vs) H' fun σ2 H2 => wipe σ2 vs = wipe σ vs ∧ tt σ2 H2 fun c H3 => if c = true then te σ2 H3 Ky else Kn H3)
    (hd : ∀ H' acc, Ext H1 H' → H' D = some (.lst acc) → Paired (S H') acc (bs.filterMap f) → Qd H') :
    ∃ W : Nat → Nat → Hp → Prop, (∃ m, W 0 m (upd H1 D (.lst []))) ∧ ∀ i m H, W i m H →
      ((Itl K a).stop i H ∧ Qd H) ∨ ((Itl K a).go i H ∧ ∃ Nx : Hp → Prop, (∀ H', Nx H' → ∃ m', m' < m ∧ W (i + 1) m' H') ∧ ∀ x H', (Itl K a).yld i H x H' → g x (wipe σ vs) H' fun σ2 H2 => wipe σ2 vs = wipe σ vs ∧ tt σ2 H2 fun b H3 =>
        if b = true then te σ2 H3 fun y H4 => ∃ acc, H4 D = some (.lst acc) ∧ acc.length < sizeLine ∧ Nx (upd H4 D (.lst (acc ++ [y]))) else Nx H3) :=
  lc_fm (walk_list (K := K) (a := a) (xs := xs)) st f hD few (paired_len hp).symm (fun H' e => SqL.of (e.lst hx)) (fun i H x H' e hi y => by
    obtain ⟨rfl, hx2⟩ := y
    obtain ⟨b, hb, hr⟩ := paired_get' hp hx2
    exact ⟨rfl, b, hb, sr.ext e hr⟩) hs hd
/-- over a tuple -/
theorem lc_fmT (sr : Stays R) (st : Stays S) (f : α → Option β) (hD : H1 D = none) (hx : H1 a = some (.tup xs)) (hp : Paired (R H1) xs bs) (few : xs.length ≤ sizeLine)
    (hs : ∀ x b H' (Ky : V → Hp → Prop) (Kn : Hp → Prop), Ext H1 H' → b ∈ bs → R H' x b → (∀ y r H4, f b = some r → Ext H' H4 → S H4 y r → Ky y H4) → (∀ H3, f b = none → Ext H' H3 → Kn H3) →
      g x (wipe σ vs) H' fun σ2 H2 => wipe σ2 vs = wipe σ vs ∧ tt σ2 H2 fun c H3 => if c = true then te σ2 H3 Ky else Kn H3)
    (hd : ∀ H' acc, Ext H1 H' → H' D = some (.lst acc) → Paired (S H') acc (bs.filterMap f) → Qd H') :
    ∃ W : Nat → Nat → Hp → Prop, (∃ m, W 0 m (upd H1 D (.lst []))) ∧ ∀ i m H, W i m H →
      ((Itt K a).stop i H ∧ Qd H) ∨ ((Itt K a).go i H ∧ ∃ Nx : Hp → Prop, (∀ H', Nx H' → ∃ m', m' < m ∧ W (i + 1) m' H') ∧ ∀ x H', (Itt K a).yld i H x H' → g x (wipe σ vs) H' fun σ2 H2 => wipe σ2 vs = wipe σ vs ∧ tt σ2 H2 fun b H3 =>
        if b = true then te σ2 H3 fun y H4 => ∃ acc, H4 D = some (.lst acc) ∧ acc.length < sizeLine ∧ Nx (upd H4 D (.lst (acc ++ [y]))) else Nx H3) :=
  lc_fm (walk_tup (K := K) (a := a) (xs := xs)) st f hD few (paired_len hp).symm (fun H' e => SqT.of (e.tup hx)) (fun i H x H' e hi y => by
    obtain ⟨rfl, hx2⟩ := y
    obtain ⟨b, hb, hr⟩ := paired_get' hp hx2
    exact ⟨rfl, b, hb, sr.ext e hr⟩) hs hd
end
section
variable {β : Type} {S : Hp → V → β → Prop} {g : TG} {tt : TT} {te : TE} {vs : List Nat} {σ : L2.St} {H1 : Hp} {D : Addr} {Qd : Hp → Prop}
/-- over a range -/
theorem lc_fmR {lo : Int} {n : Nat} (st : Stays S) (f : Int → Option β) (hD : H1 D = none) (few : n ≤ sizeLine)
    (hs : ∀ b H' (Ky : V → Hp → Prop) (Kn : Hp → Prop), Ext H1 H' → lo ≤ b → b < lo + n → (∀ y r H4, f b = some r → Ext H' H4 → S H4 y r → Ky y H4) → (∀ H3, f b = none → Ext H' H3 → Kn H3) →
      g (.int b) (wipe σ vs) H' fun σ2 H2 => wipe σ2 vs = wipe σ vs ∧ tt σ2 H2 fun c H3 => if c = true then te σ2 H3 Ky else Kn H3)
    (hd : ∀ H' acc, Ext H1 H' → H' D = some (.lst acc) → Paired (S H') acc ((nums lo (lo + n)).filterMap f) → Qd H') :
    ∃ W : Nat → Nat → Hp → Prop, (∃ m, W 0 m (upd H1 D (.lst []))) ∧ ∀ i m H, W i m H →
      ((Itr lo n).stop i H ∧ Qd H) ∨ ((Itr lo n).go i H ∧ ∃ Nx : Hp → Prop, (∀ H', Nx H' → ∃ m', m' < m ∧ W (i + 1) m' H') ∧ ∀ x H', (Itr lo n).yld i H x H' → g x (wipe σ vs) H' fun σ2 H2 => wipe σ2 vs = wipe σ vs ∧ tt σ2 H2 fun b H3 =>
        if b = true then te σ2 H3 fun y H4 => ∃ acc, H4 D = some (.lst acc) ∧ acc.length < sizeLine ∧ Nx (upd H4 D (.lst (acc ++ [y]))) else Nx H3) :=
  lc_fm (walk_range (lo := lo) (n := n)) (R := VI) (bs := nums lo (lo + n)) st f hD few (by rw [nums_len]; omega) (fun _ _ => trivial) (fun i H x H' e hi y => by
    obtain ⟨rfl, hx2⟩ := y
    refine ⟨rfl, lo + (i : Int), nums_get (by omega), hx2⟩) (fun x b H' Ky Kn e hb hr k1 k2 => by
    rw [show x = V.int b from hr]
    obtain ⟨b1, b2⟩ := mem_nums.mp hb
    exact hs b H' Ky Kn e b1 b2 k1 k2) hd
end
end Lk

/-! ## KvF -/
set_option Elab.async false
set_option linter.all false
set_option maxRecDepth 100000
set_option maxHeartbeats 2000000
/-! Dicts with rows of ints as keys, told by a function. -/
namespace Lk
open PySem PySem.Spec PyProof.Rows L2 Gx
variable [Own]
def kR (r : List Int) : List Key := r.map Sum.inl
theorem kR_inj {a b : List Int} (h : kR a = kR b) : a = b := by
  unfold kR at h
  exact (List.map_inj_right (fun x y e => Sum.inl.inj e)).mp h
theorem kR_kV (r : List Int) : (kR r).map kV = iv r := by
  unfold kR iv
  rw [List.map_map]
  rfl
def kvF (rows : List (List Int)) (g : List Int → V) : List (List Key × V) := rows.map fun r => (kR r, g r)
theorem kvF_in {g : List Int → V} {k : List Int} : ∀ {rows : List (List Int)}, k ∈ rows → valV (kvF rows g) (kR k) = some (g k)
  | [], h => by cases h
  | r :: rows, h => by
    show valV ((kR r, g r) :: kvF rows g) (kR k) = _
    by_cases e : r = k
    · rw [valV_pos (p := (kR r, g r)) (by rw [e]), e]
    · rw [valV_neg (p := (kR r, g r)) (fun z => e (kR_inj z))]
      exact kvF_in ((List.mem_cons.mp h).resolve_left fun z => e z.symm)
theorem kvF_out {g : List Int → V} {k : List Int} : ∀ {rows : List (List Int)}, k ∉ rows → valV (kvF rows g) (kR k) = none
  | [], h => rfl
  | r :: rows, h => by
    show valV ((kR r, g r) :: kvF rows g) (kR k) = _
    rw [valV_neg (p := (kR r, g r)) (fun z => h (by rw [kR_inj z]; exact List.mem_cons_self ..))]
    exact kvF_out fun z => h (List.mem_cons_of_mem _ z)
theorem kvF_snoc {g : List Int → V} {rows : List (List Int)} {k : List Int} (h : k ∉ rows) : putK (kvF rows g) (kR k) (g k) = kvF (rows ++ [k]) g := by
  rw [putK_new _ (kvF_out h)]
  unfold kvF
  rw [List.map_append]
  rfl
theorem kvF_len (rows : List (List Int)) (g : List Int → V) : (kvF rows g).length = rows.length := List.length_map ..
theorem nodup_at {rows : List (List Int)} (nd : rows.Nodup) {i : Nat} {k : List Int} (h : rows[i]? = some k) : k ∉ rows.take i := by
  intro hm
  obtain ⟨j, hj⟩ := List.getElem?_of_mem hm
  have hlt : j < i := by
    have := (List.getElem?_eq_some_iff.mp hj).1
    rw [List.length_take] at this
    omega
  rw [List.getElem?_take, if_pos hlt] at hj
  have h1 := (List.getElem?_eq_some_iff.mp h).1
  have := (List.getElem?_inj h1 nd).mp (h.trans hj.symm)
  omega
theorem ud {k : Nat} {A : Around} (h : Room k A) : A.units + 1 < cLine := by
  have := h.un
  omega
theorem DGet.row {H : Hp} {a b : Addr} {rows : List (List Int)} {g : List Int → V} {k : List Int} (e : H a = some (.dT (kvF rows g))) (hb : H b = some (.tup (iv k))) (hm : k ∈ rows) : DGet H a (.ref b) (some (g k)) := by
  have := DGet.t (k := kR k) e (by rw [kR_kV]; exact hb)
  rw [kvF_in hm] at this
  exact this
theorem DGet.noRow {H : Hp} {a b : Addr} {rows : List (List Int)} {g : List Int → V} {k : List Int} (e : H a = some (.dT (kvF rows g))) (hb : H b = some (.tup (iv k))) (hm : k ∉ rows) : DGet H a (.ref b) none := by
  have := DGet.t (k := kR k) e (by rw [kR_kV]; exact hb)
  rw [kvF_out hm] at this
  exact this
end Lk

/-! ## Zip2 -/
set_option Elab.async false
set_option linter.all false
set_option maxRecDepth 100000
set_option maxHeartbeats 2000000
/-! zip of two, each a list or a tuple, of one length. -/
namespace Lk
open PySem PySem.Spec PyProof.Rows L2 Gx
variable [Own]
def At2 (k l : Bool) (a b : Addr) (H : Hp) (xs ys : List V) : Prop := (SqB k H a xs ∧ SqB l H b ys) ∧ ys.length = xs.length
def Itz2 (k l : Bool) (a b : Addr) : It where
  go i H := ∃ xs ys, At2 k l a b H xs ys ∧ i < xs.length
  yld i H v H' := ∃ T x y, v = .ref T ∧ H T = none ∧ H' = upd H T (.tup [x, y]) ∧ ∀ xs ys, At2 k l a b H xs ys → xs[i]? = some x ∧ ys[i]? = some y
  stop i H := ∃ xs ys, At2 k l a b H xs ys ∧ i = xs.length
/-- an iterator of either kind -/
def ItB (k : Bool) (h : Heap) (i a : Addr) (n : Nat) : Prop := if k = true then h.IsListIter i a n else h.IsTupleIter i a n
/-- what it walks, in the heap itself -/
def ArB (k : Bool) (h : Heap) (a : Addr) (arr : Array Value) : Prop := if k = true then h.IsList a arr else h.IsTuple a arr
theorem SqB.one {k : Bool} {H : Hp} {a : Addr} {xs ys : List V} (h : SqB k H a xs) (h' : SqB k H a ys) : xs = ys := by
  cases k with
  | true =>
    have h : H a = some (.lst xs) := h
    have h' : H a = some (.lst ys) := h'
    rw [h] at h'
    cases h'
    rfl
  | false =>
    have h : H a = some (.tup xs) := h
    have h' : H a = some (.tup ys) := h'
    rw [h] at h'
    cases h'
    rfl
section
variable {P : Program} {w : World} {K : PySem.W.Frag}
theorem inv_arr {X : Cx} {pins : List (Addr × Obj)} {σ : L2.St} {H : Hp} {s : Shared} {k : Bool} {a : Addr} {xs : List V} (I : Inv X pins σ H s) (h : SqB k H a xs) : ∃ its : List Value, Vals xs its ∧ ArB k s.heap a its.toArray ∧ a < s.heap.objs.size := by
  cases k with
  | true =>
    obtain ⟨its, m, v, g, z⟩ := I.lst (show H a = some (.lst xs) from h)
    exact ⟨its, v, ⟨_, g, rfl, _, rfl⟩, get_lt g⟩
  | false =>
    obtain ⟨its, v, g, z⟩ := I.tuple (SqT.of (show H a = some (.tup xs) from h))
    exact ⟨its, v, istup_is g, by obtain ⟨o, g, _⟩ := g; exact get_lt g⟩
theorem draws_b {prog : Program} {A : Around} (hA : A.handled = none) (k : Bool) (i a : Addr) (n : a ≠ i) (arr : Array Value) : Draws prog w A i [i, a] arr.size (fun j v => arr[j]? = some v) (fun j h => ItB k h i a j ∧ ArB k h a arr) := by
  cases k with
  | true => exact Draws.list hA i a n arr
  | false => exact Draws.tuple hA i a n arr
theorem begins_b (k : Bool) (a : Addr) (arr : Array Value) : ∃ o : Obj, Begins (.ref a) o (fun h => ArB k h a arr) ∧ ∀ (h : Heap) (i : Addr), h.get? i = some o → ItB k h i a 0 := by
  cases k with
  | true => exact ⟨_, begins_list a arr, fun h i e => ⟨_, e, rfl, rfl⟩⟩
  | false => exact ⟨_, begins_tuple a arr, fun h i e => ⟨_, e, rfl, rfl⟩⟩
end
end Lk
namespace Lk
open PySem PySem.Spec PyProof.Rows L2 Gx
variable [Own]
abbrev tn2 (k l : Bool) (z TI TO i1 i2 a b : Addr) : Nat → Heap → Prop := fun i h => IsZip h z TI TO .none ∧ IsTupOf2 h TI (.ref i1) (.ref i2) ∧ (∃ a1 a2, IsTupOf2 h TO a1 a2) ∧ ItB k h i1 a i ∧ ItB l h i2 b i
theorem ItB.obj {k : Bool} {h : Heap} {i a : Addr} {n : Nat} (q : ItB k h i a n) : ∃ o, h.get? i = some o ∧ ∀ v, o.data ≠ .cell v := by
  cases k with
  | true =>
    obtain ⟨o, e, _, d⟩ := q
    exact ⟨o, e, fun v z => by rw [d] at z; cases z⟩
  | false =>
    obtain ⟨o, e, _, d⟩ := q
    exact ⟨o, e, fun v z => by rw [d] at z; cases z⟩
theorem ItB.keep {k : Bool} {h h' : Heap} {i a : Addr} {n : Nat} (q : ItB k h i a n) (kp : ∀ o, h.get? i = some o → h'.get? i = some o) : ItB k h' i a n := by
  cases k with
  | true =>
    obtain ⟨o, e, c, d⟩ := q
    exact ⟨o, kp o e, c, d⟩
  | false =>
    obtain ⟨o, e, c, d⟩ := q
    exact ⟨o, kp o e, c, d⟩
section
variable {P : Program} {w : World} {K : PySem.W.Frag}
theorem turn_zip2 {k l : Bool} {elts : List Expr} {kk : Nat} {tpos : Pos} {a b z TI TO i1 i2 : Addr} (sep : ZipSep2 z TI TO i1 i2 [i1, a] [i2, b]) (n1 : a ≠ i1) (n2 : b ≠ i2) :
    Turn P w K (.Tuple elts kk tpos) (Itz2 k l a b) [z, TI, TO, i1, i2] z (tn2 k l z TI TO i1 i2 a b) := by
  refine ⟨List.mem_cons_self .., ?_, ?_, ?_, ?_, ?_⟩
  · rintro i h ⟨hz, hti, ⟨a1, a2, hto⟩, h1, h2⟩ q hq
    simp only [List.mem_cons, List.mem_nil_iff, or_false] at hq
    rcases hq with rfl | rfl | rfl | rfl | rfl
    · exact ⟨_, hz, fun v e => by cases e⟩
    · exact ⟨_, hti, fun v e => by cases e⟩
    · exact ⟨_, hto, fun v e => by cases e⟩
    · exact h1.obj
    · exact h2.obj
  · rintro i h h' ⟨hz, hti, ⟨a1, a2, hto⟩, h1, h2⟩ kp
    exact ⟨kp z (by simp) _ hz, kp TI (by simp) _ hti, ⟨a1, a2, kp TO (by simp) _ hto⟩, h1.keep (kp i1 (by simp)), h2.keep (kp i2 (by simp))⟩
  · rintro X rfl rfl rfl calm i pins s σ H E I hfp ⟨hz, hti, hto, h1, h2⟩ ⟨xs, ys, ⟨⟨ea, eb⟩, ly⟩, hi⟩
    obtain ⟨its1, v1, g1, s1⟩ := inv_arr I ea
    obtain ⟨its2, v2, g2, s2⟩ := inv_arr I eb
    have hA : X.A.in1.handled = none := I.ok.hd calm
    have G := GoesN.zip2 (prog := X.prog) (w := X.w) (A := X.A) (elts := elts) (x1 := kk) (pos := tpos) sep (draws_b hA k i1 a n1 its1.toArray) (draws_b hA l i2 b n2 its2.toArray)
    have l1 := paired_len v1
    have l2 := paired_len v2
    refine G.goes i s _ E (by simp only [List.size_toArray]; omega) ⟨hz, hti, hto, ⟨h1, g1⟩, ⟨h2, g2⟩⟩ ?_
    rintro v h' tk ⟨T, x, y, rfl, hT, p1, p2, hI⟩ ⟨qz, qti, qto, ⟨q1, _⟩, ⟨q2, _⟩⟩ kp ht
    obtain ⟨x', e1, r1⟩ := vals_arr v1 p1
    obtain ⟨y', e2, r2⟩ := vals_arr v2 p2
    have hT0 : H T = none := I.hok.fresh hT
    have I2 := I.turnedNew (h' := h') (t' := tk) (ch := [z, TO, i1, i2]) (T := T) (ob := .tup [x', y']) kp (fun q hq => hfp q (by
      simp only [List.mem_cons, List.mem_nil_iff, or_false] at hq ⊢
      rcases hq with h | h | h | h <;> simp [h])) hT (by
        unfold ObjOk
        exact ⟨by show 2 ≤ sizeLine; decide, [x, y], .cons r1 (.cons r2 .nil), hI⟩)
    refine ⟨.ref T, _, I2, rfl, ⟨T, x', y', rfl, hT0, rfl, ?_⟩, ⟨qz, qti, qto, q1, q2⟩, fun q hq => ?_⟩
    · rintro xs' ys' ⟨⟨fa, fb⟩, _⟩
      have f1 := ea.one fa
      have f2 := eb.one fb
      subst f1 f2
      exact ⟨e1, e2⟩
    · obtain ⟨hn, _⟩ := hfp q hq
      have hq2 : q < s.heap.objs.size := by
        obtain ⟨a1, a2, hto⟩ := hto
        obtain ⟨o1, f1, _⟩ := h1.obj
        obtain ⟨o2, f2, _⟩ := h2.obj
        simp only [List.mem_cons, List.mem_nil_iff, or_false] at hq
        rcases hq with rfl | rfl | rfl | rfl | rfl
        · exact get_lt hz
        · exact get_lt hti
        · exact get_lt hto
        · exact get_lt f1
        · exact get_lt f2
      rw [upd_ne (fun e => by rw [e] at hq2; exact absurd hq2 (Nat.not_lt.mpr hT))]
      exact hn
  · rintro X rfl rfl rfl calm i pins s σ H E I hfp ⟨hz, hti, hto, h1, h2⟩ ⟨xs, ys, ⟨⟨ea, eb⟩, ly⟩, hi⟩
    obtain ⟨its1, v1, g1, s1⟩ := inv_arr I ea
    obtain ⟨its2, v2, g2, s2⟩ := inv_arr I eb
    have hA : X.A.in1.handled = none := I.ok.hd calm
    have G := GoesN.zip2 (prog := X.prog) (w := X.w) (A := X.A) (elts := elts) (x1 := kk) (pos := tpos) sep (draws_b hA k i1 a n1 its1.toArray) (draws_b hA l i2 b n2 its2.toArray)
    have l1 := paired_len v1
    have l2 := paired_len v2
    have en : min its1.toArray.size its2.toArray.size = i := by simp only [List.size_toArray]; omega
    refine G.stops s _ E (by rw [en]; exact ⟨hz, hti, hto, ⟨h1, g1⟩, ⟨h2, g2⟩⟩) ?_
    intro h' tk kp ht
    exact I.turnedL (h' := h') (t' := tk) (ch := [z, TO, i1, i2]) kp (fun q hq => hfp q (by
      simp only [List.mem_cons, List.mem_nil_iff, or_false] at hq ⊢
      rcases hq with h | h | h | h <;> simp [h]))
  · rintro A i s Q E ⟨hz, _⟩ q
    exact wpAny_pyIter_zip hz q
def iZip2 (ta : TA) : L2.TI := fun σ H R => ta σ H fun vs H1 => ∃ (k l : Bool) (a b : Addr) (xs ys : List V), vs = [.ref a, .ref b] ∧ At2 k l a b H1 xs ys ∧ R (Itz2 k l a b) H1
theorem pi_zip2 {X : Cx} {e e2 : Expr} {ta : TA} {p pos tpos : Pos} {elts : List Expr} {kk : Nat} (hg : Gl X "zip") (hm : X.mg "zip" = none) (ha : PA X [e, e2] ta)
    (hs : starEach [e, e2] X.env = (false, eval e X.env) :: starEach [e2] X.env := by rfl) (hpl : (backTo pos (starEach [e2] X.env)).any (·.1) = false := by rfl) :
    PI X (.Tuple elts kk tpos) (.Call (.Name "zip" p) [e, e2] [] pos) (iZip2 ta) := by
  refine ⟨fun pins s σ H R I h => ?_⟩
  refine Call_ (ld_blt I hg hm boot_zip (PyProof.Rows.callWith_type1 (thn (ha.run pos pins s σ H _ I h) fun us s2 q => ?_) hs hpl))
  obtain ⟨vs, H2, I2, rv, k, l, a, b, xs, ys, rfl, hat, r⟩ := q
  obtain ⟨⟨ea, eb⟩, ly⟩ := id hat
  cases rv with
  | cons r1 rv =>
  cases rv with
  | cons r2 rv =>
  cases rv
  cases r1
  cases r2
  obtain ⟨its1, v1, g1, la⟩ := inv_arr I2 ea
  obtain ⟨its2, v2, g2, lb⟩ := inv_arr I2 eb
  obtain ⟨o1, b1, z1⟩ := begins_b k a its1.toArray
  obtain ⟨o2, b2, z2⟩ := begins_b l b its2.toArray
  refine zip_begins2 b1 b2 g1 g2 ?_
  intro h' hz hti hto e1 e2 hsz kp
  refine wpAny_pyIter_zip hz ?_
  have sep := zip_sep2 (N := s2.heap.objs.size) (fp1 := [a]) (fp2 := [b]) (by simpa using la) (by simpa using lb)
  have I3 : L2.Inv X pins σ H2 { heap := h', gens := s2.gens, drawn := s2.drawn, toks := s2.toks, os := s2.os } := I2.kept kp
  refine ⟨_, _, _, _, H2, rfl, I3, turn_zip2 (k := k) (l := l) sep (Nat.ne_of_lt la) (Nat.ne_of_lt (Nat.lt_succ_of_lt lb)), ⟨hz, hti, ⟨_, _, hto⟩, z1 _ _ e1, z2 _ _ e2⟩, fun q hq => ?_, r⟩
  have hq2 : s2.heap.objs.size ≤ q := by
    simp only [List.mem_cons, List.mem_nil_iff, or_false] at hq
    rcases hq with h | h | h | h | h <;> (rw [h]; simp)
  exact I2.fpOk hq2 (I2.hok.fresh hq2)
theorem walk_zip2 {k l : Bool} {a b : Addr} {xs ys : List V} : Walk (Itz2 k l a b) xs.length (fun H => At2 k l a b H xs ys) (fun i H v H' => ∃ T x y, v = .ref T ∧ H T = none ∧ H' = upd H T (.tup [x, y]) ∧ xs[i]? = some x ∧ ys[i]? = some y) := by
  refine ⟨fun i H hi h => ⟨xs, ys, h, hi⟩, fun H h => ⟨xs, ys, h, rfl⟩, fun i H x H' hi h y => ?_⟩
  obtain ⟨T, x', y', e, h0, e2, q⟩ := y
  exact ⟨T, x', y', e, h0, e2, q xs ys h⟩
end
end Lk

/-! ## LcI -/
set_option Elab.async false
set_option linter.all false
set_option maxRecDepth 100000
set_option maxHeartbeats 2000000
/-! Comprehensions without a test, told by a function. -/
namespace Lk
open PySem PySem.Spec PyProof.Rows L2 Gx
variable [Own]
section
variable {K : PySem.W.Frag} {a : Addr} {xs : List V} {α β : Type} {R : Hp → V → α → Prop} {S : Hp → V → β → Prop} {bs : List α} {g : TG} {te : TE} {vs : List Nat} {σ : L2.St} {H1 : Hp} {D : Addr} {Qd : Hp → Prop}
/-- ints of a list's items -/
theorem lc_toIL (sr : Stays R) (f : α → Int) (hD : H1 D = none) (hx : H1 a = some (.lst xs)) (hp : Paired (R H1) xs bs) (few : xs.length ≤ sizeLine)
    (hs : ∀ x b H' (Ky : V → Hp → Prop), Ext H1 H' → b ∈ bs → R H' x b → (∀ H4, Ext H' H4 → Ky (.int (f b)) H4) → g x (wipe σ vs) H' fun σ2 H2 => wipe σ2 vs = wipe σ vs ∧ te σ2 H2 Ky)
    (hd : ∀ H', Ext H1 H' → H' D = some (.lst (iv (bs.map f))) → Qd H') :
    ∃ W : Nat → Nat → Hp → Prop, (∃ m, W 0 m (upd H1 D (.lst []))) ∧ ∀ i m H, W i m H →
      ((Itl K a).stop i H ∧ Qd H) ∨ ((Itl K a).go i H ∧ ∃ Nx : Hp → Prop, (∀ H', Nx H' → ∃ m', m' < m ∧ W (i + 1) m' H') ∧ ∀ x H', (Itl K a).yld i H x H' → g x (wipe σ vs) H' fun σ2 H2 => wipe σ2 vs = wipe σ vs ∧ tYes σ2 H2 fun b H3 =>
        if b = true then te σ2 H3 fun y H4 => ∃ acc, H4 D = some (.lst acc) ∧ acc.length < sizeLine ∧ Nx (upd H4 D (.lst (acc ++ [y]))) else Nx H3) := by
  refine lc_fmL sr stVI (fun b => some (f b)) hD hx hp few (fun x b H' Ky Kn e hb hr k1 _ => ?_) fun H' acc e hacc hp' => ?_
  · exact hs x b H' Ky e hb hr fun H4 e4 => k1 _ _ H4 rfl e4 rfl
  · have ea := pVI hp'
    subst ea
    rw [List.filterMap_eq_map'] at hacc
    exact hd H' e hacc
/-- .. of a range -/
theorem lc_toIR {lo : Int} {n : Nat} (f : Int → Int) (hD : H1 D = none) (few : n ≤ sizeLine)
    (hs : ∀ b H' (Ky : V → Hp → Prop), Ext H1 H' → lo ≤ b → b < lo + n → (∀ H4, Ext H' H4 → Ky (.int (f b)) H4) → g (.int b) (wipe σ vs) H' fun σ2 H2 => wipe σ2 vs = wipe σ vs ∧ te σ2 H2 Ky)
    (hd : ∀ H', Ext H1 H' → H' D = some (.lst (iv ((nums lo (lo + n)).map f))) → Qd H') :
    ∃ W : Nat → Nat → Hp → Prop, (∃ m, W 0 m (upd H1 D (.lst []))) ∧ ∀ i m H, W i m H →
      ((Itr lo n).stop i H ∧ Qd H) ∨ ((Itr lo n).go i H ∧ ∃ Nx : Hp → Prop, (∀ H', Nx H' → ∃ m', m' < m ∧ W (i + 1) m' H') ∧ ∀ x H', (Itr lo n).yld i H x H' → g x (wipe σ vs) H' fun σ2 H2 => wipe σ2 vs = wipe σ vs ∧ tYes σ2 H2 fun b H3 =>
        if b = true then te σ2 H3 fun y H4 => ∃ acc, H4 D = some (.lst acc) ∧ acc.length < sizeLine ∧ Nx (upd H4 D (.lst (acc ++ [y]))) else Nx H3) := by
  refine lc_fmR stVI (fun b => some (f b)) hD few (fun b H' Ky Kn e h0 h1 k1 _ => ?_) fun H' acc e hacc hp' => ?_
  · exact hs b H' Ky e h0 h1 fun H4 e4 => k1 _ _ H4 rfl e4 rfl
  · have ea := pVI hp'
    subst ea
    rw [List.filterMap_eq_map'] at hacc
    exact hd H' e hacc
end
section
variable {K : PySem.W.Frag} {a : Addr} {xs : List V} {rows : List (List Int)} {gf : List Int → V} {g : TG} {tk tv : TE} {vs : List Nat} {σ : L2.St} {H1 : Hp} {D : Addr} {Qd : Hp → Prop}
/-- {row: .. for row in rows} over a list of rows, none of them twice -/
theorem dct_rows (nd : rows.Nodup) (hD : H1 D = none) (hx : H1 a = some (.lst xs)) (hp : Paired (TI H1) xs rows) (few : xs.length ≤ sizeLine)
    (hs : ∀ x b H' (Ky : V → V → Hp → Prop), Ext H1 H' → b ∈ rows → TI H' x b → (∀ y H4, Ext H' H4 → TI H4 y b → Ky y (gf b) H4) → g x (wipe σ vs) H' fun σ2 H2 => wipe σ2 vs = wipe σ vs ∧ tk σ2 H2 fun y H3 => tv σ2 H3 fun z H4 => Ky y z H4)
    (hd : ∀ H', Ext H1 H' → H' D = some (.dT (kvF rows gf)) → Qd H') :
    ∃ W : Nat → Nat → Hp → Prop, (∃ m, W 0 m (upd H1 D (.dT []))) ∧ ∀ i m H, W i m H →
      (Itl K a).stop i H ∧ Qd H ∨ (Itl K a).go i H ∧ ∃ N : Hp → Prop, (∀ H', N H' → ∃ m', m' < m ∧ W (i + 1) m' H') ∧ ∀ x H', (Itl K a).yld i H x H' → g x (wipe σ vs) H' fun τ H2 => wipe τ vs = wipe σ vs ∧ tYes τ H2 fun b H3 =>
        if b = true then tk τ H3 fun y H4 => tv τ H4 fun z H5 => ∃ b kvs k, y = .ref b ∧ H5 b = some (.tup (k.map kV)) ∧ H5 D = some (.dT kvs) ∧ kvs.length < sizeLine ∧ N (upd H5 D (.dT (putK kvs k z))) else N H3 := by
  refine dct_walk (walk_list (K := K) (a := a) (xs := xs)) (fun i H' => H' D = some (.dT (kvF (rows.take i) gf)) ∧ Ext H1 H') ⟨upd_same, Ext.new hD _⟩ (fun i H' _ ⟨_, e⟩ => SqL.of (e.lst hx)) (fun i x H' H2 hi ⟨h1, e⟩ y => ?_) fun H' ⟨h1, e⟩ => ?_
  · obtain ⟨rfl, hx2⟩ := y
    obtain ⟨b, hb, hr⟩ := paired_get' hp hx2
    have hst := hs x b _ (fun y z H4 => ∃ bb kvs k, y = .ref bb ∧ H4 bb = some (.tup (k.map kV)) ∧ H4 D = some (.dT kvs) ∧ kvs.length < sizeLine ∧ ((upd H4 D (.dT (putK kvs k z))) D = some (.dT (kvF (rows.take (i + 1)) gf)) ∧ Ext H1 (upd H4 D (.dT (putK kvs k z))))) e (List.mem_of_getElem? hb) (hr.ext e) fun y H4 e4 hy => ?_
    · exact hst
    · obtain ⟨bb, rfl, hbb⟩ := hy
      have hd4 := e4.keep _ _ h1 rfl
      refine ⟨bb, _, kR b, rfl, by rw [kR_kV]; exact hbb, hd4, ?_, ?_, (e.trans e4).put hD _⟩
      · rw [kvF_len, List.length_take]
        have := paired_len hp
        omega
      · rw [upd_same, kvF_snoc (nodup_at nd hb), take_snoc hb]
  · have := paired_len hp
    rw [this, List.take_length] at h1
    exact hd H' e h1
end
end Lk
namespace Lk
open PySem PySem.Spec PyProof.Rows L2 Gx
variable [Own]
theorem At2.ext {k l : Bool} {a b : Addr} {H H' : Hp} {xs ys : List V} (e : Ext H H') (h : At2 k l a b H xs ys) : At2 k l a b H' xs ys := ⟨⟨h.1.1.ext e, h.1.2.ext e⟩, h.2⟩
theorem zip_take {α β : Type} : ∀ {xs : List α} {ys : List β} {i : Nat} {x : α} {y : β}, xs[i]? = some x → ys[i]? = some y → (xs.zip ys)[i]? = some (x, y)
  | x :: xs, y :: ys, 0, _, _, h1, h2 => by
    cases h1
    cases h2
    rfl
  | x :: xs, y :: ys, i + 1, _, _, h1, h2 => by
    show (xs.zip ys)[i]? = _
    exact zip_take (by simpa using h1) (by simpa using h2)
  | [], _, _, _, _, h1, _ => by simp at h1
  | _ :: _, [], _, _, _, _, h2 => by simp at h2
/-- ints by a function of two rows' ints -/
theorem lc_toIZ {k l : Bool} {a b : Addr} {xs ys : List Int} {g : TG} {te : TE} {vs : List Nat} {σ : L2.St} {H1 : Hp} {D : Addr} {Qd : Hp → Prop} (f : Int → Int → Int) (hD : H1 D = none) (h : At2 k l a b H1 (iv xs) (iv ys)) (few : xs.length ≤ 1000000)
    (hs : ∀ (T : Addr) (i : Nat) (x y : Int) (H' : Hp) (Ky : V → Hp → Prop), Ext H1 H' → xs[i]? = some x → ys[i]? = some y → H' T = some (.tup [.int x, .int y]) → (∀ H4, Ext H' H4 → Ky (.int (f x y)) H4) → g (.ref T) (wipe σ vs) H' fun σ2 H2 => wipe σ2 vs = wipe σ vs ∧ te σ2 H2 Ky)
    (hd : ∀ H', Ext H1 H' → H' D = some (.lst (iv ((xs.zip ys).map fun p => f p.1 p.2))) → Qd H') :
    ∃ W : Nat → Nat → Hp → Prop, (∃ m, W 0 m (upd H1 D (.lst []))) ∧ ∀ i m H, W i m H →
      ((Itz2 k l a b).stop i H ∧ Qd H) ∨ ((Itz2 k l a b).go i H ∧ ∃ Nx : Hp → Prop, (∀ H', Nx H' → ∃ m', m' < m ∧ W (i + 1) m' H') ∧ ∀ x H', (Itz2 k l a b).yld i H x H' → g x (wipe σ vs) H' fun σ2 H2 => wipe σ2 vs = wipe σ vs ∧ tYes σ2 H2 fun b H3 =>
        if b = true then te σ2 H3 fun y H4 => ∃ acc, H4 D = some (.lst acc) ∧ acc.length < sizeLine ∧ Nx (upd H4 D (.lst (acc ++ [y]))) else Nx H3) := by
  have hl : ys.length = xs.length := by
    have := h.2
    rw [iv_len, iv_len] at this
    exact this
  refine lc_walk (walk_zip2 (k := k) (l := l) (a := a) (b := b) (xs := iv xs) (ys := iv ys)) (fun i H' => H' D = some (.lst (iv (((xs.zip ys).take i).map fun p => f p.1 p.2))) ∧ Ext H1 H') ⟨by rw [upd_same]; rfl, Ext.new hD _⟩ (fun i H' _ ⟨_, e⟩ => h.ext e) (fun i x H' H2 hi ⟨h1, e⟩ y => ?_) fun H' ⟨h1, e⟩ => ?_
  · obtain ⟨T, x1, y1, rfl, hT, rfl, hx1, hy1⟩ := y
    obtain ⟨n, hn, rfl⟩ := iv_get hx1
    obtain ⟨m, hm, rfl⟩ := iv_get hy1
    have eT := Ext.new hT (.tup [V.int n, V.int m])
    have st := hs T i n m _ (fun y H4 => ∃ acc, H4 D = some (.lst acc) ∧ acc.length < sizeLine ∧ ((upd H4 D (.lst (acc ++ [y]))) D = some (.lst (iv (((xs.zip ys).take (i + 1)).map fun p => f p.1 p.2))) ∧ Ext H1 (upd H4 D (.lst (acc ++ [y]))))) (e.trans eT) hn hm upd_same fun H4 e4 => ?_
    · exact st
    · have h4 := (eT.trans e4).lst h1
      refine ⟨_, h4, ?_, ?_, ((e.trans eT).trans e4).put hD _⟩
      · rw [iv_len, List.length_map, List.length_take]
        have : i < (iv xs).length := hi
        rw [iv_len] at this
        exact Nat.lt_of_le_of_lt (Nat.min_le_left _ _) (Nat.lt_of_lt_of_le (show i < 1000000 by omega) (by decide))
      · rw [upd_same, take_snoc (zip_take hn hm), List.map_append]
        unfold iv
        rw [List.map_append]
        rfl
  · rw [List.take_of_length_le (by rw [List.length_zip, iv_len]; omega)] at h1
    exact hd H' e h1
end Lk

/-! ## D23 -/
set_option Elab.async false
set_option linter.all false
set_option maxRecDepth 100000
set_option maxHeartbeats 2000000
namespace Lk
open PySem PySem.Spec PyProof.Rows L2 Gx
open GxR (TabG Tabbed TabB)
variable [Own]
abbrev s__law_pick : Stmt := top 43
theorem sc__law_pick : FnScope ["row", "things"] ["row", "things"] (defScope s__law_pick) := ⟨rfl, rfl, rfl, by decide +kernel, rfl, by decide +kernel, by decide +kernel⟩
def spLawPick (K : PySem.W.Frag) : Sp := fun vs H Q _ => ∃ (r sc a : Addr) (ns : List Int) (xs : List V), vs = [.ref r, .ref a] ∧ Rw K H r sc ns ∧ H a = some (.lst xs) ∧ a ≠ r ∧ (0 < xs.length ∧ xs.length < 1000000) ∧
  ∀ H' v (j : Nat), ExtB r H H' → Rw K H' r sc ns → (∀ a, a ≠ r → H' a = H a) → xs[j]? = some v → Q v H'
section
variable {P : Program} {w : World} {K : PySem.W.Frag} {mg : Str → Option Value} {base : Heap} {Ps : List Addr}
theorem ok_law_pick {f : Addr} {fd : FuncData} (F : Fun K "_law_pick" "_law_pick" s__law_pick f fd) (B : Blt mg) (c__law_taken : Cal P w K mg base CX0 1 "_law_taken" ["row", "many"] (spTaken K)) : FnOk P w K mg base CX0 2 f fd ["row", "things"] (spLawPick K) := by
  refine F.ok sc__law_pick (fun vs H Q E h => ?_) (fun cdv A outer s0 H vs Q E hr h => ?_)
  · obtain ⟨r, sc, a, ns, xs, rfl, _⟩ := h
    rfl
  · obtain ⟨r, sc, a, ns, xs, rfl, hR, ha, har, hl, k⟩ := h
    refine ⟨_, (pss_one (ps_ret (pe_ix ix_lT (pv 1) (pe_c0 c__law_taken (hr.mono (by decide)) (by rfl) (pa_cons (pv 0) (pa_cons (pe_callB call_lenT (by rfl) B.len PySem.boot_len (pa_cons (pv 1) pa_nil)) pa_nil))) (fun _ _ => rfl)))), ?_⟩
    have hm : (0 : Int) < (xs.length : Int) ∧ (xs.length : Int) < 1000000 := ⟨by omega, by omega⟩
    refine ⟨_, rfl, _, rfl, _, rfl, a, xs, rfl, .inl ha, r, sc, ns, _, rfl, hR, hm, fun H1 i e1 hR1 same hi => ?_⟩
    have hlt : i.toNat < xs.length := by omega
    have hx : xs[i.toNat]? = some xs[i.toNat] := List.getElem?_eq_getElem hlt
    exact ⟨a, xs, _, _, rfl, rfl, e1.lst har ha, at_of (j := i.toNat) (by omega) hx, k H1 _ _ e1 hR1 same hx⟩
end
end Lk


/-! ## D22 -/
set_option Elab.async false
set_option linter.all false
set_option maxRecDepth 100000
set_option maxHeartbeats 2000000
namespace Lk
open PySem PySem.Spec PyProof.Rows L2 Gx
open GxR (TabG Tabbed TabB)
variable [Own]
abbrev spLawSeen : Sp := spLooksOf
section
variable {P : Program} {w : World} {K : PySem.W.Frag} {mg : Str → Option Value} {base : Heap} {Ps : List Addr}
end
end Lk


/-! ## D21 -/
set_option Elab.async false
set_option linter.all false
set_option maxRecDepth 100000
set_option maxHeartbeats 2000000
namespace Lk
open PySem PySem.Spec PyProof.Rows L2 Gx
open GxR (TabG Tabbed TabB)
variable [Own]
def spLawMoods : Sp := fun vs H Q _ => ∃ (a : Addr) (k : Bool) (tops : List Int), vs = [.ref a] ∧ SqB k H a (iv tops) ∧ tops.length ≤ 6 ∧ (∀ t ∈ tops, 0 ≤ t ∧ t ≤ 3) ∧ ∀ H' p, Ext H H' → H p = none → LT2 H' (.ref p) (rowsOf tops) → Q (.ref p) H'
section
variable {P : Program} {w : World} {K : PySem.W.Frag} {mg : Str → Option Value} {base : Heap} {Ps : List Addr}
end
end Lk


/-! ## D08 -/
set_option Elab.async false
set_option linter.all false
set_option maxRecDepth 100000
set_option maxHeartbeats 2000000
namespace Lk
open PySem PySem.Spec PyProof.Rows L2 Gx
open GxR (TabG Tabbed TabB)
variable [Own]
/-- the places ahead of which a neighbour stands, n of them in all -/
def placesOf (n s z : Nat) : List Nat := (List.range n).filter fun p => decide (p / s % z < z - 1)
def goesAlong (tb : List Int) (s z : Nat) (sg : Int) : Bool := (placesOf tb.length s z).all fun p => decide (0 ≤ (tb.getD (p + s) 0 - tb.getD p 0) * sg)
def spGoesAlong (Ps : List Addr) : Sp := fun vs H Q _ => ∃ (v : V) (tb : List Int) (s z : Nat) (sg : Int), vs = [v, .int s, .int z, .int sg] ∧ TI H v tb ∧ (0 < s ∧ s < 1000000) ∧ (0 < z ∧ z < 1000000) ∧ (sg = 1 ∨ sg = -1) ∧ tb.length ≤ 1000000 ∧ (∀ p ∈ placesOf tb.length s z, p + s < tb.length) ∧ Tabs Ps H ∧ ∀ H', Ext H H' → Q (.bl (goesAlong tb s z sg)) H'
section
variable {P : Program} {w : World} {K : PySem.W.Frag} {mg : Str → Option Value} {base : Heap} {Ps : List Addr}
theorem getD_get {l : List Int} {i : Nat} (h : i < l.length) : l[i]? = some (l.getD i 0) := by rw [List.getD_eq_getElem?_getD, List.getElem?_eq_getElem h]; rfl
theorem filter_take {α : Type} {f : α → Bool} {l : List α} {i : Nat} {x : α} (h : l[i]? = some x) : (l.take (i + 1)).filter f = (l.take i).filter f ++ (if f x = true then [x] else []) := by
  rw [List.take_add_one, h, List.filter_append]
  show _ ++ List.filter f [x] = _
  rw [List.filter_cons]
  by_cases hf : f x = true <;> simp [hf]
end
end Lk


/-! ## D09 -/
set_option Elab.async false
set_option linter.all false
set_option maxRecDepth 100000
set_option maxHeartbeats 2000000
namespace Lk
open PySem PySem.Spec PyProof.Rows L2 Gx
open GxR (TabG Tabbed TabB)
variable [Own]
/-- the looks from the last: s, how far apart neighbours lie -/
def goLoop (W : Web) (tb : List Int) : List (Int × Int) → Nat → Bool
  | [], _ => true
  | l :: r, s => goesAlong tb s (topAt W l.1 + 1).toNat l.2 && goLoop W tb r (s * (topAt W l.1 + 1).toNat)
def isTable (W : Web) (f : Int) (tb : List Int) : Bool := decide ((tb.length : Int) = manyRows W f) && tb.all (fun m => isWhole m 0 (topAt W f)) && goLoop W tb (looksOf W f).reverse 1
def spIsTable (Ps : List Addr) : Sp := fun vs H Q _ => ∃ (v t : V) (W : Web) (f : Int) (tb : List Int), vs = [v, .int f, t] ∧ WebAt H v W ∧ W.Ok ∧ (0 ≤ f ∧ f < W.tops.length) ∧ TI H t tb ∧ tb.length ≤ 1000000 ∧ Tabs Ps H ∧ ∀ H', Ext H H' → Q (.bl (isTable W f tb)) H'
/-- the product of the sizes of looks -/
def prodOf (W : Web) (ls : List (Int × Int)) : Nat := ls.foldl (fun m l => m * (topAt W l.1 + 1).toNat) 1
theorem prod_mul (W : Web) : ∀ (ls : List (Int × Int)) (a : Nat), ls.foldl (fun m l => m * (topAt W l.1 + 1).toNat) a = a * prodOf W ls
  | [], a => by simp [prodOf]
  | l :: ls, a => by
    unfold prodOf
    rw [List.foldl_cons, List.foldl_cons, prod_mul W ls, prod_mul W ls (1 * _), Nat.one_mul, Nat.mul_assoc]
theorem prod_cons (W : Web) (l : Int × Int) (ls : List (Int × Int)) : prodOf W (l :: ls) = (topAt W l.1 + 1).toNat * prodOf W ls := by
  show List.foldl _ _ _ = _
  rw [List.foldl_cons, Nat.one_mul, prod_mul]
theorem prod_snoc (W : Web) (l : Int × Int) (ls : List (Int × Int)) : prodOf W (ls ++ [l]) = prodOf W ls * (topAt W l.1 + 1).toNat := by
  unfold prodOf
  rw [List.foldl_append]
  rfl
theorem prod_rev (W : Web) : ∀ ls : List (Int × Int), prodOf W ls.reverse = prodOf W ls
  | [] => rfl
  | l :: ls => by rw [List.reverse_cons, prod_snoc, prod_rev W ls, prod_cons, Nat.mul_comm]
theorem many_prod {W : Web} (ok : W.Ok) : ∀ (ls : List (Int × Int)) (a : Nat), (∀ l ∈ ls, 0 ≤ l.1 ∧ l.1 < W.tops.length) → ls.foldl (manyStep W) (a : Int) = ((a * prodOf W ls : Nat) : Int)
  | [], a, _ => by simp [prodOf]
  | l :: ls, a, h => by
    have hh := h l (List.mem_cons_self ..)
    have ht := topAt_ok ok hh.1 hh.2
    rw [List.foldl_cons]
    have e : manyStep W (a : Int) l = ((a * (topAt W l.1 + 1).toNat : Nat) : Int) := by
      unfold manyStep
      rw [Int.natCast_mul]
      congr 1
      omega
    rw [e, many_prod ok ls _ (fun x hx => h x (List.mem_cons_of_mem _ hx)), prod_cons, Nat.mul_assoc]
theorem many_eq {W : Web} (ok : W.Ok) (f : Int) : manyRows W f = ((prodOf W (looksOf W f) : Nat) : Int) := by
  have := many_prod ok (looksOf W f) 1 fun l hl => (looksOf_ok ok l hl).1
  rw [Nat.one_mul] at this
  exact this
theorem prod_pos {W : Web} (ok : W.Ok) : ∀ ls : List (Int × Int), (∀ l ∈ ls, 0 ≤ l.1 ∧ l.1 < W.tops.length) → 0 < prodOf W ls
  | [], _ => by simp [prodOf]
  | l :: ls, h => by
    have hh := h l (List.mem_cons_self ..)
    have ht := topAt_ok ok hh.1 hh.2
    rw [prod_cons]
    exact Nat.mul_pos (by omega) (prod_pos ok ls fun x hx => h x (List.mem_cons_of_mem _ hx))
/-- where a neighbour stands: within the table -/
theorem places_in {n s z r : Nat} (hs : 0 < s) (hz : 0 < z) (hn : n = s * z * r) : ∀ p ∈ placesOf n s z, p + s < n := by
  intro p hp
  unfold placesOf at hp
  obtain ⟨h1, h2⟩ := List.mem_filter.mp hp
  have h1 := List.mem_range.mp h1
  have h2 : p / s % z < z - 1 := of_decide_eq_true h2
  -- p = s * (z * b + d) + c
  have e1 : p = s * (p / s) + p % s := (Nat.div_add_mod p s).symm
  have e2 : p / s = z * (p / s / z) + p / s % z := (Nat.div_add_mod _ z).symm
  have c1 : p % s < s := Nat.mod_lt _ hs
  have b1 : p / s / z < r := by
    rw [Nat.div_div_eq_div_mul]
    exact Nat.div_lt_of_lt_mul (by rw [← hn]; exact h1)
  generalize p / s / z = b at e2 b1
  generalize p / s % z = d at e2 h2
  generalize p % s = c at e1 c1
  rw [e2] at e1
  rw [hn, e1]
  have h3 : z * b + d + 1 < z * (b + 1) := by rw [Nat.mul_add, Nat.mul_one]; omega
  have h4 : z * (b + 1) ≤ z * r := Nat.mul_le_mul_left _ b1
  have h5 : s * (z * b + d + 1 + 1) ≤ s * (z * r) := Nat.mul_le_mul_left _ (by omega)
  rw [← Nat.mul_assoc s z r] at h5
  rw [Nat.mul_add, Nat.mul_add, Nat.mul_one] at h5
  omega
section
variable {P : Program} {w : World} {K : PySem.W.Frag} {mg : Str → Option Value} {base : Heap} {Ps : List Addr}
theorem rev_paired {α β : Type} {R : α → β → Prop} : ∀ {l : List α} {m : List β}, Paired R l m → Paired R l.reverse m.reverse
  | _, _, .nil => .nil
  | _, _, .cons r t => by rw [List.reverse_cons, List.reverse_cons]; exact paired_snoc r (rev_paired t)
theorem goLoop_false {W : Web} {tb : List Int} : ∀ {ls : List (Int × Int)} {i : Nat} {l : Int × Int} {s : Nat}, ls[i]? = some l → goesAlong tb (s * prodOf W (ls.take i)) (topAt W l.1 + 1).toNat l.2 = false → goLoop W tb ls s = false
  | [], _, _, _, h, _ => by simp at h
  | k :: ls, 0, l, s, h, hg => by
    obtain rfl : k = l := by simpa using h
    unfold goLoop
    have : s * prodOf W (List.take 0 (k :: ls)) = s := by simp [prodOf]
    rw [this] at hg
    rw [hg, Bool.false_and]
  | k :: ls, i + 1, l, s, h, hg => by
    unfold goLoop
    rw [goLoop_false (ls := ls) (i := i) (l := l) (by simpa using h), Bool.and_false]
    rw [List.take_succ_cons, prod_cons, ← Nat.mul_assoc] at hg
    exact hg
theorem goLoop_true {W : Web} {tb : List Int} : ∀ {ls : List (Int × Int)} {s : Nat}, (∀ i l, ls[i]? = some l → goesAlong tb (s * prodOf W (ls.take i)) (topAt W l.1 + 1).toNat l.2 = true) → goLoop W tb ls s = true
  | [], _, _ => rfl
  | k :: ls, s, h => by
    unfold goLoop
    have h0 := h 0 k rfl
    have : s * prodOf W (List.take 0 (k :: ls)) = s := by simp [prodOf]
    rw [this] at h0
    rw [h0, Bool.true_and]
    refine goLoop_true fun i l hl => ?_
    have h1 := h (i + 1) l (by simpa using hl)
    rw [List.take_succ_cons, prod_cons, ← Nat.mul_assoc] at h1
    exact h1
theorem looks_len {W : Web} (ok : W.Ok) (f : Int) : (looksOf W f).length ≤ 4 := by
  have h := ok.four f
  rw [List.filter_map, List.length_map] at h
  unfold looksOf
  rw [List.length_map]
  exact h
/-- for each look, the last one ahead: how far apart, how many, the sign -/
def wayRow (W : Web) (ls : List (Int × Int)) (i : Nat) : List Int := [((prodOf W (ls.take i) : Nat) : Int), topAt W (ls.getD i (0, 0)).1 + 1, (ls.getD i (0, 0)).2]
def waysOf (W : Web) (f : Int) : List (List Int) := (List.range (looksOf W f).length).map (wayRow W (looksOf W f).reverse)
def spWaysOf : Sp := fun vs H Q _ => ∃ (v : V) (W : Web) (f : Int), vs = [v, .int f] ∧ WebAt H v W ∧ W.Ok ∧ ∀ H' p us, Ext H H' → H p = none → H' p = some (.lst us) → Paired (TI H') us (waysOf W f) → Q (.ref p) H'
end
end Lk


/-! ## RwB -/
set_option Elab.async false
set_option linter.all false
set_option maxRecDepth 100000
set_option maxHeartbeats 2000000
/-! Heaps that have grown beside the row of draws. -/
namespace Lk
open PySem PySem.Spec PyProof.Rows L2 Gx
variable [Own]
theorem ExtB.put {r : Addr} {H0 H : Hp} {p : Addr} (e : ExtB r H0 H) (h : H0 p = none) (o : HO) : ExtB r H0 (L2.upd H p o) := ⟨fun a u n q t => by rw [upd_ne (ne_of_none q h)]; exact e.keep a u n q t, fun P ⟨ps, q, t⟩ => by
  obtain ⟨qs, q', t'⟩ := e.tab P ⟨ps, q, t⟩
  exact ⟨qs, by rw [upd_ne (ne_of_none q h)]; exact q', t'⟩, fun a u q => by
  obtain ⟨o', h'⟩ := e.tb a u q
  exact ⟨o', by rw [upd_ne (ne_of_none q h)]; exact h'⟩, fun P ps o q => by rw [upd_ne (ne_of_none q h)]; exact e.own P ps o q⟩
section
variable {K : PySem.W.Frag} {r sc : Addr} {ns : List Int} {H H' : Hp}
theorem Rw.tup (h : Rw K H r sc ns) (e : ExtB r H H') {a : Addr} {xs : List V} (q : H a = some (.tup xs)) : H' a = some (.tup xs) := by
  obtain ⟨_, h⟩ := h.lst
  exact e.tup h q
theorem Rw.TI (h : Rw K H r sc ns) (e : ExtB r H H') {v : V} {ns : List Int} (q : TI H v ns) : TI H' v ns := by
  obtain ⟨_, h⟩ := h.lst
  exact q.extB e h
theorem Rw.pTI (h : Rw K H r sc ns) (e : ExtB r H H') {vs : List V} {rows : List (List Int)} (q : Paired (Lk.TI H) vs rows) : Paired (Lk.TI H') vs rows := by
  obtain ⟨_, h⟩ := h.lst
  exact pTI.extB e h q
theorem Rw.web (h : Rw K H r sc ns) (e : ExtB r H H') {v : V} {W : Web} (q : WebAt H v W) : WebAt H' v W := by
  obtain ⟨_, h⟩ := h.lst
  exact q.extB e h
theorem Rw.ne_none (h : Rw K H r sc ns) {D : Addr} (q : H D = none) : D ≠ r := by
  obtain ⟨_, h⟩ := h.lst
  exact (ne_of_none h q).symm
theorem Rw.new (h : Rw K H r sc ns) {D : Addr} (q : H D = none) (o : HO) : Rw K (upd H D o) r sc ns := h.ext (Ext.new q o)
theorem Rw.put {H0 : Hp} (h : Rw K H r sc ns) (h0 : Rw K H0 r sc ns) {D : Addr} (q : H0 D = none) (o : HO) : Rw K (upd H D o) r sc ns := by
  obtain ⟨d, h⟩ := h
  obtain ⟨d0, h0⟩ := h0
  exact ⟨d, by rw [upd_ne (ne_of_none h0.row q)]; exact h.row, h.scr.put h0.scr q o, h.len, h.ok⟩
/-- a list that the draws leave -/
theorem same_at {D : Addr} (same : ∀ a, a ≠ r → H' a = H a) (n : D ≠ r) {o : Option HO} (h : H D = o) : H' D = o := by rw [same D n]; exact h
end
end Lk

/-! ## D10 -/
set_option Elab.async false
set_option linter.all false
set_option maxRecDepth 100000
set_option maxHeartbeats 2000000
namespace Lk
open PySem PySem.Spec PyProof.Rows L2 Gx
open GxR (TabG Tabbed TabB)
variable [Own]
/-- the state told in a state -/
def stateTold (W : Web) (ru : List (List Int)) (st : List Int) : List Int := (List.range st.length).map fun f : Nat => moodTold W ru st (f : Int)
def spStateTold : Sp := fun vs H Q _ => ∃ (v r z : V) (W : Web) (ru : List (List Int)) (st : List Int), vs = [v, r, z] ∧ WebAt H v W ∧ W.Ok ∧ TT2 H r ru ∧ RuOk W ru ∧ TI H z st ∧ StOk W st ∧ ∀ H' u, Ext H H' → H u = none → H' u = some (.tup (iv (stateTold W ru st))) → Q (.ref u) H'
section
variable {P : Program} {w : World} {K : PySem.W.Frag} {mg : Str → Option Value} {base : Heap} {Ps : List Addr}
/-- all settled states -/
def settledStates (W : Web) (ru : List (List Int)) : List (List Int) := (rowsOf W.tops).filter fun st => decide (stateTold W ru st = st)
theorem rows_mem {tops : List Int} {st : List Int} : st ∈ rowsOf tops → st.length = tops.length ∧ ∀ i, i < tops.length → 0 ≤ st.getD i 0 ∧ st.getD i 0 ≤ tops.getD i 0 := by
  have key : ∀ (ts : List Int) (rows : List (List Int)) (pre : List Int), (∀ r ∈ rows, r.length = pre.length ∧ ∀ i, i < pre.length → 0 ≤ r.getD i 0 ∧ r.getD i 0 ≤ pre.getD i 0) → ∀ r ∈ ts.foldl rowsStep rows, r.length = (pre ++ ts).length ∧ ∀ i, i < (pre ++ ts).length → 0 ≤ r.getD i 0 ∧ r.getD i 0 ≤ (pre ++ ts).getD i 0 := by
    intro ts
    induction ts with
    | nil => intro rows pre h r hr; rw [List.append_nil]; exact h r hr
    | cons t ts ih =>
      intro rows pre h r hr
      rw [List.foldl_cons] at hr
      have := ih (rowsStep rows t) (pre ++ [t]) (fun q hq => ?_) r hr
      · rw [List.append_assoc] at this
        exact this
      · unfold rowsStep at hq
        obtain ⟨z, hz, hq⟩ := List.mem_flatMap.mp hq
        obtain ⟨m, hm, rfl⟩ := List.mem_map.mp hq
        obtain ⟨h1, h2⟩ := h z hz
        unfold moods at hm
        obtain ⟨j, hj, rfl⟩ := List.mem_map.mp hm
        have hj := List.mem_range.mp hj
        refine ⟨by rw [List.length_append, List.length_append, h1]; rfl, fun i hi => ?_⟩
        rw [List.length_append] at hi
        by_cases hip : i < pre.length
        · have e1 : (z ++ [(j : Int)]).getD i 0 = z.getD i 0 := by rw [List.getD_eq_getElem?_getD, List.getD_eq_getElem?_getD, List.getElem?_append_left (by omega)]
          have e2 : (pre ++ [t]).getD i 0 = pre.getD i 0 := by rw [List.getD_eq_getElem?_getD, List.getD_eq_getElem?_getD, List.getElem?_append_left hip]
          rw [e1, e2]
          exact h2 i hip
        · have ei : i = pre.length := by simp at hi; omega
          have e1 : (z ++ [(j : Int)]).getD i 0 = (j : Int) := by rw [List.getD_eq_getElem?_getD, List.getElem?_append_right (by omega), h1, ei, Nat.sub_self]; rfl
          have e2 : (pre ++ [t]).getD i 0 = t := by rw [List.getD_eq_getElem?_getD, List.getElem?_append_right (by omega), ei, Nat.sub_self]; rfl
          rw [e1, e2]
          omega
  intro h
  have := key tops [[]] [] (fun r hr => by rw [List.mem_singleton.mp hr]; exact ⟨rfl, fun i hi => absurd hi (Nat.not_lt_zero _)⟩) st h
  exact this
theorem rows_st {W : Web} {st : List Int} (h : st ∈ rowsOf W.tops) : StOk W st := by
  obtain ⟨h1, h2⟩ := rows_mem h
  exact ⟨h1, fun i h0 hi => h2 i.toNat (by omega)⟩
def spSettledStates : Sp := fun vs H Q _ => ∃ (v r : V) (W : Web) (ru : List (List Int)), vs = [v, r] ∧ WebAt H v W ∧ W.Ok ∧ TT2 H r ru ∧ RuOk W ru ∧ ∀ H' u, Ext H H' → TT2 H' (.ref u) (settledStates W ru) → Q (.ref u) H'
end
end Lk


/-! ## D26 -/
set_option Elab.async false
set_option linter.all false
set_option maxRecDepth 100000
set_option maxHeartbeats 2000000
namespace Lk
open PySem PySem.Spec PyProof.Rows L2 Gx
open GxR (TabG Tabbed TabB)
variable [Own]
/-- the law's rows, signs -/
def rowsAt (W : Web) (f : Int) : List (List Int) := rowsOf ((looksOf W f).map fun l => topAt W l.1)
def signsAt (W : Web) (f : Int) : List Int := (looksOf W f).map fun l => l.2
/-- marks at which a table rises: a row and a mood -/
abbrev Mark := List Int × Int
def maxOf (l : List Int) : Int := l.foldl (fun a b => if a < b then b else a) 0
def tableOf (signs : List Int) (rows : List (List Int)) (mks : List Mark) : List Int := rows.map fun one => maxOf ((mks.filter fun mk => lawGoes signs mk.1 one).map (·.2))
/-- a mark as a value -/
def MkAt (H : Hp) (v : V) (mk : Mark) : Prop := ∃ t z, v = .ref t ∧ H t = some (.tup [z, .int mk.2]) ∧ TI H z mk.1
def spLawTable (K : PySem.W.Frag) : Sp := fun vs H Q _ => ∃ (r sc : Addr) (ns : List Int) (v : V) (W : Web) (f : Int), vs = [.ref r, v, .int f] ∧ Rw K H r sc ns ∧ WebAt H v W ∧ W.Ok ∧ (0 ≤ f ∧ f < W.tops.length) ∧
  ∀ H' u mks, ExtB r H H' → Rw K H' r sc ns → H u = none → (∀ mk ∈ mks, mk.1 ∈ rowsAt W f ∧ 0 ≤ mk.2 ∧ mk.2 ≤ topAt W f) → H' u = some (.tup (iv (tableOf (signsAt W f) (rowsAt W f) mks))) → Q (.ref u) H'
theorem foldmax : ∀ (l : List Int) (a : Int), (l.foldl (fun a b => if a < b then b else a) a) ∈ a :: l ∧ ∀ y ∈ a :: l, y ≤ l.foldl (fun a b => if a < b then b else a) a
  | [], a => ⟨List.mem_cons_self .., fun y hy => by
    rcases List.mem_cons.mp hy with h | h
    · rw [h]; exact Int.le_refl _
    · cases h⟩
  | b :: l, a => by
    obtain ⟨h1, h2⟩ := foldmax l (if a < b then b else a)
    rw [List.foldl_cons]
    refine ⟨?_, fun y hy => ?_⟩
    · rcases List.mem_cons.mp h1 with h | h
      · rw [h]
        split <;> simp
      · exact List.mem_cons_of_mem _ (List.mem_cons_of_mem _ h)
    · have h3 := h2 _ (List.mem_cons_self ..)
      rcases List.mem_cons.mp hy with h | hy
      · rw [h]
        refine Int.le_trans ?_ h3
        split <;> omega
      · rcases List.mem_cons.mp hy with h | hy
        · rw [h]
          refine Int.le_trans ?_ h3
          split <;> omega
        · exact h2 y (List.mem_cons_of_mem _ hy)
theorem maxOf_eq {l : List Int} {m : Int} (h1 : m ∈ (0 : Int) :: l) (h2 : ∀ y ∈ (0 : Int) :: l, y ≤ m) : m = maxOf l := by
  obtain ⟨g1, g2⟩ := foldmax l 0
  exact Int.le_antisymm (g2 m h1) (h2 _ g1)
theorem row2_at {H : Hp} {vs : List V} {ls : List (Int × Int)} {i : Nat} {x : V} (p : Paired (TI H) vs (ls.map row2)) (h : vs[i]? = some x) : ∃ l q, ls[i]? = some l ∧ x = .ref q ∧ H q = some (.tup [.int l.1, .int l.2]) := by
  obtain ⟨row, hrow, q, e, hq⟩ := paired_get' p h
  rw [List.getElem?_map] at hrow
  cases e2 : ls[i]? with
  | none => rw [e2] at hrow; cases hrow
  | some l =>
    rw [e2] at hrow
    obtain rfl := Option.some.inj hrow
    exact ⟨l, q, rfl, e, hq⟩
theorem rows_pos {tops : List Int} (h : ∀ t ∈ tops, 0 ≤ t) : ∀ rows : List (List Int), 0 < rows.length → 0 < (tops.foldl rowsStep rows).length := by
  induction tops with
  | nil => intro rows q; exact q
  | cons t ts ih =>
    intro rows q
    rw [List.foldl_cons]
    refine ih (fun t ht => h t (List.mem_cons_of_mem _ ht)) _ ?_
    rw [rowsStep_len]
    have := h t (List.mem_cons_self ..)
    exact Nat.mul_pos q (by omega)
theorem topsAt_ok {W : Web} (ok : W.Ok) (f : Int) : ∀ t ∈ (looksOf W f).map (fun l => topAt W l.1), 1 ≤ t ∧ t ≤ 3 := by
  intro t ht
  obtain ⟨l, hl, rfl⟩ := List.mem_map.mp ht
  have := (looksOf_ok ok l hl).1
  exact topAt_ok ok this.1 this.2
theorem rowsAt_len {W : Web} (ok : W.Ok) (f : Int) : 0 < (rowsAt W f).length ∧ (rowsAt W f).length ≤ 256 := by
  have ht := topsAt_ok ok f
  refine ⟨rows_pos (fun t h => by have := ht t h; omega) _ (by decide), ?_⟩
  have h1 := rows_len4 (fun t h => (ht t h).2) [[]]
  have h2 : 4 ^ ((looksOf W f).map fun l => topAt W l.1).length ≤ 4 ^ 4 := Nat.pow_le_pow_right (by decide) (by rw [List.length_map]; exact looks_len ok f)
  simp only [List.length_singleton, Nat.one_mul] at h1
  exact Nat.le_trans h1 h2
theorem rowsAt_row {W : Web} {f : Int} {r : List Int} (h : r ∈ rowsAt W f) : r.length = (looksOf W f).length := by
  have h1 := rows_row (tops := (looksOf W f).map fun l => topAt W l.1) (rows := [[]]) (n := 0) (fun r hr => by rw [List.mem_singleton.mp hr]; rfl) r (show r ∈ List.foldl rowsStep [[]] ((looksOf W f).map fun l => topAt W l.1) from h)
  rw [h1, List.length_map, Nat.zero_add]
theorem rowsAt_bd {W : Web} (ok : W.Ok) {f : Int} {r : List Int} (h : r ∈ rowsAt W f) : ∀ x ∈ r, 0 ≤ x ∧ x ≤ 3 := by
  intro x hx
  obtain ⟨h1, h2⟩ := rows_mem (tops := (looksOf W f).map fun l => topAt W l.1) h
  obtain ⟨i, hi, rfl⟩ := List.getElem_of_mem hx
  have h3 := h2 i (by omega)
  have e1 : r.getD i 0 = r[i] := by rw [List.getD_eq_getElem?_getD, List.getElem?_eq_getElem hi]; rfl
  have e2 : ((looksOf W f).map fun l => topAt W l.1).getD i 0 = ((looksOf W f).map fun l => topAt W l.1)[i]'(by omega) := by rw [List.getD_eq_getElem?_getD, List.getElem?_eq_getElem (by omega)]; rfl
  have h4 := topsAt_ok ok f _ (List.getElem_mem (l := (looksOf W f).map fun l => topAt W l.1) (n := i) (by omega))
  omega
theorem MkAt.extB {r : Addr} {H H' : Hp} {rs : List V} (e : ExtB r H H') (hr : H r = some (.lst rs)) {v : V} {mk : Mark} (h : MkAt H v mk) : MkAt H' v mk := by
  obtain ⟨t, z, q, h1, h2⟩ := h
  exact ⟨t, z, q, e.tup hr h1, h2.extB e hr⟩
theorem MkAt.ext {H H' : Hp} (e : Ext H H') {v : V} {mk : Mark} (h : MkAt H v mk) : MkAt H' v mk := by
  obtain ⟨t, z, q, h1, h2⟩ := h
  exact ⟨t, z, q, e.tup h1, h2.ext e⟩
theorem MkAt.put {H : Hp} {D : Addr} {acc : List V} {o : HO} (hD : H D = some (.lst acc)) {v : V} {mk : Mark} (h : MkAt H v mk) : MkAt (upd H D o) v mk := by
  obtain ⟨t, z, q, h1, a, q2, h2⟩ := h
  exact ⟨t, z, q, by rw [upd_ne (ne_of hD h1 (by intro q; cases q)).symm]; exact h1, a, q2, by rw [upd_ne (ne_of hD h2 (by intro q; cases q)).symm]; exact h2⟩
theorem signs_ok {W : Web} (ok : W.Ok) {f : Int} : ∀ s ∈ signsAt W f, s = 1 ∨ s = -1 := by
  intro s hs
  obtain ⟨l, hl, rfl⟩ := List.mem_map.mp hs
  exact (looksOf_ok ok l hl).2
section
variable {P : Program} {w : World} {K : PySem.W.Frag} {mg : Str → Option Value} {base : Heap} {Ps : List Addr}
end
end Lk


/-! ## D12 -/
set_option Elab.async false
set_option linter.all false
set_option maxRecDepth 100000
set_option maxHeartbeats 2000000
namespace Lk
open PySem PySem.Spec PyProof.Rows L2 Gx
open GxR (TabG Tabbed TabB)
variable [Own]
/-- the first of the folk whose thing is no table of theirs -/
def firstBad (W : Web) (ru : List (List Int)) : Option Nat := (List.range W.tops.length).find? fun f : Nat => !isTable W (f : Int) (ru.getD f [])
/-- what may be rules: as many tuples of ints as there are folk -/
structure Ru0 (W : Web) (ru : List (List Int)) : Prop where
  len : ru.length = W.tops.length
  few : ∀ t ∈ ru, t.length ≤ 1000000
/-- refused, or passed -/
def spCheckRules (Ps : List Addr) (C : Addr) : Sp := fun vs H Q E => ∃ (v r : V) (W : Web) (ru : List (List Int)), vs = [v, r] ∧ WebAt H v W ∧ W.Ok ∧ TT2 H r ru ∧ Ru0 W ru ∧ Tabs Ps H ∧
  (firstBad W ru = none → ∀ H', Ext H H' → Q .non H') ∧ (∀ f, firstBad W ru = some f → ∀ H' d, Ext H H' → H d = none → H' d = some (.xd [("folk", .int (f : Nat))]) → E (.ref C) (some d) H')
theorem firstBad_none {W : Web} {ru : List (List Int)} (h : firstBad W ru = none) : ∀ f : Int, 0 ≤ f → f < W.tops.length → isTable W f (ru.getD f.toNat []) = true := by
  intro f h0 h1
  have := List.find?_eq_none.mp h f.toNat (List.mem_range.mpr (by omega))
  have e : ((f.toNat : Nat) : Int) = f := by omega
  rw [e] at this
  simpa using this
theorem rules_ok {W : Web} {ru : List (List Int)} (r0 : Ru0 W ru) (h : firstBad W ru = none) : RuOk W ru := by
  refine ⟨r0.len, fun f h0 h1 => ?_⟩
  have := firstBad_none h f h0 h1
  unfold isTable at this
  rw [Bool.and_eq_true, Bool.and_eq_true] at this
  exact of_decide_eq_true this.1.1
def spCheckStanding (Ps : List Addr) : Sp := fun vs H Q _ => ∃ (v r z : V) (W : Web) (ru : List (List Int)) (st : List Int), vs = [v, r, z] ∧ WebAt H v W ∧ W.Ok ∧ TT2 H r ru ∧ Ru0 W ru ∧ firstBad W ru = none ∧ TI H z st ∧ StOk W st ∧ Tabs Ps H ∧ ∀ H', Ext H H' → Q .non H'
def spTold (Ps : List Addr) : Sp := fun vs H Q _ => ∃ (v r z : V) (W : Web) (ru : List (List Int)) (st : List Int) (f : Int), vs = [v, r, z, .int f] ∧ WebAt H v W ∧ W.Ok ∧ TT2 H r ru ∧ Ru0 W ru ∧ firstBad W ru = none ∧ TI H z st ∧ StOk W st ∧ (0 ≤ f ∧ f < W.tops.length) ∧ Tabs Ps H ∧ ∀ H', Ext H H' → Q (.int (moodTold W ru st f)) H'
def spIsSettled (Ps : List Addr) : Sp := fun vs H Q _ => ∃ (v r z : V) (W : Web) (ru : List (List Int)) (st : List Int), vs = [v, r, z] ∧ WebAt H v W ∧ W.Ok ∧ TT2 H r ru ∧ Ru0 W ru ∧ firstBad W ru = none ∧ TI H z st ∧ StOk W st ∧ Tabs Ps H ∧ ∀ H', Ext H H' → Q (.bl (decide (stateTold W ru st = st))) H'
def spSettled (Ps : List Addr) (C : Addr) : Sp := fun vs H Q E => ∃ (v r : V) (W : Web) (ru : List (List Int)), vs = [v, r] ∧ WebAt H v W ∧ W.Ok ∧ TT2 H r ru ∧ Ru0 W ru ∧ Tabs Ps H ∧
  (firstBad W ru = none → ∀ H' u, Ext H H' → TT2 H' (.ref u) (settledStates W ru) → Q (.ref u) H') ∧ (∀ f, firstBad W ru = some f → ∀ H' d, Ext H H' → H d = none → H' d = some (.xd [("folk", .int (f : Nat))]) → E (.ref C) (some d) H')
/-- the states at the ticks -/
def ticks (W : Web) (ru : List (List Int)) (st : List Int) : Nat → List Int
  | 0 => st
  | n + 1 => stateTold W ru (ticks W ru st n)
def spRun (Ps : List Addr) : Sp := fun vs H Q _ => ∃ (v r z : V) (W : Web) (ru : List (List Int)) (st : List Int) (n : Nat), vs = [v, r, z, .int n] ∧ n ≤ 200 ∧ WebAt H v W ∧ W.Ok ∧ TT2 H r ru ∧ Ru0 W ru ∧ firstBad W ru = none ∧ TI H z st ∧ StOk W st ∧ Tabs Ps H ∧ ∀ H' u, Ext H H' → TT2 H' (.ref u) ((List.range (n + 1)).map (ticks W ru st)) → Q (.ref u) H'
theorem told_len (W : Web) (ru : List (List Int)) (st : List Int) : (stateTold W ru st).length = st.length := by unfold stateTold; rw [List.length_map, List.length_range]
theorem told_at {W : Web} {ru : List (List Int)} {st : List Int} {f : Int} (h0 : 0 ≤ f) (h1 : f < st.length) : stAt (stateTold W ru st) f = moodTold W ru st f := by
  unfold stAt stateTold
  rw [List.getD_eq_getElem?_getD, List.getElem?_map, List.getElem?_range (by omega)]
  show moodTold W ru st ((f.toNat : Nat) : Int) = _
  rw [show ((f.toNat : Nat) : Int) = f by omega]
theorem table_bd {W : Web} {f : Int} {tb : List Int} (h : isTable W f tb = true) : ∀ m ∈ tb, 0 ≤ m ∧ m ≤ topAt W f := by
  intro m hm
  unfold isTable at h
  rw [Bool.and_eq_true, Bool.and_eq_true] at h
  have := List.all_eq_true.mp h.1.2 m hm
  unfold isWhole at this
  rw [Bool.and_eq_true] at this
  exact ⟨of_decide_eq_true this.1, of_decide_eq_true this.2⟩
theorem told_ok {W : Web} (ok : W.Ok) {ru : List (List Int)} (r0 : Ru0 W ru) (hb : firstBad W ru = none) {st : List Int} (so : StOk W st) : StOk W (stateTold W ru st) := by
  refine ⟨by rw [told_len, so.len], fun f h0 h1 => ?_⟩
  rw [told_at h0 (by rw [so.len]; exact h1)]
  have ht := firstBad_none hb f h0 h1
  refine table_bd ht _ ?_
  unfold moodTold
  have rok := rules_ok r0 hb
  have hp := place_bd ok so (looksOf W f) 1 0 (fun l hl => (looksOf_ok ok l hl).1) (by decide) (by decide)
  have hl := rok.rows f h0 h1
  have hlt : (placeOf W st f).toNat < (ru.getD f.toNat []).length := by
    have h2 : placeOf W st f < manyRows W f := hp.2
    have h3 : 0 ≤ placeOf W st f := hp.1
    omega
  rw [List.getD_eq_getElem?_getD (l := ru.getD f.toNat []), List.getElem?_eq_getElem hlt]
  exact List.getElem_mem hlt
theorem ticks_ok {W : Web} (ok : W.Ok) {ru : List (List Int)} (r0 : Ru0 W ru) (hb : firstBad W ru = none) {st : List Int} (so : StOk W st) : ∀ n, StOk W (ticks W ru st n)
  | 0 => so
  | n + 1 => told_ok ok r0 hb (ticks_ok ok r0 hb so n)
section
variable {P : Program} {w : World} {K : PySem.W.Frag} {mg : Str → Option Value} {base : Heap} {Ps : List Addr} {C : Addr}
end
end Lk


/-! ## M1 -/
set_option Elab.async false
set_option linter.all false
set_option maxRecDepth 100000
set_option maxHeartbeats 2000000
/-! Tables: neighbours and all pairs of rows. -/
namespace Lk
open PySem PySem.Spec PyProof.Rows L2 Gx
variable [Own]
/-- an axis: how many moods, the sign -/
abbrev Ax := Nat × Int
def pr : List Ax → Nat
  | [] => 1
  | a :: r => a.1 * pr r
def rws : List Ax → List (List Int)
  | [] => [[]]
  | a :: r => (List.range a.1).flatMap fun x : Nat => (rws r).map fun b => (x : Int) :: b
theorem rws_cons (a : Ax) (r : List Ax) : rws (a :: r) = (List.range a.1).flatMap fun x : Nat => (rws r).map fun b => (x : Int) :: b := rfl
def AxOk (as : List Ax) : Prop := ∀ a ∈ as, 0 < a.1 ∧ (a.2 = 1 ∨ a.2 = -1)
theorem pr_pos : ∀ {as : List Ax}, AxOk as → 0 < pr as
  | [], _ => Nat.one_pos
  | a :: r, h => Nat.mul_pos (h a (List.mem_cons_self ..)).1 (pr_pos fun x hx => h x (List.mem_cons_of_mem _ hx))
theorem rws_len : ∀ as : List Ax, (rws as).length = pr as
  | [] => rfl
  | a :: r => by
    rw [rws_cons, pr, List.length_flatMap]
    have : ((List.range a.1).map fun x => ((rws r).map fun b => ((x : Nat) : Int) :: b).length) = (List.range a.1).map fun _ => pr r := List.map_congr_left fun x _ => by rw [List.length_map, rws_len r]
    rw [this, List.map_const', List.length_range, List.sum_replicate_nat]
theorem flat_at {α : Type} (g : Nat → List α) (m : Nat) (hg : ∀ x, (g x).length = m) : ∀ (k n p : Nat), 0 < m → p < n * m → ((List.range' k n).flatMap g)[p]? = (g (k + p / m))[p % m]?
  | k, 0, p, _, h => by simp at h
  | k, n + 1, p, h0, h => by
    rw [List.range'_succ, List.flatMap_cons]
    by_cases hp : p < m
    · rw [List.getElem?_append_left (by rw [hg]; exact hp), Nat.div_eq_of_lt hp, Nat.mod_eq_of_lt hp, Nat.add_zero]
    · have hp : m ≤ p := by omega
      rw [List.getElem?_append_right (by rw [hg]; exact hp), hg, flat_at g m hg (k + 1) n (p - m) h0 (by rw [Nat.add_mul, Nat.one_mul] at h; omega)]
      rw [Nat.mod_eq_sub_mod hp, Nat.div_eq_sub_div h0 hp]
      congr 2
      omega
theorem rws_get {a : Ax} {r : List Ax} (hr : 0 < pr r) {p : Nat} (h : p < a.1 * pr r) : (rws (a :: r))[p]? = ((rws r)[p % pr r]?).map fun b => ((p / pr r : Nat) : Int) :: b := by
  rw [rws_cons, List.range_eq_range', flat_at _ (pr r) (fun x => by rw [List.length_map, rws_len]) 0 a.1 p hr h, List.getElem?_map, Nat.zero_add]
theorem rws_at {a : Ax} {r : List Ax} {x b : Nat} {row : List Int} (hx : x < a.1) (hb : (rws r)[b]? = some row) : (rws (a :: r))[x * pr r + b]? = some ((x : Int) :: row) := by
  have hb' : b < pr r := by rw [← rws_len]; exact (List.getElem?_eq_some_iff.mp hb).1
  have hr : 0 < pr r := by omega
  have hlt : x * pr r + b < a.1 * pr r := by
    have : (x + 1) * pr r ≤ a.1 * pr r := Nat.mul_le_mul_right _ hx
    rw [Nat.add_mul, Nat.one_mul] at this
    omega
  rw [rws_get hr hlt]
  have e1 : (x * pr r + b) % pr r = b := by rw [Nat.add_comm, Nat.add_mul_mod_self_right, Nat.mod_eq_of_lt hb']
  have e2 : (x * pr r + b) / pr r = x := by rw [Nat.add_comm, Nat.add_mul_div_right _ _ hr, Nat.div_eq_of_lt hb', Nat.zero_add]
  rw [e1, e2, hb]
  rfl
theorem rws_cut {a : Ax} {r : List Ax} {p : Nat} {row : List Int} (h : (rws (a :: r))[p]? = some row) : ∃ (x b : Nat) (row' : List Int), x < a.1 ∧ p = x * pr r + b ∧ row = (x : Int) :: row' ∧ (rws r)[b]? = some row' := by
  have hlt : p < a.1 * pr r := by
    have := (List.getElem?_eq_some_iff.mp h).1
    rw [rws_len] at this
    exact this
  have hr : 0 < pr r := by
    rcases Nat.eq_zero_or_pos (pr r) with z | z
    · rw [z, Nat.mul_zero] at hlt; omega
    · exact z
  rw [rws_get hr hlt] at h
  cases e : (rws r)[p % pr r]? with
  | none => rw [e] at h; cases h
  | some row' =>
    rw [e] at h
    refine ⟨p / pr r, p % pr r, row', Nat.div_lt_of_lt_mul (by rw [Nat.mul_comm]; exact hlt), ?_, (Option.some.inj h).symm, e⟩
    rw [Nat.mul_comm]
    exact (Nat.div_add_mod p (pr r)).symm
/-- a row stands at one place alone -/
theorem rws_inj : ∀ {as : List Ax} {p q : Nat} {row : List Int}, (rws as)[p]? = some row → (rws as)[q]? = some row → p = q
  | [], p, q, row, h1, h2 => by
    have h1 := (List.getElem?_eq_some_iff.mp h1).1
    have h2 := (List.getElem?_eq_some_iff.mp h2).1
    simp only [rws, List.length_singleton] at h1 h2
    omega
  | a :: r, p, q, row, h1, h2 => by
    obtain ⟨x, b, r1, _, rfl, rfl, g1⟩ := rws_cut h1
    obtain ⟨y, c, r2, _, rfl, e, g2⟩ := rws_cut h2
    injection e with e1 e2
    have e1 : x = y := by omega
    subst e1 e2
    rw [rws_inj g1 g2]
theorem goes_refl : ∀ (ss : List Int) (xs : List Int), lawGoes ss xs xs = true
  | [], _ => by simp [lawGoes]
  | s :: ss, [] => by simp [lawGoes]
  | s :: ss, x :: xs => by simp [lawGoes, goes_refl ss xs]
theorem goes_trans : ∀ (ss xs ys zs : List Int), (∀ s ∈ ss, s = 1 ∨ s = -1) → ys.length = ss.length → lawGoes ss xs ys = true → lawGoes ss ys zs = true → lawGoes ss xs zs = true
  | [], xs, ys, zs, _, _, _, _ => by simp [lawGoes]
  | s :: ss, [], ys, zs, _, _, _, _ => by simp [lawGoes]
  | s :: ss, x :: xs, [], zs, _, h, _, _ => by simp at h
  | s :: ss, x :: xs, y :: ys, [], _, _, _, _ => by simp [lawGoes]
  | s :: ss, x :: xs, y :: ys, z :: zs, hs, hl, h1, h2 => by
    simp only [lawGoes, Bool.and_eq_true, Bool.not_eq_true', decide_eq_false_iff_not] at h1 h2 ⊢
    refine ⟨?_, goes_trans ss xs ys zs (fun s h => hs s (List.mem_cons_of_mem _ h)) (by simpa using hl) h1.2 h2.2⟩
    have g1 := h1.1
    have g2 := h2.1
    rcases hs s (List.mem_cons_self ..) with e | e <;> (subst e; omega)
/-- monotone between neighbours; between all -/
def Nb : List Ax → (Nat → Int) → Prop
  | [], _ => True
  | a :: r, T => (∀ x b, x + 1 < a.1 → b < pr r → 0 ≤ (T ((x + 1) * pr r + b) - T (x * pr r + b)) * a.2) ∧ ∀ x, x < a.1 → Nb r fun b => T (x * pr r + b)
def Al (as : List Ax) (T : Nat → Int) : Prop := ∀ p q xp xq, (rws as)[p]? = some xp → (rws as)[q]? = some xq → lawGoes (as.map (·.2)) xp xq = true → T p ≤ T q
theorem al_nb : ∀ (as : List Ax), AxOk as → ∀ T : Nat → Int, Al as T ↔ Nb as T
  | [], _, T => by
    refine ⟨fun _ => trivial, fun _ p q xp xq h1 h2 _ => ?_⟩
    have h1 := (List.getElem?_eq_some_iff.mp h1).1
    have h2 := (List.getElem?_eq_some_iff.mp h2).1
    simp only [rws, List.length_singleton] at h1 h2
    rw [show p = q by omega]
    exact Int.le_refl _
  | a :: r, h, T => by
    have ha := h a (List.mem_cons_self ..)
    have hr : AxOk r := fun x hx => h x (List.mem_cons_of_mem _ hx)
    have hp := pr_pos hr
    refine ⟨fun A => ⟨fun x b hx hb => ?_, fun x hx => ?_⟩, fun ⟨N1, N2⟩ p q xp xq h1 h2 g => ?_⟩
    · have hb2 : b < (rws r).length := by rw [rws_len]; exact hb
      have e := List.getElem?_eq_getElem hb2
      have e1 := rws_at (a := a) (r := r) (x := x) (by omega) e
      have e2 := rws_at (a := a) (r := r) (x := x + 1) (by omega) e
      rcases ha.2 with s | s
      · have := A _ _ _ _ e1 e2 (by
          rw [List.map_cons, s]
          simp only [lawGoes, goes_refl, Bool.and_true, Bool.not_eq_true', decide_eq_false_iff_not]
          omega)
        rw [s]
        omega
      · have := A _ _ _ _ e2 e1 (by
          rw [List.map_cons, s]
          simp only [lawGoes, goes_refl, Bool.and_true, Bool.not_eq_true', decide_eq_false_iff_not]
          omega)
        rw [s]
        omega
    · refine (al_nb r hr _).mp fun p q xp xq h1 h2 g => ?_
      refine A _ _ _ _ (rws_at hx h1) (rws_at hx h2) ?_
      rw [List.map_cons]
      simp only [lawGoes, g, Bool.and_true, Bool.not_eq_true', decide_eq_false_iff_not, Int.sub_self, Int.mul_zero]
      omega
    · obtain ⟨x, b, r1, hx, rfl, rfl, g1⟩ := rws_cut h1
      obtain ⟨y, c, r2, hy, rfl, rfl, g2⟩ := rws_cut h2
      rw [List.map_cons] at g
      simp only [lawGoes, Bool.and_eq_true, Bool.not_eq_true', decide_eq_false_iff_not] at g
      have s1 : T (x * pr r + b) ≤ T (x * pr r + c) := (al_nb r hr _).mpr (N2 x hx) b c r1 r2 g1 g2 g.2
      have hc : c < pr r := by rw [← rws_len]; exact (List.getElem?_eq_some_iff.mp g2).1
      refine Int.le_trans s1 ?_
      rcases ha.2 with s | s
      · have hxy : x ≤ y := by
          have := g.1
          rw [s] at this
          omega
        have : ∀ d, x + d < a.1 → T (x * pr r + c) ≤ T ((x + d) * pr r + c) := by
          intro d
          induction d with
          | zero => intro _; exact Int.le_refl _
          | succ d ih =>
            intro hd
            have := N1 (x + d) c (by omega) hc
            rw [s] at this
            have := ih (by omega)
            rw [show x + (d + 1) = x + d + 1 by omega]
            omega
        have := this (y - x) (by omega)
        rw [show x + (y - x) = y by omega] at this
        exact this
      · have hxy : y ≤ x := by
          have := g.1
          rw [s] at this
          omega
        have : ∀ d, y + d < a.1 → T ((y + d) * pr r + c) ≤ T (y * pr r + c) := by
          intro d
          induction d with
          | zero => intro _; exact Int.le_refl _
          | succ d ih =>
            intro hd
            have := N1 (y + d) c (by omega) hc
            rw [s] at this
            have := ih (by omega)
            rw [show y + (d + 1) = y + d + 1 by omega]
            omega
        have := this (x - y) (by omega)
        rw [show y + (x - y) = x by omega] at this
        exact this
def Cn (T : Nat → Int) (n s z : Nat) (sg : Int) : Prop := ∀ p, p < n → p / s % z < z - 1 → 0 ≤ (T (p + s) - T p) * sg
def Ga (T : Nat → Int) (n : Nat) : List Ax → Prop
  | [] => True
  | a :: r => Cn T n (pr r) a.1 a.2 ∧ Ga T n r
theorem ga_nb : ∀ (as : List Ax), AxOk as → ∀ (T : Nat → Int) (k : Nat), Ga T (k * pr as) as ↔ ∀ x, x < k → Nb as fun b => T (x * pr as + b)
  | [], _, T, k => ⟨fun _ _ _ => trivial, fun _ => trivial⟩
  | a :: r, h, T, k => by
    have ha := h a (List.mem_cons_self ..)
    have hr : AxOk r := fun x hx => h x (List.mem_cons_of_mem _ hx)
    have hp := pr_pos hr
    have en : k * pr (a :: r) = k * a.1 * pr r := by rw [pr, Nat.mul_assoc]
    have ee : ∀ x y b : Nat, x * pr (a :: r) + (y * pr r + b) = (x * a.1 + y) * pr r + b := fun x y b => by
      rw [pr, Nat.add_mul, ← Nat.mul_assoc, Nat.add_assoc]
    rw [Ga, en, ga_nb r hr T (k * a.1)]
    constructor
    · rintro ⟨C, N⟩ x hx
      refine ⟨fun y b hy hb => ?_, fun y hy => ?_⟩
      · show 0 ≤ (T (x * pr (a :: r) + ((y + 1) * pr r + b)) - T (x * pr (a :: r) + (y * pr r + b))) * a.2
        rw [ee, ee]
        have hlt : x * a.1 + y < k * a.1 := by
          have : (x + 1) * a.1 ≤ k * a.1 := Nat.mul_le_mul_right _ hx
          rw [Nat.add_mul, Nat.one_mul] at this
          omega
        have d1 : ((x * a.1 + y) * pr r + b) / pr r = x * a.1 + y := by rw [Nat.add_comm, Nat.add_mul_div_right _ _ hp, Nat.div_eq_of_lt hb, Nat.zero_add]
        have d2 : (x * a.1 + y) % a.1 = y := by rw [Nat.add_comm, Nat.add_mul_mod_self_right, Nat.mod_eq_of_lt (by omega)]
        have := C ((x * a.1 + y) * pr r + b) (by
          have : (x * a.1 + y + 1) * pr r ≤ k * a.1 * pr r := Nat.mul_le_mul_right _ hlt
          rw [Nat.add_mul, Nat.one_mul] at this
          omega) (by rw [d1, d2]; omega)
        rw [show (x * a.1 + (y + 1)) * pr r + b = (x * a.1 + y) * pr r + b + pr r by rw [← Nat.add_assoc, Nat.add_mul (x * a.1 + y), Nat.one_mul]; omega]
        exact this
      · have := N (x * a.1 + y) (by
          have : (x + 1) * a.1 ≤ k * a.1 := Nat.mul_le_mul_right _ hx
          rw [Nat.add_mul, Nat.one_mul] at this
          omega)
        have e : (fun b => T (x * pr (a :: r) + (y * pr r + b))) = fun b => T ((x * a.1 + y) * pr r + b) := funext fun b => by rw [ee]
        show Nb r fun b => T (x * pr (a :: r) + (y * pr r + b))
        rw [e]
        exact this
    · intro N
      refine ⟨fun p hpn hd => ?_, fun x' hx' => ?_⟩
      · have e1 : p = p / pr r * pr r + p % pr r := by rw [Nat.mul_comm]; exact (Nat.div_add_mod p (pr r)).symm
        have e2 : p / pr r = p / pr r / a.1 * a.1 + p / pr r % a.1 := by rw [Nat.mul_comm]; exact (Nat.div_add_mod _ a.1).symm
        have c1 : p % pr r < pr r := Nat.mod_lt _ hp
        have c2 : p / pr r < k * a.1 := Nat.div_lt_of_lt_mul (by rw [Nat.mul_comm]; exact hpn)
        have c3 : p / pr r / a.1 < k := Nat.div_lt_of_lt_mul (by rw [Nat.mul_comm]; exact c2)
        obtain ⟨N1, _⟩ := N _ c3
        have := N1 (p / pr r % a.1) (p % pr r) (by omega) c1
        have this : 0 ≤ (T (p / pr r / a.1 * pr (a :: r) + ((p / pr r % a.1 + 1) * pr r + p % pr r)) - T (p / pr r / a.1 * pr (a :: r) + (p / pr r % a.1 * pr r + p % pr r))) * a.2 := this
        rw [ee, ee] at this
        rw [show p / pr r / a.1 * a.1 + (p / pr r % a.1 + 1) = p / pr r + 1 by omega, ← e2, ← e1] at this
        rw [show (p / pr r + 1) * pr r + p % pr r = p + pr r by rw [Nat.add_mul, Nat.one_mul]; omega] at this
        exact this
      · have e2 : x' = x' / a.1 * a.1 + x' % a.1 := by rw [Nat.mul_comm]; exact (Nat.div_add_mod _ a.1).symm
        have c3 : x' / a.1 < k := Nat.div_lt_of_lt_mul (by rw [Nat.mul_comm]; exact hx')
        obtain ⟨_, N2⟩ := N _ c3
        have := N2 (x' % a.1) (Nat.mod_lt _ ha.1)
        have this : Nb r fun b => T (x' / a.1 * pr (a :: r) + (x' % a.1 * pr r + b)) := this
        have e : (fun b => T (x' / a.1 * pr (a :: r) + (x' % a.1 * pr r + b))) = fun b => T (x' * pr r + b) := funext fun b => by rw [ee, ← e2]
        rw [e] at this
        exact this
theorem ga_al {as : List Ax} (h : AxOk as) (T : Nat → Int) : Ga T (pr as) as ↔ Al as T := by
  have := ga_nb as h T 1
  rw [Nat.one_mul] at this
  rw [this, al_nb as h T]
  constructor
  · intro N
    have := N 0 Nat.one_pos
    simpa using this
  · intro N x hx
    have : x = 0 := by omega
    subst this
    simpa using N
theorem goes_cn {tb : List Int} {s z : Nat} {sg : Int} : goesAlong tb s z sg = true ↔ Cn (fun p => tb.getD p 0) tb.length s z sg := by
  unfold goesAlong placesOf Cn
  rw [List.all_eq_true]
  constructor
  · intro h p hp hd
    exact of_decide_eq_true (h p (List.mem_filter.mpr ⟨List.mem_range.mpr hp, decide_eq_true hd⟩))
  · intro h p hp
    obtain ⟨h1, h2⟩ := List.mem_filter.mp hp
    exact decide_eq_true (h p (List.mem_range.mp h1) (of_decide_eq_true h2))
/-- the axes of looks -/
def axes (W : Web) (ls : List (Int × Int)) : List Ax := ls.map fun l => ((topAt W l.1 + 1).toNat, l.2)
theorem pr_prod (W : Web) : ∀ ls : List (Int × Int), pr (axes W ls) = prodOf W ls
  | [] => rfl
  | l :: ls => by
    rw [prod_cons, ← pr_prod W ls]
    rfl
theorem loop_ga {W : Web} {tb : List Int} : ∀ (rs done : List (Int × Int)), (goLoop W tb rs (prodOf W done) = true ∧ Ga (fun p => tb.getD p 0) tb.length (axes W done)) ↔ Ga (fun p => tb.getD p 0) tb.length (axes W (rs.reverse ++ done))
  | [], done => by simp [goLoop]
  | l :: rs, done => by
    rw [List.reverse_cons, List.append_assoc]
    show _ ↔ Ga _ _ (axes W (rs.reverse ++ (l :: done)))
    rw [← loop_ga rs (l :: done), prod_cons, goLoop, Bool.and_eq_true, goes_cn]
    show _ ↔ _ ∧ Ga _ _ (((topAt W l.1 + 1).toNat, l.2) :: axes W done)
    rw [Ga, pr_prod, Nat.mul_comm (topAt W l.1 + 1).toNat]
    constructor
    · rintro ⟨⟨h1, h2⟩, h3⟩
      exact ⟨h2, h1, h3⟩
    · rintro ⟨h2, h1, h3⟩
      exact ⟨⟨h1, h2⟩, h3⟩
theorem axes_ok {W : Web} (ok : W.Ok) (f : Int) : AxOk (axes W (looksOf W f)) := by
  intro a ha
  obtain ⟨l, hl, rfl⟩ := List.mem_map.mp ha
  have h := looksOf_ok ok l hl
  have := topAt_ok ok h.1.1 h.1.2
  exact ⟨by show 0 < (topAt W l.1 + 1).toNat; omega, h.2⟩
/-- what is a table -/
theorem isTable_iff {W : Web} (ok : W.Ok) {f : Int} {tb : List Int} : isTable W f tb = true ↔ tb.length = pr (axes W (looksOf W f)) ∧ (∀ m ∈ tb, 0 ≤ m ∧ m ≤ topAt W f) ∧ Al (axes W (looksOf W f)) fun p => tb.getD p 0 := by
  unfold isTable
  rw [Bool.and_eq_true, Bool.and_eq_true, many_eq ok, decide_eq_true_iff, List.all_eq_true, ← pr_prod]
  have hb : (∀ x ∈ tb, isWhole x 0 (topAt W f) = true) ↔ ∀ m ∈ tb, 0 ≤ m ∧ m ≤ topAt W f := by
    unfold isWhole
    simp only [Bool.and_eq_true, decide_eq_true_iff]
  rw [hb]
  have hl := loop_ga (W := W) (tb := tb) (looksOf W f).reverse []
  rw [List.reverse_reverse, List.append_nil] at hl
  have hl2 : goLoop W tb (looksOf W f).reverse 1 = true ↔ Ga (fun p => tb.getD p 0) tb.length (axes W (looksOf W f)) := by
    rw [← hl]
    exact ⟨fun h => ⟨h, trivial⟩, fun h => h.1⟩
  rw [hl2]
  constructor
  · rintro ⟨⟨h1, h2⟩, h3⟩
    have h1 : tb.length = pr (axes W (looksOf W f)) := by omega
    rw [h1, ga_al (axes_ok ok f)] at h3
    exact ⟨h1, h2, h3⟩
  · rintro ⟨h1, h2, h3⟩
    rw [h1, ga_al (axes_ok ok f)]
    exact ⟨⟨rfl, h2⟩, h3⟩
theorem step_rws (W : Web) : ∀ (ls : List (Int × Int)) (rows : List (List Int)), (ls.map fun l => topAt W l.1).foldl rowsStep rows = rows.flatMap fun q => (rws (axes W ls)).map fun b => q ++ b
  | [], rows => by simp [axes, rws]
  | l :: ls, rows => by
    rw [List.map_cons, List.foldl_cons, step_rws W ls]
    unfold rowsStep
    rw [List.flatMap_assoc]
    congr 1
    funext q
    show _ = List.map _ (rws (((topAt W l.1 + 1).toNat, l.2) :: axes W ls))
    rw [rws_cons]
    unfold moods
    rw [List.map_flatMap, List.flatMap_map, List.flatMap_map]
    congr 1
    funext x
    rw [List.map_map]
    congr 1
    funext b
    simp
theorem rowsAt_rws (W : Web) (f : Int) : rowsAt W f = rws (axes W (looksOf W f)) := by
  unfold rowsAt rowsOf
  rw [step_rws]
  simp
theorem place_step (W : Web) (st : List Int) : ∀ (ls : List (Int × Int)) (p : Int), (∀ l ∈ ls, 0 ≤ topAt W l.1) → ls.foldl (placeStep W st) p = p * (pr (axes W ls) : Nat) + ls.foldl (placeStep W st) 0
  | [], p, _ => by simp [axes, pr]
  | l :: ls, p, h => by
    have h1 := h l (List.mem_cons_self ..)
    have h2 : ∀ l ∈ ls, 0 ≤ topAt W l.1 := fun x hx => h x (List.mem_cons_of_mem _ hx)
    rw [List.foldl_cons, List.foldl_cons, place_step W st ls _ h2, place_step W st ls (placeStep W st 0 l) h2]
    show _ = p * ((((topAt W l.1 + 1).toNat * pr (axes W ls) : Nat)) : Int) + _
    rw [Int.natCast_mul, show (((topAt W l.1 + 1).toNat : Nat) : Int) = topAt W l.1 + 1 by omega]
    unfold placeStep
    rw [Int.zero_mul, Int.zero_add, Int.add_mul, Int.mul_assoc, Int.add_assoc]
/-- the place of a row -/
theorem place_row {W : Web} {st : List Int} : ∀ {ls : List (Int × Int)}, (∀ l ∈ ls, 0 ≤ stAt st l.1 ∧ stAt st l.1 ≤ topAt W l.1) → 0 ≤ ls.foldl (placeStep W st) 0 ∧ (rws (axes W ls))[(ls.foldl (placeStep W st) 0).toNat]? = some (ls.map fun l => stAt st l.1)
  | [], _ => ⟨Int.le_refl _, rfl⟩
  | l :: ls, h => by
    have h1 := h l (List.mem_cons_self ..)
    obtain ⟨i0, i1⟩ := place_row (W := W) (st := st) (ls := ls) fun x hx => h x (List.mem_cons_of_mem _ hx)
    have ht : ∀ l ∈ ls, 0 ≤ topAt W l.1 := fun x hx => by have := h x (List.mem_cons_of_mem _ hx); omega
    rw [List.foldl_cons, place_step W st ls _ ht]
    have e : placeStep W st 0 l = stAt st l.1 := by unfold placeStep; rw [Int.zero_mul, Int.zero_add]
    rw [e]
    have hm : 0 ≤ stAt st l.1 * ((pr (axes W ls) : Nat) : Int) := Int.mul_nonneg h1.1 (Int.natCast_nonneg _)
    refine ⟨by omega, ?_⟩
    have e2 : (stAt st l.1 * ((pr (axes W ls) : Nat) : Int) + ls.foldl (placeStep W st) 0).toNat = (stAt st l.1).toNat * pr (axes W ls) + (ls.foldl (placeStep W st) 0).toNat := by
      rw [Int.toNat_add hm i0, Int.toNat_mul h1.1 (Int.natCast_nonneg _), Int.toNat_natCast]
    rw [e2]
    show (rws (((topAt W l.1 + 1).toNat, l.2) :: axes W ls))[_]? = _
    rw [rws_at (a := ((topAt W l.1 + 1).toNat, l.2)) (x := (stAt st l.1).toNat) (by show _ < (topAt W l.1 + 1).toNat; omega) i1, List.map_cons]
    rw [show (((stAt st l.1).toNat : Nat) : Int) = stAt st l.1 by omega]
theorem max_sub {l m : List Int} (h : ∀ x ∈ l, x ∈ m) : maxOf l ≤ maxOf m := by
  obtain ⟨g1, g2⟩ := foldmax l 0
  obtain ⟨k1, k2⟩ := foldmax m 0
  refine k2 _ ?_
  rcases List.mem_cons.mp g1 with e | e
  · show maxOf l ∈ _
    unfold maxOf
    rw [e]
    exact List.mem_cons_self ..
  · exact List.mem_cons_of_mem _ (h _ e)
/-- a drawn table is one -/
theorem table_ok {W : Web} (ok : W.Ok) {f : Int} (hf : 0 ≤ f ∧ f < W.tops.length) {mks : List Mark} (hm : ∀ mk ∈ mks, mk.1 ∈ rowsAt W f ∧ 0 ≤ mk.2 ∧ mk.2 ≤ topAt W f) : isTable W f (tableOf (signsAt W f) (rowsAt W f) mks) = true := by
  have ht := topAt_ok ok hf.1 hf.2
  rw [isTable_iff ok]
  refine ⟨by unfold tableOf; rw [List.length_map, rowsAt_rws, rws_len], fun m h => ?_, fun p q xp xq h1 h2 g => ?_⟩
  · unfold tableOf at h
    obtain ⟨row, _, rfl⟩ := List.mem_map.mp h
    obtain ⟨g1, g2⟩ := foldmax ((mks.filter fun mk => lawGoes (signsAt W f) mk.1 row).map (·.2)) 0
    refine ⟨g2 0 (List.mem_cons_self ..), ?_⟩
    rcases List.mem_cons.mp g1 with e | e
    · show maxOf _ ≤ _
      unfold maxOf
      rw [e]
      omega
    · obtain ⟨mk, hmk, e⟩ := List.mem_map.mp e
      show maxOf _ ≤ _
      unfold maxOf
      rw [← e]
      exact (hm mk (List.mem_filter.mp hmk).1).2.2
  · rw [← rowsAt_rws] at h1 h2
    have at_ : ∀ {p : Nat} {xp : List Int}, (rowsAt W f)[p]? = some xp → (tableOf (signsAt W f) (rowsAt W f) mks).getD p 0 = maxOf ((mks.filter fun mk => lawGoes (signsAt W f) mk.1 xp).map (·.2)) := fun {p xp} h => by
      unfold tableOf
      rw [List.getD_eq_getElem?_getD, List.getElem?_map, h]
      rfl
    show (tableOf (signsAt W f) (rowsAt W f) mks).getD p 0 ≤ (tableOf (signsAt W f) (rowsAt W f) mks).getD q 0
    rw [at_ h1, at_ h2]
    refine max_sub fun x hx => ?_
    obtain ⟨mk, hmk, rfl⟩ := List.mem_map.mp hx
    obtain ⟨m1, m2⟩ := List.mem_filter.mp hmk
    refine List.mem_map.mpr ⟨mk, List.mem_filter.mpr ⟨m1, ?_⟩, rfl⟩
    have es : (axes W (looksOf W f)).map (·.2) = signsAt W f := by
      unfold axes signsAt
      rw [List.map_map]
      rfl
    rw [es] at g
    refine goes_trans _ _ xp _ (signs_ok ok) ?_ m2 g
    rw [rowsAt_row (List.mem_of_getElem? h1)]
    unfold signsAt
    rw [List.length_map]
end Lk

/-! ## D50 -/
set_option Elab.async false
set_option linter.all false
set_option maxRecDepth 100000
set_option maxHeartbeats 2000000
namespace Lk
open PySem PySem.Spec PyProof.Rows L2 Gx
variable [Own]
abbrev s_closes : Stmt := top 25
theorem sc_closes : FnScope ["looks", "path"] ["looks", "path"] (defScope s_closes) := ⟨rfl, rfl, rfl, by decide +kernel, rfl, by decide +kernel, by decide +kernel⟩
abbrev s_goes_on : Stmt := top 26
theorem sc_goes_on : FnScope ["looks", "path", "number", "one", "other", "_", "place"] ["looks", "path", "number"] (defScope s_goes_on) := ⟨rfl, rfl, rfl, by decide +kernel, rfl, by decide +kernel, by decide +kernel⟩
abbrev s_has_even_spites : Stmt := top 28
theorem sc_has_even_spites : FnScope ["web", "ring", "_", "looks", "number", "spites"] ["web", "ring"] (defScope s_has_even_spites) := ⟨rfl, rfl, rfl, by decide +kernel, rfl, by decide +kernel, by decide +kernel⟩
theorem at_last {p : List Int} (h : p ≠ []) : atI (iv p) (-1) = some (.int (p.getLastD 0)) := by
  have hl : 0 < p.length := List.length_pos_iff.mpr h
  have e : ixN (iv p).length (-1) = some (p.length - 1) := by
    unfold ixN
    rw [iv_len]
    rw [if_neg (by omega), if_pos (by omega)]
    congr 1
    omega
  unfold atI
  rw [e]
  exact iv_at (getLastD_get h)
theorem at_head {p : List Int} (h : p ≠ []) : atI (iv p) 0 = some (.int (p.headD 0)) := by
  cases p with
  | nil => exact absurd rfl h
  | cons a b => exact at_of (j := 0) rfl rfl
/-- the looks of a web, as a value -/
def LooksAt (H : Hp) (l : V) (ls : List Look3) : Prop := TT2 H l (ls.map row3)
theorem lookAt {H : Hp} {vs : List V} {ls : List Look3} {n : Int} (hp : Paired (TI H) vs (ls.map row3)) (h : 0 ≤ n ∧ n < ls.length) : ∃ q, atI vs n = some (.ref q) ∧ H q = some (.tup (iv (row3 (lookN ls n)))) := by
  obtain ⟨v, hv, q, rfl, hq⟩ := paired_get hp (show (ls.map row3)[n.toNat]? = some (row3 (lookN ls n)) by rw [List.getElem?_map, lookN_get h.1 h.2] <;> rfl)
  exact ⟨q, at_of (j := n.toNat) (by omega) hv, hq⟩
theorem dec_int (a b : Int) : decide (V.int a = V.int b) = (a == b) := by
  by_cases h : a = b
  · rw [h]
    simp
  · rw [decide_eq_false (fun z => h (by cases z; rfl))]
    simpa using h
theorem flat_iv : ∀ ns : List Int, (iv ns).all flatV = true
  | [] => rfl
  | n :: ns => by
    show (flatV (V.int n) && (iv ns).all flatV) = true
    rw [flat_iv ns] <;> rfl
theorem inV_iv (n : Int) : ∀ ns : List Int, inV (V.int n) (iv ns) = ns.contains n
  | [] => rfl
  | m :: ns => by
    show (eqV (V.int m) (V.int n) || inV (V.int n) (iv ns)) = _
    rw [inV_iv n ns, List.contains_cons]
    congr 1
    show (m == n) = (n == m)
    rw [Bool.eq_iff_iff, beq_iff_eq, beq_iff_eq]
    exact eq_comm
theorem fmIf {α : Type} (p : α → Bool) : ∀ l : List α, (l.filterMap fun m => if p m = true then some m else none) = l.filter p
  | [] => rfl
  | x :: l => by
    rw [List.filterMap_cons, List.filter_cons, fmIf p l]
    cases p x <;> rfl
def spCloses : Sp := fun vs H Q _ => ∃ (l p : V) (ls : List Look3) (path : List Int), vs = [l, p] ∧ TT2 H l (ls.map row3) ∧ TI H p path ∧ path ≠ [] ∧ (∀ n ∈ path, 0 ≤ n ∧ n < ls.length) ∧ Q (.bl (closesP ls path)) H
def spGoesOn : Sp := fun vs H Q _ => ∃ (l p : V) (n : Int) (ls : List Look3) (path : List Int), vs = [l, p, .int n] ∧ TT2 H l (ls.map row3) ∧ TI H p path ∧ path ≠ [] ∧ path.length ≤ 100 ∧ (∀ n ∈ path, 0 ≤ n ∧ n < ls.length) ∧ (0 ≤ n ∧ n < ls.length) ∧ ∀ H', Ext H H' → Q (.bl (goesOnP ls path n)) H'
def spHasEven : Sp := fun vs H Q _ => ∃ (v r : V) (W : Web) (ring : List Int), vs = [v, r] ∧ WebAt H v W ∧ TI H r ring ∧ ring.length ≤ 100 ∧ (∀ n ∈ ring, 0 ≤ n ∧ n < W.looks.length) ∧ ∀ H', Ext H H' → Q (.bl (evenP W.looks ring)) H'
section
variable {P : Program} {w : World} {K : PySem.W.Frag} {mg : Str → Option Value} {base : Heap} {Ps : List Addr}
theorem ok_closes {f : Addr} {fd : FuncData} (F : Fun K "closes" "closes" s_closes f fd) : FnOk P w K mg base CX0 1 f fd ["looks", "path"] spCloses := by
  refine F.ok sc_closes (fun vs H Q E h => ?_) (fun cdv A outer s H vs Q E hr h => ?_)
  · obtain ⟨l, p, ls, path, rfl, _⟩ := h
    rfl
  · obtain ⟨l, p, ls, path, rfl, ⟨a, vs, rfl, ha, hvs⟩, ⟨b, rfl, hb⟩, hne, hin, k⟩ := h
    refine ⟨_, (pss_one (ps_ret (pe_cmpR op_eq (pe_ix ix_tT (pe_ix ix_tT (pv 0) (pe_ix ix_tT (pv 1) (pe_un un_neg pe_int) (fun _ _ => rfl)) (fun _ _ => rfl)) pe_int (fun _ _ => rfl)) (pe_ix ix_tT (pe_ix ix_tT (pv 0) (pe_ix ix_tT (pv 1) pe_int (fun _ _ => rfl)) (fun _ _ => rfl)) pe_int (fun _ _ => rfl)) (nomark _)))), ?_⟩
    obtain ⟨q1, e1, h1⟩ := lookAt hvs (hin _ (getLastD_mem hne))
    obtain ⟨q2, e2, h2⟩ := lookAt hvs (hin _ (headD_mem hne))
    refine ⟨_, rfl, _, rfl, _, rfl, b, _, _, _, rfl, rfl, hb, at_last hne, a, _, _, _, rfl, rfl, ha, e1, q1, _, _, _, rfl, rfl, h1, at_of (j := 1) rfl rfl, ?_⟩
    refine ⟨_, rfl, _, rfl, b, _, _, _, rfl, rfl, hb, at_head hne, a, _, _, _, rfl, rfl, ha, e2, q2, _, _, _, rfl, rfl, h2, at_of (j := 0) rfl rfl, ?_⟩
    refine ⟨rfl, ?_⟩
    show Q (V.bl (decide (V.int (lkr ls (path.getLastD 0)) = V.int (lkd ls (path.headD 0))))) H
    rw [dec_int]
    exact k
theorem ok_goes_on {f : Addr} {fd : FuncData} (F : Fun K "goes_on" "goes_on" s_goes_on f fd) : FnOk P w K mg base CX0 1 f fd ["looks", "path", "number"] spGoesOn := by
  refine F.ok sc_goes_on (fun vs H Q E h => ?_) (fun cdv A outer s H vs Q E hr h => ?_)
  · obtain ⟨l, p, n, ls, path, rfl, _⟩ := h
    rfl
  · obtain ⟨l, p, n, ls, path, rfl, ⟨a, vs, rfl, ha, hvs⟩, ⟨b, rfl, hb⟩, hne, hlen, hin, hn, k⟩ := h
    refine ⟨_, (pss_cons (ps_asg (pe_ix ix_tT (pv 0) (pv 2) (fun _ _ => rfl)) (pg_tupT (n := 3) rfl (pgs_cons (pg_name (i := 3) sc_goes_on.nd rfl (by first | exact Or.inl rfl | exact Or.inr rfl)) (pgs_cons (pg_name (i := 4) sc_goes_on.nd rfl (by first | exact Or.inl rfl | exact Or.inr rfl)) (pgs_cons (pg_name (i := 5) sc_goes_on.nd rfl (by first | exact Or.inl rfl | exact Or.inr rfl)) pgs_nil)))))
      (pss_one (ps_ret (pe_and (pe_cmpR op_eq (pv 3) (pe_ix ix_tT (pe_ix ix_tT (pv 0) (pe_ix ix_tT (pv 1) (pe_un un_neg pe_int) (fun _ _ => rfl)) (fun _ _ => rfl)) pe_int (fun _ _ => rfl)) (nomark _)) (pe_one (pe_cmpR op_notIn_seq (pv 4) (pe_lc (own := [("place", 6)]) rfl sc_goes_on.nd (pi_tup (pv 1)) (blkOk_by (N := ["looks", "path", "number", "one", "other", "_", "place"]) (sc := defScope s_goes_on) (by decide +kernel)) (fun _ _ _ _ _ => (pg_name (i := 6) sc_goes_on.nd rfl (by first | exact Or.inl rfl | exact Or.inr rfl))) (fun _ _ _ _ _ => pts_nil) (fun _ _ _ _ _ => (pe_ix ix_tT (pe_ix ix_tT (pv 0) (pv 6) (fun _ _ => rfl)) pe_int (fun _ _ => rfl)))) (by with_unfolding_all rfl))))))), ?_⟩
    obtain ⟨q0, e0, h0⟩ := lookAt hvs hn
    obtain ⟨q1, e1, h1⟩ := lookAt hvs (hin _ (getLastD_mem hne))
    refine ⟨_, rfl, _, rfl, a, _, _, _, rfl, rfl, ha, e0, q0, _, rfl, h0, rfl, _, _, rfl, _, _, rfl, _, _, rfl, rfl, ?_⟩
    refine ⟨_, rfl, _, rfl, _, rfl, _, rfl, b, _, _, _, rfl, rfl, hb, at_last hne, a, _, _, _, rfl, rfl, ha, e1, q1, _, _, _, rfl, rfl, h1, at_of (j := 1) rfl rfl, rfl, ?_⟩
    refine ⟨_, rfl, ?_⟩
    rw [dec_int]
    show if (lkd ls n == lkr ls (path.getLastD 0)) = true then _ else _
    unfold goesOnP at k
    refine ite_of (fun hc => ?_) fun hc => ?_
    · rw [hc] at k
      refine ⟨_, rfl, _, rfl, b, rfl, ⟨_, SqT.of hb⟩, fun D hD => ?_⟩
      refine lc_fmT (R := VI) (S := VI) stVI stVI (xs := iv path) (bs := path) (fun m => some (lkr ls m)) hD hb (iv_pVI path) (by rw [iv_len]; exact Nat.le_of_lt (small1000 (by omega))) (fun x m H' Ky Kn e hm hx k1 k2 => ?_) fun H' acc e hacc hp => ?_
      · obtain ⟨q2, e2, h2⟩ := lookAt hvs (hin m hm)
        rw [show x = V.int m from hx]
        refine ⟨rfl, yes ?_⟩
        exact ⟨_, rfl, _, rfl, a, _, _, _, rfl, rfl, e.tup ha, e2, q2, _, _, _, rfl, rfl, e.tup h2, at_of (j := 1) rfl rfl, k1 _ _ _ rfl (Ext.refl _) rfl⟩
      · have eacc := pVI hp
        subst eacc
        refine ⟨D, _, rfl, .inl (SqL.of hacc), rfl, flat_iv _, ?_⟩
        have := k H' e
        rw [show (!inV (V.int (lookN ls n).2.1) (iv (path.filterMap fun m => some (lkr ls m)))) = (true && !(path.map (lkr ls)).contains (lkr ls n)) from ?_]
        · exact this
        · rw [List.filterMap_eq_map' , inV_iv, Bool.true_and]
          rfl
    · rw [hc] at k
      exact k H (Ext.refl H)
theorem ok_has_even_spites {f : Addr} {fd : FuncData} (F : Fun K "has_even_spites" "has_even_spites" s_has_even_spites f fd) (B : Blt mg) : FnOk P w K mg base CX0 1 f fd ["web", "ring"] spHasEven := by
  refine F.ok sc_has_even_spites (fun vs H Q E h => ?_) (fun cdv A outer s H vs Q E hr h => ?_)
  · obtain ⟨v, r, W, ring, rfl, _⟩ := h
    rfl
  · obtain ⟨v, r, W, ring, rfl, ⟨a, t, l, rfl, ha, ht, ⟨b, ls, rfl, hb, hls⟩⟩, ⟨c, rfl, hc⟩, hlen, hin, k⟩ := h
    refine ⟨_, (pss_cons (ps_asg (pv 0) (pg_tupT (n := 2) rfl (pgs_cons (pg_name (i := 2) sc_has_even_spites.nd rfl (by first | exact Or.inl rfl | exact Or.inr rfl)) (pgs_cons (pg_name (i := 3) sc_has_even_spites.nd rfl (by first | exact Or.inl rfl | exact Or.inr rfl)) pgs_nil))))
      (pss_cons (ps_setLc (i := 5) (own := [("number", 4)]) rfl sc_has_even_spites.nd rfl rfl (sw_true rfl rfl rfl (by decide +kernel)) (pi_tup (pv 1)) (blkOk_by (N := ["web", "ring", "_", "looks", "number", "spites"]) (sc := defScope s_has_even_spites) (by decide +kernel)) (fun _ _ _ _ _ => (pg_name (i := 4) sc_has_even_spites.nd rfl (by first | exact Or.inl rfl | exact Or.inr rfl))) (fun _ _ _ _ _ => (pts_one (pt_cmpR op_eq (pe_ix ix_tT (pe_ix ix_tT (pv 3) (pv 4) (fun _ _ => rfl)) pe_int (fun _ _ => rfl)) (pe_un un_neg pe_int) (nomark _)))) (fun _ _ _ _ _ => (pv 4)))
      (pss_one (ps_ret (pe_cmpR op_eq (pe_op op_mod (pe_callB call_lenT (by rfl) B.len PySem.boot_len (pa_cons (pv 5) pa_nil)) pe_int) pe_int (nomark _)))))), ?_⟩
    refine ⟨_, rfl, a, _, rfl, ha, rfl, _, _, rfl, _, _, rfl, rfl, ?_⟩
    refine ⟨_, rfl, c, rfl, ⟨_, SqT.of hc⟩, fun D hD => ?_⟩
    refine lc_fmT (R := VI) (S := VI) stVI stVI (xs := iv ring) (bs := ring) (fun m => if lks W.looks m == -1 then some m else none) hD hc (iv_pVI ring) (by rw [iv_len]; exact Nat.le_of_lt (small1000 (by omega))) (fun x m H' Ky Kn e hm hx k1 k2 => ?_) fun H' acc e hacc hp => ?_
    · obtain ⟨q2, e2, h2⟩ := lookAt hls (hin m hm)
      rw [show x = V.int m from hx]
      refine ⟨rfl, ?_⟩
      refine ⟨_, rfl, _, rfl, b, _, _, _, rfl, rfl, e.tup hb, e2, q2, _, _, _, rfl, rfl, e.tup h2, at_of (j := 2) rfl rfl, _, rfl, rfl, ?_⟩
      refine ⟨_, rfl, ?_⟩
      rw [dec_int]
      show if (lks W.looks m == -1) = true then _ else _
      refine ite_of (fun hc => ?_) fun hc => ?_
      · exact ⟨_, rfl, k1 _ _ _ (if_pos hc) (Ext.refl _) rfl⟩
      · exact k2 _ (if_neg (by rw [hc]; simp)) (Ext.refl _)
    · have eacc := pVI hp
      subst eacc
      have ef : (ring.filterMap fun m => if (lks W.looks m == -1) = true then some m else none) = ring.filter fun m => lks W.looks m == -1 := fmIf _ _
      rw [ef] at hacc
      refine ⟨_, rfl, D, _, rfl, .inl hacc, ?_⟩
      refine ⟨_, _, rfl, rfl, (show (0 : Int) < 2 by decide), rfl, ?_⟩
      rw [dec_int, iv_len]
      have e5 : ((((ring.filter fun m => lks W.looks m == -1).length : Nat) : Int) % 2 == 0) = evenP W.looks ring := by
        unfold evenP
        rw [Bool.eq_iff_iff, beq_iff_eq, beq_iff_eq]
        omega
      rw [e5]
      exact k H' e
end
end Lk


/-! ## SortT -/
set_option Elab.async false
set_option linter.all false
set_option maxRecDepth 100000
set_option maxHeartbeats 2000000
/-! sorted of a list of tuples of ints, none of them empty, any number of them. -/
namespace Lk
open PySem PySem.Spec PyProof.Rows L2 Gx
variable [Own]
/-- tuples of ints, in order -/
def sortT (rows : List (List Int)) : List (List Int) := rows.mergeSort (PySem.W.dataLe false dI)
theorem sortT_perm (rows : List (List Int)) : (sortT rows).Perm rows := List.mergeSort_perm ..
theorem sortT_mem {rows : List (List Int)} {r : List Int} : r ∈ sortT rows ↔ r ∈ rows := (sortT_perm rows).mem_iff
theorem sortT_len (rows : List (List Int)) : (sortT rows).length = rows.length := (sortT_perm rows).length_eq
def rSortT : List V → Hp → VK → Prop := fun vs H Q => ∃ (a : Addr) (xs : List V) (rows : List (List Int)), vs = [.ref a] ∧ H a = some (.lst xs) ∧ Paired (TI H) xs rows ∧ (∀ r ∈ rows, r ≠ []) ∧
  ∀ p ys, H p = none → Paired (TI H) ys (sortT rows) → Q (.ref p) (upd H p (.lst ys))
theorem both_of {H : Hp} : ∀ {xs : List V} {its : List Value} {rows : List (List Int)}, Vals xs its → Paired (TI H) xs rows → ∃ bs : List (V × List Int), bs.map (·.1) = xs ∧ bs.map (·.2) = rows ∧ PySem.W.EachIs (fun v (b : V × List Int) => RelV b.1 v ∧ TI H b.1 b.2) its bs
  | _, _, _, .nil, .nil => ⟨[], rfl, rfl, .nil⟩
  | x :: _, _, r :: _, .cons h1 t1, .cons h2 t2 => by
    obtain ⟨bs, e1, e2, e3⟩ := both_of t1 t2
    exact ⟨(x, r) :: bs, by rw [List.map_cons, e1], by rw [List.map_cons, e2], .cons ⟨h1, h2⟩ e3⟩
theorem of_both {H : Hp} : ∀ {its : List Value} {bs : List (V × List Int)}, PySem.W.EachIs (fun v (b : V × List Int) => RelV b.1 v ∧ TI H b.1 b.2) its bs → Vals (bs.map (·.1)) its ∧ Paired (TI H) (bs.map (·.1)) (bs.map (·.2))
  | _, _, .nil => ⟨.nil, .nil⟩
  | _, _, .cons h t => by
    obtain ⟨a, b⟩ := of_both t
    exact ⟨.cons h.1 a, .cons h.2 b⟩
theorem cr_sortTI {X : Cx} (hu : X.A.units + 64 < cLine) : CallR X (.builtin "sorted") rSortT := by
  intro pins s σ H vs us Q I r h
  obtain ⟨a, xs, rows, rfl, ha, hp, hne, q⟩ := h
  obtain ⟨its, rv, hl, hz⟩ := I.list (SqL.of ha)
  rw [Vals.ref1 r]
  obtain ⟨bs, e1, e2, e3⟩ := both_of rv hp
  have hmem : ∀ b ∈ bs, b.2 ∈ rows := fun b hb => by rw [← e2]; exact List.mem_map.mpr ⟨b, hb, rfl⟩
  refine PySem.W.sorted_data (enc := fun b : V × List Int => dI b.2) hl.isList e3 (e3.mono fun v b hb => ?_) (PySem.W.AllAlike.of fun b b' => ?_) (.inl fun d hd => ?_) (by rw [← List.length_map (f := (·.1)), e1]; exact hz) (fun b hb => ?_) fun out hlen ho => ?_
  · exact Dp.reads I _ _ _ hb.2.dp hb.1
  · show PySem.W.alike (.tuple _) (.tuple _) = true
    simp only [PySem.W.alike]
    exact PySem.W.alike_ints _ _
  · obtain ⟨b, hb, rfl⟩ := List.mem_map.mp hd
    have := hne _ (hmem b hb)
    cases e : b.2 with
    | nil => exact absurd e this
    | cons x t => exact ⟨.int x, t.map .int, rfl⟩
  · show X.A.units + 2 + (PyData.tuple _).depth < cLine
    simp only [PyData.depth, depth_ints]
    omega
  · obtain ⟨ep, he'⟩ := PyProof.Rows.sortedAll_at s.heap its out.toArray
    obtain ⟨k1, k2⟩ := of_both ho
    have e4 : (bs.mergeSort (PySem.W.dataLe false fun b : V × List Int => dI b.2)).map (·.2) = sortT rows := by
      unfold sortT
      rw [← e2]
      exact PySem.W.sort_maps _ fun _ _ _ _ => rfl
    rw [e4] at k2
    have hl2 : ((bs.mergeSort (PySem.W.dataLe false fun b : V × List Int => dI b.2)).map (·.1)).length ≤ sizeLine := by
      rw [List.length_map, List.length_mergeSort, ← List.length_map (f := (·.1)), e1]
      exact hz
    exact ⟨.ref _, upd H (s.heap.objs.size + 1) (.lst _), I.laid (t' := s.toks) (fun _ _ => PyProof.Rows.sortedAll_old) (Nat.le_succ _) ⟨hl2, out, ep, k1, he'⟩, rfl, q _ _ (I.hok.fresh (Nat.le_succ _)) k2⟩
end Lk

/-! ## D51 -/
set_option Elab.async false
set_option linter.all false
set_option maxRecDepth 100000
set_option maxHeartbeats 4000000
namespace Lk
open PySem PySem.Spec PyProof.Rows L2 Gx
variable [Own]
abbrev s_all_rings : Stmt := top 27
theorem sc_all_rings : FnScope ["web", "_", "looks", "found", "number", "paths", "path"] ["web"] (defScope s_all_rings) := ⟨rfl, rfl, rfl, by decide +kernel, rfl, by decide +kernel, by decide +kernel⟩
/-- all rings of a web, in sequence -/
def ringsOf (W : Web) : List (List Int) := sortT (ringsRaw W.looks)
/-- few enough looks, folk to have rings counted -/
structure Web.Few (W : Web) : Prop where
  most : W.looks.length ≤ 14
  six : ∀ l ∈ W.looks, 0 ≤ l.2.1 ∧ l.2.1 < (6 : Int)
theorem Web.Ok.fewL {W : Web} (ok : W.Ok) : W.Few := ⟨ok.most, fun l hl => by
  have h := (ok.look l hl).2.1
  have := ok.few
  omega⟩
def spAllRings : Sp := fun vs H Q _ => ∃ (v : V) (W : Web), vs = [v] ∧ WebAt H v W ∧ W.Few ∧ ∀ H' q, Ext H H' → H q = none → TT2 H' (.ref q) (ringsOf W) → Q (.ref q) H'
theorem tru_list {K : PySem.W.Frag} {H : Hp} {a : Addr} {xs : List V} (h : H a = some (.lst xs)) : TruV K (.ref a) H (!xs.isEmpty) := .inl ⟨xs, SqL.of h, rfl⟩
theorem longer_fm (ls : List Look3) (row : List Int) : ((nums (row.headD 0 + 1) ls.length).filterMap fun n => if (!closesP ls row && goesOnP ls row n) = true then some (row ++ [n]) else none) = longer ls row := by
  unfold longer
  cases closesP ls row with
  | true =>
    rw [if_pos rfl]
    generalize nums (row.headD 0 + 1) ls.length = l
    induction l with
    | nil => rfl
    | cons x l ih =>
      rw [List.filterMap_cons, ih]
      rfl
  | false =>
    rw [if_neg (by decide)]
    generalize nums (row.headD 0 + 1) ls.length = l
    induction l with
    | nil => rfl
    | cons x l ih =>
      rw [List.filterMap_cons, ih, List.filter_cons]
      cases goesOnP ls row x <;> rfl
theorem flatMap_take_le {α β : Type} (f : α → List β) (l : List α) (n : Nat) : ((l.take n).flatMap f).length ≤ (l.flatMap f).length := by
  have e : l.flatMap f = (l.take n).flatMap f ++ (l.drop n).flatMap f := by rw [← List.flatMap_append, List.take_append_drop]
  rw [e, List.length_append]
  omega
/-- row + (n,) -/
theorem cat_one {H : Hp} {z u : Addr} {row : List Int} {n : Int} {Q : VK} (hz : H z = some (.tup (iv row))) (hu : H u = none) (hl : row.length ≤ 100) (k : ∀ H7 y, Ext H H7 → TI H7 y (row ++ [n]) → Q y H7) :
    rCatT (.ref z) (.ref u) (upd H u (.tup [.int n])) Q := by
  have hzu : z ≠ u := ne_of_none hz hu
  refine ⟨z, u, iv row, _, rfl, rfl, by rw [upd_ne hzu]; exact hz, upd_same, by rw [iv_len]; show row.length + 1 ≤ sizeLine; exact Nat.le_of_lt (small1000 (by omega)), fun e0 => ?_, (fun _ e0 => by cases e0), fun e0 _ v hv => ?_⟩
  · refine k _ _ (Ext.new hu _) ⟨u, rfl, ?_⟩
    have r0 : row = [] := by
      cases row with
      | nil => rfl
      | cons a b => cases e0
    rw [upd_same, r0]
    rfl
  · refine k _ _ ((Ext.new hu _).trans (Ext.new hv _)) ⟨v, rfl, ?_⟩
    rw [upd_same]
    show some (HO.tup (iv row ++ [V.int n])) = _
    unfold iv
    rw [List.map_append]
    rfl
section
variable {P : Program} {w : World} {K : PySem.W.Frag} {mg : Str → Option Value} {base : Heap} {Ps : List Addr}
theorem ok_all_rings {f : Addr} {fd : FuncData} (F : Fun K "all_rings" "all_rings" s_all_rings f fd) (B : Blt mg)
    (c_closes : Cal P w K mg base CX0 1 "closes" ["looks", "path"] spCloses) (c_goes_on : Cal P w K mg base CX0 1 "goes_on" ["looks", "path", "number"] spGoesOn) : FnOk P w K mg base CX0 2 f fd ["web"] spAllRings := by
  refine F.ok sc_all_rings (fun vs H Q E h => ?_) (fun cdv A outer s H vs Q E hr h => ?_)
  · obtain ⟨v, W, rfl, _⟩ := h
    rfl
  · obtain ⟨v, W, rfl, ⟨a, t, l, rfl, ha, ht, ⟨b, ls, rfl, hb, hls⟩⟩, fw, k⟩ := h
    refine ⟨_, (pss_cons (ps_asg (pv 0) (pg_tupT (n := 2) rfl (pgs_cons (pg_name (i := 1) sc_all_rings.nd rfl (by first | exact Or.inl rfl | exact Or.inr rfl)) (pgs_cons (pg_name (i := 2) sc_all_rings.nd rfl (by first | exact Or.inl rfl | exact Or.inr rfl)) pgs_nil))))
      (pss_cons (ps_set (i := 3) sc_all_rings.nd rfl (by first | exact Or.inl rfl | exact Or.inr rfl) (pe_lst pa_nil))
      (pss_cons (ps_setLc (i := 5) (own := [("number", 4)]) rfl sc_all_rings.nd rfl rfl (sw_true rfl rfl rfl (by decide +kernel)) (pi_range1 (by rfl) B.range (pa_cons (pe_callB call_lenT (by rfl) B.len PySem.boot_len (pa_cons (pv 2) pa_nil)) pa_nil)) (blkOk_by (N := ["web", "_", "looks", "found", "number", "paths", "path"]) (sc := defScope s_all_rings) (by decide +kernel)) (fun _ _ _ _ _ => (pg_name (i := 4) sc_all_rings.nd rfl (by first | exact Or.inl rfl | exact Or.inr rfl))) (fun _ _ _ _ _ => pts_nil) (fun _ _ _ _ _ => (pe_tup (pa_cons (pv 4) pa_nil))))
      (pss_cons (ps_while PassesOwn.never (pt_truth (pv 5) (fun _ => rfl))
        (pss_cons (ps_set (i := 3) sc_all_rings.nd rfl (by first | exact Or.inl rfl | exact Or.inr rfl) (pe_op op_cat (pv 3) (pe_lc (own := [("path", 6)]) rfl sc_all_rings.nd (pi_list (pv 5)) (blkOk_by (N := ["web", "_", "looks", "found", "number", "paths", "path"]) (sc := defScope s_all_rings) (by decide +kernel)) (fun _ _ _ _ _ => (pg_name (i := 6) sc_all_rings.nd rfl (by first | exact Or.inl rfl | exact Or.inr rfl))) (fun _ _ _ _ _ => (pts_one (pt_val (pe_c0 c_closes (hr.mono (by decide)) (by rfl) (pa_cons (pv 2) (pa_cons (pv 6) pa_nil)))))) (fun _ _ _ _ _ => (pv 6)))))
        (pss_one (ps_setLc2 (i := 5) (own := [("path", 6), ("number", 4)]) (vs1 := [4]) rfl sc_all_rings.nd rfl rfl (sw_true rfl rfl rfl (by decide +kernel)) (pi_list (pv 5)) (blkOk_by (N := ["web", "_", "looks", "found", "number", "paths", "path"]) (sc := defScope s_all_rings) (by decide +kernel)) (by decide) (fun _ _ _ _ _ => (pg_name (i := 6) sc_all_rings.nd rfl (by first | exact Or.inl rfl | exact Or.inr rfl))) (fun _ _ _ _ _ => pts_nil) (fun _ _ _ _ _ => (pi_range2 (by rfl) B.range (pa_cons (pe_op op_add (pe_ix ix_tT (pv 6) pe_int (fun _ _ => rfl)) pe_int) (pa_cons (pe_callB call_lenT (by rfl) B.len PySem.boot_len (pa_cons (pv 2) pa_nil)) pa_nil)))) (fun _ _ _ _ _ => (pg_name (i := 4) sc_all_rings.nd rfl (by first | exact Or.inl rfl | exact Or.inr rfl))) (fun _ _ _ _ _ => (pts_one (PW.pt (pw_and (pt_not (pt_val (pe_c0 c_closes (hr.mono (by decide)) (by rfl) (pa_cons (pv 2) (pa_cons (pv 6) pa_nil))))) (pw_and1 (pt_val (pe_c0 c_goes_on (hr.mono (by decide)) (by rfl) (pa_cons (pv 2) (pa_cons (pv 6) (pa_cons (pv 4) pa_nil)))))))))) (fun _ _ _ _ _ => (pe_op op_catTT (pv 6) (pe_tup (pa_cons (pv 4) pa_nil))))))))
      (pss_one (ps_ret (pe_tupleL (by rfl) B.tuple (pe_callB (cr_sortTI hr.units) (by rfl) B.sorted boot_sorted (pa_cons (pv 3) pa_nil))))))))), ?_⟩
    refine ⟨_, rfl, a, _, rfl, ha, rfl, _, _, rfl, _, _, rfl, rfl, ?_⟩
    have l14 := fw.most
    have llen : ls.length = W.looks.length := by rw [paired_len hls, List.length_map]
    refine ⟨(by show 0 ≤ sizeLine; decide), fun fa hfa => ?_⟩
    have E1 : Ext H (upd H fa (.lst [])) := Ext.new hfa _
    refine ⟨_, rfl, b, _, rfl, .inr (E1.tup hb), _, rfl, by omega, by omega, fun D hD => ?_⟩
    have e0 : ((ls.length : Int)).toNat = ls.length := by omega
    rw [e0]
    refine lc_fmR (lo := 0) (n := ls.length) (S := TI) stTI (fun n => some [n]) hD (Nat.le_of_lt (small1000 (by omega))) (fun n H' Ky Kn e h1 h2 k1 k2 => ?_) fun H' acc e hacc hp => ?_
    · refine ⟨rfl, yes ⟨_, rfl, (by show 1 ≤ sizeLine; decide), fun u hu => k1 _ _ _ rfl (Ext.new hu _) ⟨u, rfl, upd_same⟩⟩⟩
    · have e00 : ((nums 0 (0 + (ls.length : Int))).filterMap fun n => some [n]) = level W.looks 0 := by
        rw [List.filterMap_eq_map', llen, Int.zero_add] <;> rfl
      rw [e00] at hp
      refine ⟨fun m σ H2 => ∃ (i : Nat) (fa pa : Addr) (fv pv : List V) (o4 o6 : Option V), m + i = 7 ∧ σ = [some (.ref a), some t, some (.ref b), some (.ref fa), o4, some (.ref pa), o6] ∧ Ext H H2 ∧ H2 fa = some (.lst fv) ∧ Paired (TI H2) fv (foundN W.looks i) ∧ H2 pa = some (.lst pv) ∧ Paired (TI H2) pv (level W.looks i),
        ⟨7, 0, fa, D, [], acc, none, none, rfl, rfl, E1.trans e, e.lst upd_same, .nil, hacc, hp⟩, ?_⟩
      rintro m σ H2 ⟨i, fa, pa, fv, pv, o4, o6, hm, rfl, e2, hfa, hfp, hpa, hpp⟩
      have lp := paired_len hpp
      refine ⟨_, rfl, _, tru_list hpa, ?_⟩
      refine ite_of (fun hc => ?_) fun hc => ?_
      · have hi : i < 6 := by
          refine Nat.lt_of_not_le fun q => ?_
          rw [level_none (m := 6) fw.six q] at lp
          rw [List.length_eq_zero_iff.mp lp] at hc
          cases hc
        have small := level_small l14 fw.six i
        have fsmall := found_small l14 fw.six i
        have fsmall2 := found_small l14 fw.six (i + 1)
        have hz : sizeLine = 16777216 := rfl
        have lf := paired_len hfp
        refine ⟨fun σ' H' => ∃ m', m' < m ∧ ∃ (i : Nat) (fa pa : Addr) (fv pv : List V) (o4 o6 : Option V), m' + i = 7 ∧ σ' = [some (.ref a), some t, some (.ref b), some (.ref fa), o4, some (.ref pa), o6] ∧ Ext H H' ∧ H' fa = some (.lst fv) ∧ Paired (TI H') fv (foundN W.looks i) ∧ H' pa = some (.lst pv) ∧ Paired (TI H') pv (level W.looks i), fun _ _ h => h, ?_⟩
        refine ⟨_, rfl, _, rfl, pa, rfl, ⟨_, SqL.of hpa⟩, fun D1 hD1 => ?_⟩
        refine lc_fmL (R := TI) (S := TI) stTI stTI (fun p => if closesP W.looks p = true then some p else none) hD1 hpa hpp (by omega) (fun x p H3 Ky Kn e3 hmem hx k1 k2 => ?_) fun H3 acc1 e3 hacc1 hp1 => ?_
        · obtain ⟨pok, pl⟩ := level_ok i hmem
          have E3 := e2.trans e3
          refine ⟨rfl, _, rfl, _, rfl, _, _, W.looks, p, rfl, ⟨b, ls, rfl, E3.tup hb, pTI.ext E3 hls⟩, hx, pok.ne, pok.num, _, rfl, ?_⟩
          refine ite_of (fun hc => ?_) fun hc => ?_
          · exact ⟨_, rfl, k1 _ _ _ (if_pos hc) (Ext.refl _) hx⟩
          · exact k2 _ (if_neg (by rw [hc]; simp)) (Ext.refl _)
        · rw [fmIf] at hp1
          have l1 := paired_len hp1
          have hfa1 := e3.lst hfa
          have hpa1 := e3.lst hpa
          refine ⟨fa, D1, fv, acc1, rfl, rfl, hfa1, hacc1, ?_, fun f2 hf2 => ?_⟩
          · have ef : (foundN W.looks (i + 1)).length = (foundN W.looks i).length + ((level W.looks i).filter (closesP W.looks)).length := by
              show (foundN W.looks i ++ _).length = _
              rw [List.length_append]
            omega
          have ef2 := Ext.new hf2 (HO.lst (fv ++ acc1))
          have hpa2 := ef2.lst hpa1
          have E4 := (e2.trans e3).trans ef2
          refine ⟨_, rfl, pa, rfl, ⟨_, SqL.of hpa2⟩, fun D2 hD2 => ?_⟩
          generalize hX0 : upd H3 f2 (HO.lst (fv ++ acc1)) = X0 at ef2 hpa2 E4 hD2
          have hf2X : X0 f2 = some (.lst (fv ++ acc1)) := by rw [← hX0]; exact upd_same
          have hppX : Paired (TI X0) pv (level W.looks i) := pTI.ext (e3.trans ef2) hpp
          have hfoundX : Paired (TI X0) (fv ++ acc1) (foundN W.looks (i + 1)) := paired_app (pTI.ext (e3.trans ef2) hfp) (pTI.ext ef2 hp1)
          refine lc2_out (walk_list (K := K) (a := pa) (xs := pv)) (fun j H4 => ∃ acc, H4 D2 = some (.lst acc) ∧ Ext X0 H4 ∧ Paired (TI H4) acc (((level W.looks i).take j).flatMap (longer W.looks))) ⟨[], upd_same, Ext.new hD2 _, .nil⟩ (fun j H4 _ ⟨_, _, e4, _⟩ => SqL.of (e4.lst hpa2)) (fun j x H4 H5 hj ⟨acc, hacc, e4, hp4⟩ y => ?_) fun H4 ⟨acc, hacc, e4, hp4⟩ => ?_
          · obtain ⟨rfl, hx⟩ := y
            obtain ⟨row, hrow, z, rfl, hz⟩ := paired_get' (pTI.ext e4 hppX) hx
            obtain ⟨pok, pl⟩ := level_ok i (List.mem_of_getElem? hrow)
            have hh := pok.num _ (headD_mem pok.ne)
            refine ⟨rfl, yes ?_⟩
            refine ⟨_, rfl, z, _, _, _, rfl, rfl, hz, at_head pok.ne, _, _, rfl, rfl, _, rfl, b, _, rfl, .inr ((E4.trans e4).tup hb), ?_⟩
            refine ⟨row.headD 0 + 1, (ls.length : Int), rfl, ⟨by omega, by omega, by omega, by omega⟩, ?_⟩
            refine lc2_in (walk_range (lo := row.headD 0 + 1) (n := ((ls.length : Int) - (row.headD 0 + 1)).toNat)) (fun q H6 => ∃ acc2, H6 D2 = some (.lst acc2) ∧ Ext X0 H6 ∧ Paired (TI H6) acc2 ((((level W.looks i).take j).flatMap (longer W.looks)) ++ ((nums (row.headD 0 + 1) ls.length).take q).filterMap fun n => if (!closesP W.looks row && goesOnP W.looks row n) = true then some (row ++ [n]) else none)) ⟨acc, hacc, e4, by simpa using hp4⟩ (fun _ _ _ _ => trivial) (fun q x H6 H7 hq ⟨acc2, hacc2, e6, hp6⟩ y => ?_) fun H6 ⟨acc2, hacc2, e6, hp6⟩ => ?_
            · obtain ⟨rfl, hx6⟩ := y
              have hx6 : x = V.int (row.headD 0 + 1 + (q : Int)) := hx6
              subst hx6
              have hz6 : H7 z = some (.tup (iv row)) := by
                obtain ⟨row', hrow', z', ez, hz'⟩ := paired_get' (pTI.ext e6 hppX) hx
                cases ez
                rw [hrow] at hrow'
                cases hrow'
                exact hz'
              have E7 := E4.trans e6
              have hW7 : TT2 H7 (.ref b) (W.looks.map row3) := ⟨b, ls, rfl, E7.tup hb, pTI.ext E7 hls⟩
              have en : (nums (row.headD 0 + 1) ls.length)[q]? = some (row.headD 0 + 1 + (q : Int)) := nums_get hq
              have hn : 0 ≤ row.headD 0 + 1 + (q : Int) ∧ row.headD 0 + 1 + (q : Int) < W.looks.length := by omega
              have hjv : j < pv.length := hj
              refine ⟨rfl, _, rfl, _, rfl, _, _, W.looks, row, rfl, hW7, ⟨z, rfl, hz6⟩, pok.ne, pok.num, _, rfl, ?_⟩
              have la : acc2.length ≤ 7529536 := by
                rw [paired_len hp6, List.length_append]
                have s1 := level_small l14 fw.six (i + 1)
                have s2 := (List.take_sublist q (nums (row.headD 0 + 1) ls.length)).filterMap fun n => if (!closesP W.looks row && goesOnP W.looks row n) = true then some (row ++ [n]) else none
                have s3 := s2.length_le
                rw [llen] at s3
                rw [longer_fm] at s3
                have s4 : (((level W.looks i).take (j + 1)).flatMap (longer W.looks)).length ≤ (level W.looks (i + 1)).length := by
                  show _ ≤ ((level W.looks i).flatMap (longer W.looks)).length
                  exact flatMap_take_le _ _ _
                rw [flatMap_take hrow, List.length_append] at s4
                rw [llen]
                omega
              rw [filterMap_take en]
              cases hc1 : closesP W.looks row with
              | true =>
                refine iteF ?_
                refine iteF ⟨acc2, hacc2, e6, ?_⟩
                simpa [hc1] using hp6
              | false =>
                refine iteT ?_
                refine ⟨_, rfl, _, rfl, _, rfl, _, _, _, W.looks, row, rfl, hW7, ⟨z, rfl, hz6⟩, pok.ne, by omega, pok.num, hn, fun H8 e8 => ⟨_, rfl, ?_⟩⟩
                cases hc2 : goesOnP W.looks row (row.headD 0 + 1 + (q : Int)) with
                | false =>
                  refine iteF ⟨acc2, e8.lst hacc2, e6.trans e8, ?_⟩
                  simpa [hc1] using pTI.ext e8 hp6
                | true =>
                  refine iteT ?_
                  refine ⟨_, rfl, _, rfl, (by show 1 ≤ sizeLine; decide), fun u hu => ?_⟩
                  refine cat_one (e8.tup hz6) hu (by omega) fun H9 y e9 hy => ?_
                  have h9 := (e8.trans e9).lst hacc2
                  refine ⟨acc2, h9, by omega, acc2 ++ [y], upd_same, ((e6.trans e8).trans e9).put hD2 _, ?_⟩
                  rw [← List.append_assoc]
                  refine paired_snoc (stTI.put h9 hy) (paired_mono (fun v r h => stTI.put h9 h) (pTI.ext (e8.trans e9) ?_))
                  simpa [hc1] using hp6
            · have hq2 : (nums (row.headD 0 + 1) ls.length).take ((ls.length : Int) - (row.headD 0 + 1)).toNat = nums (row.headD 0 + 1) ls.length := List.take_of_length_le (by rw [nums_len]; exact Nat.le_refl _)
              rw [hq2] at hp6
              refine ⟨acc2, hacc2, e6, ?_⟩
              rw [flatMap_take hrow]
              have el : ((nums (row.headD 0 + 1) ls.length).filterMap fun n => if (!closesP W.looks row && goesOnP W.looks row n) = true then some (row ++ [n]) else none) = longer W.looks row := by
                rw [llen]
                exact longer_fm _ _
              rw [el] at hp6
              exact hp6
          · have hj2 : (level W.looks i).take pv.length = level W.looks i := List.take_of_length_le (by rw [lp]; exact Nat.le_refl _)
            rw [hj2] at hp4
            exact ⟨m - 1, by omega, i + 1, f2, D2, fv ++ acc1, acc, _, _, by omega, rfl, E4.trans e4, e4.lst hf2X, pTI.ext e4 hfoundX, hacc, hp4⟩
      · have hpv : pv = [] := by
          cases pv with
          | nil => rfl
          | cons x y => cases hc
        rw [hpv] at lp
        have hl0 : level W.looks i = [] := List.length_eq_zero_iff.mp lp.symm
        have hall := found_all hl0 (by omega)
        rw [hall] at hfp
        refine ⟨_, rfl, fa, fv, _, rfl, hfa, hfp, fun r hr => (raw_ok hr).1.ne, fun p ys hp0 hys => ⟨p, ys, rfl, upd_same, fun q hq => ?_⟩⟩
        have x1 := Ext.new hp0 (HO.lst ys)
        have x2 := Ext.new hq (HO.tup ys)
        refine k _ q ((e2.trans x1).trans x2) ?_ ⟨q, ys, rfl, upd_same, pTI.ext (x1.trans x2) hys⟩
        exact (e2.trans x1).free hq
end
end Lk


/-! ## TN -/
set_option Elab.async false
set_option linter.all false
set_option maxRecDepth 100000
set_option maxHeartbeats 2000000
/-! Webs, rules and states with the moods of a lot turned over: no heap in it. -/
namespace Lk
open PySem PySem.Spec PyProof.Rows L2 Gx
variable [Own]
/-- somebody of the lot or not -/
abbrev Lot := Int → Bool
def turnLook (lot : Lot) (l : Look3) : Look3 := (l.1, l.2.1, if lot l.1 = lot l.2.1 then l.2.2 else -l.2.2)
def turnW (lot : Lot) (W : Web) : Web := ⟨W.tops, W.looks.map (turnLook lot)⟩
def turnM (lot : Lot) (W : Web) (f m : Int) : Int := if lot f = true then topAt W f - m else m
def turnS (lot : Lot) (W : Web) (st : List Int) : List Int := (List.range st.length).map fun f : Nat => turnM lot W (f : Int) (stAt st (f : Int))
section
variable {W : Web} {lot : Lot}
theorem turnLook_two (l : Look3) : turnLook lot (turnLook lot l) = l := by
  unfold turnLook
  by_cases h : lot l.1 = lot l.2.1
  · simp [h]
  · simp [h]
theorem turnW_two : turnW lot (turnW lot W) = W := by
  unfold turnW
  simp only [List.map_map]
  have : (turnLook lot ∘ turnLook lot) = id := by
    funext l
    exact turnLook_two l
  rw [this, List.map_id]
theorem turnW_ok (ok : W.Ok) : (turnW lot W).Ok := by
  refine ⟨ok.some_, ok.few, ok.tops, by show (W.looks.map _).length ≤ 14; rw [List.length_map]; exact ok.most, fun l hl => ?_, ?_, fun f => ?_⟩
  · obtain ⟨k, hk, rfl⟩ := List.mem_map.mp hl
    have h := ok.look k hk
    refine ⟨h.1, h.2.1, ?_⟩
    show (if lot k.1 = lot k.2.1 then k.2.2 else -k.2.2) = 1 ∨ (if lot k.1 = lot k.2.1 then k.2.2 else -k.2.2) = -1
    have := h.2.2
    split <;> omega
  · exact List.pairwise_map.mpr ok.asc
  · have h := ok.four f
    show (((W.looks.map (turnLook lot)).map fun l => l.2.1).filter fun o => o == f).length ≤ 4
    rw [List.map_map]
    exact h
theorem topAt_turn (f : Int) : topAt (turnW lot W) f = topAt W f := rfl
/-- the looks of one, turned -/
def turnSee (lot : Lot) (f : Int) (p : Int × Int) : Int × Int := (p.1, if lot p.1 = lot f then p.2 else -p.2)
theorem looksOf_turn (f : Int) : looksOf (turnW lot W) f = (looksOf W f).map (turnSee lot f) := by
  unfold looksOf turnW
  show List.map _ (List.filter _ (List.map _ _)) = _
  rw [List.filter_map, List.map_map, List.map_map]
  refine List.map_congr_left fun l hl => ?_
  have hf : l.2.1 = f := beq_iff_eq.mp (List.mem_filter.mp hl).2
  show ((turnLook lot l).1, (turnLook lot l).2.2) = turnSee lot f (l.1, l.2.2)
  unfold turnLook turnSee
  rw [hf]
theorem lookN_turn {n : Int} : lkd (turnW lot W).looks n = lkd W.looks n ∧ lkr (turnW lot W).looks n = lkr W.looks n := by
  have key : lookN (turnW lot W).looks n = (if n.toNat < W.looks.length then turnLook lot (lookN W.looks n) else (0, 0, 0)) := by
    unfold lookN turnW
    rw [List.getD_eq_getElem?_getD, List.getElem?_map, List.getD_eq_getElem?_getD]
    by_cases h : n.toNat < W.looks.length
    · rw [if_pos h, List.getElem?_eq_getElem h] <;> rfl
    · rw [if_neg h, List.getElem?_eq_none (by omega)] <;> rfl
  unfold lkd lkr
  rw [key]
  by_cases h : n.toNat < W.looks.length
  · rw [if_pos h]
    exact ⟨rfl, rfl⟩
  · rw [if_neg h]
    have : lookN W.looks n = (0, 0, 0) := by
      unfold lookN
      rw [List.getD_eq_getElem?_getD, List.getElem?_eq_none (by omega)] <;> rfl
    rw [this]
    exact ⟨rfl, rfl⟩
theorem closes_turn (p : List Int) : closesP (turnW lot W).looks p = closesP W.looks p := by
  unfold closesP
  rw [lookN_turn.1, lookN_turn.2]
theorem goesOn_turn (p : List Int) (n : Int) : goesOnP (turnW lot W).looks p n = goesOnP W.looks p n := by
  unfold goesOnP
  have : (lkr (turnW lot W).looks) = lkr W.looks := funext fun n => lookN_turn.2
  rw [this, lookN_turn.1]
theorem longer_turn (p : List Int) : longer (turnW lot W).looks p = longer W.looks p := by
  unfold longer
  have e : goesOnP (turnW lot W).looks p = goesOnP W.looks p := funext fun n => goesOn_turn p n
  have l : (turnW lot W).looks.length = W.looks.length := by show (W.looks.map _).length = _; rw [List.length_map]
  rw [closes_turn, e, l]
theorem level_turn : ∀ k, level (turnW lot W).looks k = level W.looks k
  | 0 => by
    have l : (turnW lot W).looks.length = W.looks.length := by show (W.looks.map _).length = _; rw [List.length_map]
    unfold level
    rw [l]
  | k + 1 => by
    unfold level
    rw [level_turn k]
    have e : longer (turnW lot W).looks = longer W.looks := funext fun p => longer_turn p
    rw [e]
theorem found_turn : ∀ k, foundN (turnW lot W).looks k = foundN W.looks k
  | 0 => rfl
  | k + 1 => by
    unfold foundN
    have e : closesP (turnW lot W).looks = closesP W.looks := funext fun p => closes_turn p
    rw [found_turn k, level_turn k, e]
/-- the rings stay -/
theorem rings_turn : ringsOf (turnW lot W) = ringsOf W := by
  unfold ringsOf ringsRaw
  rw [found_turn]
theorem stAt_turn {st : List Int} {f : Int} (h0 : 0 ≤ f) (h1 : f < st.length) : stAt (turnS lot W st) f = turnM lot W f (stAt st f) := by
  unfold turnS
  show List.getD _ _ _ = _
  rw [List.getD_eq_getElem?_getD, List.getElem?_map, List.getElem?_range (by omega)]
  show turnM lot W ((f.toNat : Nat) : Int) (stAt st ((f.toNat : Nat) : Int)) = _
  rw [show ((f.toNat : Nat) : Int) = f by omega]
theorem turnM_two (f m : Int) : turnM lot W f (turnM lot W f m) = m := by
  unfold turnM
  split <;> omega
theorem turnM_bd {f m : Int} (h : 0 ≤ m ∧ m ≤ topAt W f) : 0 ≤ turnM lot W f m ∧ turnM lot W f m ≤ topAt W f := by
  unfold turnM
  split <;> omega
theorem turnS_len (st : List Int) : (turnS lot W st).length = st.length := by unfold turnS; rw [List.length_map, List.length_range]
theorem turnS_ok {st : List Int} (so : StOk W st) : StOk W (turnS lot W st) := by
  refine ⟨by rw [turnS_len, so.len], fun f h0 h1 => ?_⟩
  rw [stAt_turn h0 (by rw [so.len]; exact h1)]
  exact turnM_bd (so.bd f h0 h1)
theorem turnS_two (st : List Int) : turnS lot W (turnS lot W st) = st := by
  refine List.ext_getElem? fun i => ?_
  by_cases h : i < st.length
  · have e1 := stAt_turn (lot := lot) (W := W) (st := turnS lot W st) (f := (i : Int)) (by omega) (by rw [turnS_len]; omega)
    have e2 := stAt_turn (lot := lot) (W := W) (st := st) (f := (i : Int)) (by omega) (by omega)
    rw [e2, turnM_two] at e1
    have g : ∀ l : List Int, i < l.length → l[i]? = some (stAt l (i : Int)) := fun l hl => stAt_get (st := l) (i := (i : Int)) (by omega) (by omega)
    rw [g _ (by rw [turnS_len, turnS_len]; exact h), g _ h, e1]
  · rw [List.getElem?_eq_none (by rw [turnS_len, turnS_len]; omega), List.getElem?_eq_none (by omega)]
end
end Lk

/-! ## RG -/
set_option Elab.async false
set_option linter.all false
set_option maxRecDepth 100000
set_option maxHeartbeats 2000000
/-! Rules by the looks of a ring: two settled states by an even one, none by an odd one. -/
namespace Lk
open PySem PySem.Spec PyProof.Rows L2 Gx
variable [Own]
/-- all states of the web are rows -/
theorem rows_all : ∀ (tops st p : List Int) (rows : List (List Int)), st.length = tops.length → (∀ i, i < tops.length → 0 ≤ st.getD i 0 ∧ st.getD i 0 ≤ tops.getD i 0) → p ∈ rows → p ++ st ∈ tops.foldl rowsStep rows
  | [], [], p, rows, _, _, h => by simpa using h
  | t :: ts, m :: st, p, rows, hl, hb, h => by
    rw [List.foldl_cons]
    have h0 := hb 0 (by simp)
    simp only [List.getD_cons_zero] at h0
    have := rows_all ts st (p ++ [m]) (rowsStep rows t) (by simpa using hl) (fun i hi => by
      have := hb (i + 1) (by simpa using hi)
      simpa using this) (by
      unfold rowsStep moods
      refine List.mem_flatMap.mpr ⟨p, h, List.mem_map.mpr ⟨m, List.mem_map.mpr ⟨m.toNat, List.mem_range.mpr (by omega), by omega⟩, rfl⟩⟩)
    simpa using this
  | [], _ :: _, _, _, h, _, _ => by simp at h
  | _ :: _, [], _, _, h, _, _ => by simp at h
theorem state_row {W : Web} {st : List Int} (so : StOk W st) : st ∈ rowsOf W.tops := by
  have := rows_all W.tops st [] [[]] so.len (fun i hi => by
    have := so.bd (i : Int) (by omega) (by omega)
    exact this) (by simp)
  unfold rowsOf
  simpa using this
/-- the folk at whom one looks -/
def seenBy (W : Web) (f : Int) : List Int := (looksOf W f).map (·.1)
/-- the mood by a look alone, k the mood seen -/
def byLook (W : Web) (n k : Int) : Int := if (decide (0 < k) == decide (lks W.looks n = 1)) = true then topAt W (lkr W.looks n) else 0
def tableBy (W : Web) (n : Int) : List Int := (rowsAt W (lkr W.looks n)).map fun row => byLook W n (row.getD ((seenBy W (lkr W.looks n)).idxOf (lkd W.looks n)) 0)
/-- which look of the ring is somebody's -/
def ringIx (W : Web) (p : List Int) (f : Int) : Nat := (p.map (lkr W.looks)).idxOf f
def tableRing (W : Web) (p : List Int) (k : Nat) (f : Int) : List Int := if ringIx W p f < k then tableBy W (p.getD (ringIx W p f) 0) else List.replicate (manyRows W f).toNat 0
/-- the rules by the first k looks of a ring -/
def rulesTo (W : Web) (p : List Int) (k : Nat) : List (List Int) := (List.range W.tops.length).map fun f : Nat => tableRing W p k (f : Int)
def rulesBy (W : Web) (p : List Int) : List (List Int) := rulesTo W p p.length
theorem asc_one : ∀ {ls : List Look3}, ls.Pairwise (fun k l => k.1 < l.1 ∨ k.1 = l.1 ∧ k.2.1 < l.2.1) → ∀ {a b : Look3}, a ∈ ls → b ∈ ls → a.1 = b.1 → a.2.1 = b.2.1 → a = b
  | [], _, _, _, h, _, _, _ => by cases h
  | l :: ls, hp, a, b, ha, hb, h1, h2 => by
    obtain ⟨g1, g2⟩ := List.pairwise_cons.mp hp
    rcases List.mem_cons.mp ha with ea | ha
    · rcases List.mem_cons.mp hb with eb | hb
      · rw [ea, eb]
      · have := g1 b hb
        rw [← ea] at this
        omega
    · rcases List.mem_cons.mp hb with eb | hb
      · have := g1 a ha
        rw [← eb] at this
        omega
      · exact asc_one g2 ha hb h1 h2
section
variable {W : Web} {n : Int}
theorem seen_has (h0 : 0 ≤ n) (h1 : n < W.looks.length) : lkd W.looks n ∈ seenBy W (lkr W.looks n) := by
  unfold seenBy looksOf
  rw [List.map_map]
  refine List.mem_map.mpr ⟨lookN W.looks n, List.mem_filter.mpr ⟨lookN_mem h0 h1, beq_self_eq_true _⟩, rfl⟩
/-- the place of the look among its looker's -/
theorem seen_at (ok : W.Ok) (h0 : 0 ≤ n) (h1 : n < W.looks.length) : (looksOf W (lkr W.looks n))[(seenBy W (lkr W.looks n)).idxOf (lkd W.looks n)]? = some (lkd W.looks n, lks W.looks n) := by
  have hlt := List.idxOf_lt_length_of_mem (seen_has h0 h1)
  have hlt2 : (seenBy W (lkr W.looks n)).idxOf (lkd W.looks n) < (looksOf W (lkr W.looks n)).length := by
    have : (seenBy W (lkr W.looks n)).length = (looksOf W (lkr W.looks n)).length := by unfold seenBy; rw [List.length_map]
    omega
  have e0 : (seenBy W (lkr W.looks n))[(seenBy W (lkr W.looks n)).idxOf (lkd W.looks n)]? = some (lkd W.looks n) := by
    rw [List.getElem?_eq_getElem hlt, List.getElem_idxOf hlt]
  generalize (seenBy W (lkr W.looks n)).idxOf (lkd W.looks n) = k at e0 hlt2 ⊢
  unfold seenBy at e0
  rw [List.getElem?_map, List.getElem?_eq_getElem hlt2] at e0
  rw [List.getElem?_eq_getElem hlt2]
  have e1 := Option.some.inj e0
  have hm := List.getElem_mem hlt2
  generalize (looksOf W (lkr W.looks n))[k]'hlt2 = x at e1 hm
  unfold looksOf at hm
  obtain ⟨l, hl, rfl⟩ := List.mem_map.mp hm
  obtain ⟨hl, hf⟩ := List.mem_filter.mp hl
  have hf : l.2.1 = lkr W.looks n := beq_iff_eq.mp hf
  have := asc_one ok.asc hl (lookN_mem h0 h1) e1 hf
  rw [this]
  rfl
theorem goes_ix : ∀ {ss xs ys : List Int} {i : Nat} {s x y : Int}, lawGoes ss xs ys = true → ss[i]? = some s → xs[i]? = some x → ys[i]? = some y → 0 ≤ s * (y - x)
  | [], _, _, _, _, _, _, _, h, _, _ => by simp at h
  | _ :: _, [], _, _, _, _, _, _, _, h, _ => by simp at h
  | _ :: _, _ :: _, [], _, _, _, _, _, _, _, h => by simp at h
  | s :: ss, x :: xs, y :: ys, 0, a, b, c, g, h1, h2, h3 => by
    unfold lawGoes at g
    obtain ⟨g1, _⟩ := Bool.and_eq_true_iff.mp g
    simp only [List.getElem?_cons_zero, Option.some.injEq] at h1 h2 h3
    subst h1 h2 h3
    have : ¬ s * (y - x) < 0 := by simpa using g1
    omega
  | s :: ss, x :: xs, y :: ys, i + 1, a, b, c, g, h1, h2, h3 => by
    unfold lawGoes at g
    obtain ⟨_, g2⟩ := Bool.and_eq_true_iff.mp g
    exact goes_ix g2 (by simpa using h1) (by simpa using h2) (by simpa using h3)
theorem sign_of (ok : W.Ok) (h0 : 0 ≤ n) (h1 : n < W.looks.length) : lks W.looks n = 1 ∨ lks W.looks n = -1 := (ok.look _ (lookN_mem h0 h1)).2.2
theorem looker_ok (ok : W.Ok) (h0 : 0 ≤ n) (h1 : n < W.looks.length) : 0 ≤ lkr W.looks n ∧ lkr W.looks n < W.tops.length := (ok.look _ (lookN_mem h0 h1)).2.1
theorem lookd_ok (ok : W.Ok) (h0 : 0 ≤ n) (h1 : n < W.looks.length) : 0 ≤ lkd W.looks n ∧ lkd W.looks n < W.tops.length := (ok.look _ (lookN_mem h0 h1)).1
theorem tableBy_get {n : Int} {k : Nat} {row : List Int} (h : (rowsAt W (lkr W.looks n))[k]? = some row) : (tableBy W n).getD k 0 = byLook W n (row.getD ((seenBy W (lkr W.looks n)).idxOf (lkd W.looks n)) 0) := by
  unfold tableBy
  rw [List.getD_eq_getElem?_getD, List.getElem?_map, h]
  rfl
theorem tableBy_len (ok : W.Ok) (n : Int) : ((tableBy W n).length : Int) = manyRows W (lkr W.looks n) := by
  unfold tableBy
  rw [List.length_map, rowsAt_rws, rws_len, many_eq ok, pr_prod]
theorem zeros_len (ok : W.Ok) (f : Int) : ((List.replicate (manyRows W f).toNat (0 : Int)).length : Int) = manyRows W f := by
  rw [List.length_replicate, many_eq ok]
  omega
theorem rowsAt_ix {f : Int} {k i : Nat} {row : List Int} {l : Int × Int} (h : (rowsAt W f)[k]? = some row) (hl : (looksOf W f)[i]? = some l) : row[i]? = some (row.getD i 0) := by
  have h1 := rowsAt_row (List.mem_of_getElem? h)
  have h2 := (List.getElem?_eq_some_iff.mp hl).1
  rw [List.getD_eq_getElem?_getD, List.getElem?_eq_getElem (by omega)]
  rfl
theorem tableBy_ok (ok : W.Ok) (h0 : 0 ≤ n) (h1 : n < W.looks.length) : isTable W (lkr W.looks n) (tableBy W n) = true := by
  have hr := looker_ok ok h0 h1
  have ht := topAt_ok ok hr.1 hr.2
  rw [isTable_iff ok]
  refine ⟨?_, fun m hm => ?_, fun p q xp xq g1 g2 g => ?_⟩
  · unfold tableBy
    rw [List.length_map, rowsAt_rws, rws_len]
  · unfold tableBy at hm
    obtain ⟨row, _, rfl⟩ := List.mem_map.mp hm
    unfold byLook
    split <;> omega
  · rw [← rowsAt_rws] at g1 g2
    have hs := seen_at ok h0 h1
    show (tableBy W n).getD p 0 ≤ (tableBy W n).getD q 0
    rw [tableBy_get g1, tableBy_get g2]
    have x1 := rowsAt_ix g1 hs
    have x2 := rowsAt_ix g2 hs
    have g3 : ((axes W (looksOf W (lkr W.looks n))).map (·.2))[(seenBy W (lkr W.looks n)).idxOf (lkd W.looks n)]? = some (lks W.looks n) := by
      unfold axes
      rw [List.map_map, List.getElem?_map, hs]
      rfl
    have hg := goes_ix g g3 x1 x2
    have sgo := sign_of ok h0 h1
    clear g g1 g2 g3 x1 x2 hs
    generalize xp.getD _ 0 = a at hg ⊢
    generalize xq.getD _ 0 = b at hg ⊢
    unfold byLook
    generalize topAt W (lkr W.looks n) = t at ht ⊢
    generalize lks W.looks n = sg at *
    rcases (show sg = 1 ∨ sg = -1 from sgo) with e | e
    · subst e
      by_cases ha : 0 < a <;> by_cases hb : 0 < b <;> simp [ha, hb] <;> omega
    · subst e
      by_cases ha : 0 < a <;> by_cases hb : 0 < b <;> simp [ha, hb] <;> omega
theorem zeros_ok (ok : W.Ok) {f : Int} (hf : 0 ≤ f ∧ f < W.tops.length) : isTable W f (List.replicate (manyRows W f).toNat 0) = true := by
  have ht := topAt_ok ok hf.1 hf.2
  rw [isTable_iff ok]
  refine ⟨?_, fun m hm => ?_, fun p q xp xq g1 g2 g => ?_⟩
  · rw [List.length_replicate, many_eq ok, pr_prod]
    omega
  · rw [List.eq_of_mem_replicate hm]
    omega
  · have z : ∀ k : Nat, (List.replicate (manyRows W f).toNat (0 : Int)).getD k 0 = 0 := fun k => by
      rw [List.getD_eq_getElem?_getD, List.getElem?_replicate]
      split <;> rfl
    show (List.replicate _ _).getD p 0 ≤ (List.replicate _ _).getD q 0
    rw [z, z]
    exact Int.le_refl _
end
end Lk

/-! ## RG2 -/
set_option Elab.async false
set_option linter.all false
set_option maxRecDepth 100000
set_option maxHeartbeats 2000000
namespace Lk
open PySem PySem.Spec PyProof.Rows L2 Gx
variable [Own]
section
variable {W : Web} {p : List Int} {st : List Int}
theorem ruTo_get {k : Nat} {f : Int} (h0 : 0 ≤ f) (h1 : f < W.tops.length) : (rulesTo W p k).getD f.toNat [] = tableRing W p k f := by
  unfold rulesTo
  rw [List.getD_eq_getElem?_getD, List.getElem?_map, List.getElem?_range (by omega)]
  show tableRing W p k ((f.toNat : Nat) : Int) = _
  rw [show ((f.toNat : Nat) : Int) = f by omega]
theorem ringIx_at (pk : PathOk W.looks p) {i : Nat} {a : Int} (h : p[i]? = some a) : ringIx W p (lkr W.looks a) = i := by
  obtain ⟨hi, ha⟩ := List.getElem?_eq_some_iff.mp h
  have := pk.nd.idxOf_getElem i (by rw [List.length_map]; exact hi)
  rw [List.getElem_map, ha] at this
  exact this
theorem ringIx_lt {f : Int} (h : ringIx W p f < p.length) : ∃ a, p[ringIx W p f]? = some a ∧ lkr W.looks a = f := by
  refine ⟨_, List.getElem?_eq_getElem h, ?_⟩
  have h2 : (p.map (lkr W.looks)).idxOf f < (p.map (lkr W.looks)).length := by rw [List.length_map]; exact h
  have := List.getElem_idxOf h2
  rw [List.getElem_map] at this
  exact this
theorem num_at (pk : PathOk W.looks p) {i : Nat} {a : Int} (h : p[i]? = some a) : 0 ≤ a ∧ a < W.looks.length := pk.num a (List.mem_of_getElem? h)
theorem tableRing_ok (ok : W.Ok) (pk : PathOk W.looks p) (k : Nat) {f : Int} (hf : 0 ≤ f ∧ f < W.tops.length) (hk : k ≤ p.length) : isTable W f (tableRing W p k f) = true := by
  unfold tableRing
  split
  · rename_i h
    obtain ⟨a, ha, e⟩ := ringIx_lt (W := W) (p := p) (f := f) (by omega)
    have hn := num_at pk ha
    have e2 : p.getD (ringIx W p f) 0 = a := by rw [List.getD_eq_getElem?_getD, ha] <;> rfl
    rw [e2]
    have := tableBy_ok ok hn.1 hn.2
    rw [e] at this
    exact this
  · exact zeros_ok ok hf
theorem table_len (ok : W.Ok) {f : Int} {tb : List Int} (h : isTable W f tb = true) : (tb.length : Int) = manyRows W f := by
  rw [isTable_iff ok] at h
  rw [h.1, many_eq ok, pr_prod]
theorem many_le (ok : W.Ok) (f : Int) : manyRows W f ≤ 256 := by
  have h := (rowsAt_len ok f).2
  rw [rowsAt_rws, rws_len, pr_prod] at h
  rw [many_eq ok]
  omega
theorem rulesBy_ok (ok : W.Ok) (pk : PathOk W.looks p) : Ru0 W (rulesBy W p) ∧ firstBad W (rulesBy W p) = none := by
  refine ⟨⟨by unfold rulesBy rulesTo; rw [List.length_map, List.length_range], fun t ht => ?_⟩, ?_⟩
  · unfold rulesBy rulesTo at ht
    obtain ⟨f, hf, rfl⟩ := List.mem_map.mp ht
    have hf := List.mem_range.mp hf
    have h1 := table_len ok (tableRing_ok ok pk p.length (f := (f : Int)) ⟨by omega, by omega⟩ (Nat.le_refl _))
    have h2 := many_le ok (f : Int)
    omega
  · unfold firstBad
    rw [List.find?_eq_none]
    intro f hf
    have hf := List.mem_range.mp hf
    have h1 := tableRing_ok ok pk p.length (f := (f : Int)) ⟨by omega, by omega⟩ (Nat.le_refl _)
    have h2 : (rulesBy W p).getD f [] = tableRing W p p.length (f : Int) := ruTo_get (W := W) (p := p) (k := p.length) (f := (f : Int)) (by omega) (by omega)
    rw [h2, h1]
    simp
theorem mood_ring (ok : W.Ok) (pk : PathOk W.looks p) (so : StOk W st) {i : Nat} {a : Int} (h : p[i]? = some a) : moodTold W (rulesBy W p) st (lkr W.looks a) = byLook W a (stAt st (lkd W.looks a)) := by
  have hn := num_at pk h
  have hr := looker_ok ok hn.1 hn.2
  have hi := (List.getElem?_eq_some_iff.mp h).1
  have e1 : tableRing W p p.length (lkr W.looks a) = tableBy W a := by
    unfold tableRing
    rw [ringIx_at pk h, if_pos hi]
    congr 1
    rw [List.getD_eq_getElem?_getD, h] <;> rfl
  unfold moodTold rulesBy
  rw [ruTo_get hr.1 hr.2, e1]
  obtain ⟨_, hp⟩ := place_row (W := W) (st := st) (ls := looksOf W (lkr W.looks a)) fun l hl => so.bd l.1 (looksOf_ok ok l hl).1.1 (looksOf_ok ok l hl).1.2
  rw [← rowsAt_rws] at hp
  unfold placeOf
  rw [tableBy_get hp]
  congr 1
  rw [List.getD_eq_getElem?_getD, List.getElem?_map, seen_at ok hn.1 hn.2]
  rfl
theorem mood_zero {f : Int} (hf : 0 ≤ f ∧ f < W.tops.length) (h : ¬ ringIx W p f < p.length) : moodTold W (rulesBy W p) st f = 0 := by
  unfold moodTold rulesBy
  rw [ruTo_get hf.1 hf.2]
  unfold tableRing
  rw [if_neg h, List.getD_eq_getElem?_getD, List.getElem?_replicate]
  split <;> rfl
/-- above 0 or not, looked along -/
def flipTo (ls : List Look3) : List Int → Bool → Bool
  | [], b => b
  | a :: r, b => flipTo ls r (b == decide (lks ls a = 1))
theorem flip_snoc (ls : List Look3) (a : Int) : ∀ (q : List Int) (b : Bool), flipTo ls (q ++ [a]) b = (flipTo ls q b == decide (lks ls a = 1))
  | [], _ => rfl
  | _ :: q, b => flip_snoc ls a q _
theorem even_cons (ls : List Look3) (a : Int) (r : List Int) : evenP ls (a :: r) = if lks ls a = -1 then !evenP ls r else evenP ls r := by
  unfold evenP
  rw [List.filter_cons]
  by_cases h : lks ls a = -1
  · rw [if_pos h, if_pos (beq_iff_eq.mpr h), List.length_cons]
    generalize (r.filter fun n => lks ls n == -1).length = m
    rw [Bool.eq_iff_iff]
    simp
    omega
  · rw [if_neg h, if_neg (fun z => h (beq_iff_eq.mp z))]
theorem flip_even (ls : List Look3) : ∀ (q : List Int) (b : Bool), (∀ n ∈ q, lks ls n = 1 ∨ lks ls n = -1) → flipTo ls q b = (b == evenP ls q)
  | [], b, _ => by cases b <;> rfl
  | a :: r, b, h => by
    have ih := flip_even ls r (b == decide (lks ls a = 1)) fun n hn => h n (List.mem_cons_of_mem _ hn)
    show flipTo ls r _ = _
    rw [ih, even_cons]
    rcases h a (List.mem_cons_self ..) with e | e
    · rw [e, if_neg (by decide), decide_eq_true rfl]
      cases b <;> rfl
    · rw [e, if_pos rfl, decide_eq_false (by decide)]
      cases b <;> cases evenP ls r <;> rfl
theorem signs_in (ok : W.Ok) (pk : PathOk W.looks p) : ∀ n ∈ p, lks W.looks n = 1 ∨ lks W.looks n = -1 := fun n hn => sign_of ok (pk.num n hn).1 (pk.num n hn).2
theorem above_by (ok : W.Ok) {a : Int} (ha : 0 ≤ a ∧ a < W.looks.length) (m : Int) : decide (0 < byLook W a m) = (decide (0 < m) == decide (lks W.looks a = 1)) := by
  have hr := looker_ok ok ha.1 ha.2
  have ht := topAt_ok ok hr.1 hr.2
  unfold byLook
  cases (decide (0 < m) == decide (lks W.looks a = 1)) with
  | true => rw [if_pos rfl]; exact decide_eq_true (by omega)
  | false => rw [if_neg (by decide)]; rfl
theorem take_one {i : Nat} {a : Int} (h : p[i]? = some a) : p.take (i + 1) = p.take i ++ [a] := by rw [List.take_add_one, h] <;> rfl
theorem last_at (pk : PathOk W.looks p) : p[p.length - 1]? = some (p.getLastD 0) ∧ p.take (p.length - 1 + 1) = p := by
  have : 0 < p.length := List.length_pos_iff.mpr pk.ne
  exact ⟨getLastD_get pk.ne, List.take_of_length_le (by omega)⟩
theorem head_at (pk : PathOk W.looks p) : p[0]? = some (p.headD 0) := by
  have := pk.ne
  cases p with
  | nil => exact absurd rfl this
  | cons a b => rfl
/-- an odd ring: no state is settled -/
theorem odd_none (ok : W.Ok) (pk : PathOk W.looks p) (hc : closesP W.looks p = true) (ho : evenP W.looks p = false) : settledStates W (rulesBy W p) = [] := by
  rw [List.eq_nil_iff_forall_not_mem]
  intro st hs
  obtain ⟨h1, h2⟩ := List.mem_filter.mp hs
  have h2 : stateTold W (rulesBy W p) st = st := of_decide_eq_true h2
  have so := rows_st h1
  have key : ∀ (i : Nat) (a : Int), p[i]? = some a → decide (0 < stAt st (lkr W.looks a)) = (decide (0 < stAt st (lkd W.looks a)) == decide (lks W.looks a = 1)) := fun i a h => by
    have hn := num_at pk h
    have hr := looker_ok ok hn.1 hn.2
    have e := told_at (W := W) (ru := rulesBy W p) (st := st) (f := lkr W.looks a) hr.1 (by rw [so.len]; exact hr.2)
    rw [h2, mood_ring ok pk so h] at e
    rw [e, above_by ok hn]
  have along : ∀ (i : Nat) (a : Int), p[i]? = some a → decide (0 < stAt st (lkr W.looks a)) = flipTo W.looks (p.take (i + 1)) (decide (0 < stAt st (lkd W.looks (p.headD 0)))) := by
    intro i
    induction i with
    | zero =>
      intro a h
      have e := head_at pk
      rw [h] at e
      cases e
      rw [key 0 _ h, take_one h]
      rfl
    | succ j ih =>
      intro a h
      obtain ⟨a', h'⟩ : ∃ a', p[j]? = some a' := ⟨_, List.getElem?_eq_getElem (by have := (List.getElem?_eq_some_iff.mp h).1; omega)⟩
      have hch := pk.chain j a' a h' h
      rw [key _ _ h, take_one h, flip_snoc, ← ih a' h', hch]
  obtain ⟨l1, l2⟩ := last_at pk
  have e := along _ _ l1
  rw [l2, flip_even _ _ _ (signs_in ok pk), ho, show lkr W.looks (p.getLastD 0) = lkd W.looks (p.headD 0) from beq_iff_eq.mp hc] at e
  cases h : decide (0 < stAt st (lkd W.looks (p.headD 0))) <;> rw [h] at e <;> cases e
/-- a state along an even ring -/
def ringMood (W : Web) (p : List Int) (b : Bool) (f : Int) : Int := if (decide (ringIx W p f < p.length) && flipTo W.looks (p.take (ringIx W p f + 1)) b) = true then topAt W f else 0
def ringState (W : Web) (p : List Int) (b : Bool) : List Int := (List.range W.tops.length).map fun f : Nat => ringMood W p b (f : Int)
theorem ringState_at {b : Bool} {f : Int} (h0 : 0 ≤ f) (h1 : f < W.tops.length) : stAt (ringState W p b) f = ringMood W p b f := by
  unfold stAt ringState
  rw [List.getD_eq_getElem?_getD, List.getElem?_map, List.getElem?_range (by omega)]
  show ringMood W p b ((f.toNat : Nat) : Int) = _
  rw [show ((f.toNat : Nat) : Int) = f by omega]
theorem ringState_ok (ok : W.Ok) {b : Bool} : StOk W (ringState W p b) := by
  refine ⟨by unfold ringState; rw [List.length_map, List.length_range], fun f h0 h1 => ?_⟩
  have ht := topAt_ok ok h0 h1
  rw [ringState_at h0 h1]
  unfold ringMood
  split <;> omega
theorem ringMood_at (ok : W.Ok) (pk : PathOk W.looks p) {b : Bool} {i : Nat} {a : Int} (h : p[i]? = some a) : decide (0 < stAt (ringState W p b) (lkr W.looks a)) = flipTo W.looks (p.take (i + 1)) b := by
  have hn := num_at pk h
  have hr := looker_ok ok hn.1 hn.2
  have ht := topAt_ok ok hr.1 hr.2
  rw [ringState_at hr.1 hr.2]
  unfold ringMood
  rw [ringIx_at pk h, decide_eq_true (List.getElem?_eq_some_iff.mp h).1, Bool.true_and]
  cases flipTo W.looks (p.take (i + 1)) b with
  | true => rw [if_pos rfl]; exact decide_eq_true (by omega)
  | false => rw [if_neg (by decide)]; rfl
theorem ringState_set (ok : W.Ok) (pk : PathOk W.looks p) (hc : closesP W.looks p = true) (he : evenP W.looks p = true) (b : Bool) : ringState W p b ∈ settledStates W (rulesBy W p) := by
  have so := ringState_ok (p := p) (b := b) ok
  refine List.mem_filter.mpr ⟨state_row so, decide_eq_true ?_⟩
  have hl := so.len
  conv => rhs; unfold ringState
  unfold stateTold
  rw [hl]
  refine List.map_congr_left fun f hf => ?_
  have hf := List.mem_range.mp hf
  have hff : 0 ≤ (f : Int) ∧ (f : Int) < W.tops.length := ⟨by omega, by omega⟩
  by_cases hi : ringIx W p (f : Int) < p.length
  · obtain ⟨a, ha, e⟩ := ringIx_lt hi
    have hn := num_at pk ha
    have seen : decide (0 < stAt (ringState W p b) (lkd W.looks a)) = flipTo W.looks (p.take (ringIx W p (f : Int))) b := by
      generalize ringIx W p (f : Int) = i at ha
      cases i with
      | zero =>
        have e0 := head_at pk
        rw [ha] at e0
        cases e0
        obtain ⟨l1, l2⟩ := last_at pk
        have hm := ringMood_at ok pk (b := b) l1
        rw [l2, flip_even _ _ _ (signs_in ok pk), he, show lkr W.looks (p.getLastD 0) = lkd W.looks (p.headD 0) from beq_iff_eq.mp hc] at hm
        rw [hm]
        cases b <;> rfl
      | succ j =>
        obtain ⟨a', h'⟩ : ∃ a', p[j]? = some a' := ⟨_, List.getElem?_eq_getElem (by have := (List.getElem?_eq_some_iff.mp ha).1; omega)⟩
        rw [← pk.chain j a' a h' ha]
        exact ringMood_at ok pk h'
    have hm := mood_ring ok pk so ha
    rw [e] at hm
    rw [hm]
    unfold byLook ringMood
    rw [seen, decide_eq_true hi, Bool.true_and, take_one ha, flip_snoc, e]
  · rw [mood_zero hff hi]
    unfold ringMood
    rw [decide_eq_false hi, Bool.false_and, if_neg (by decide)]
theorem two_in {α : Type} {l : List α} {x y : α} (hx : x ∈ l) (hy : y ∈ l) (h : x ≠ y) : 2 ≤ l.length := by
  match l, hx, hy with
  | [z], hx, hy => exact absurd ((List.mem_singleton.mp hx).trans (List.mem_singleton.mp hy).symm) h
  | _ :: _ :: _, _, _ => simp
/-- an even ring: two settled states -/
theorem even_two (ok : W.Ok) (pk : PathOk W.looks p) (hc : closesP W.looks p = true) (he : evenP W.looks p = true) : 2 ≤ (settledStates W (rulesBy W p)).length := by
  refine two_in (ringState_set ok pk hc he true) (ringState_set ok pk hc he false) fun z => ?_
  obtain ⟨l1, l2⟩ := last_at pk
  have h1 := ringMood_at ok pk (b := true) l1
  have h2 := ringMood_at ok pk (b := false) l1
  rw [l2, flip_even _ _ _ (signs_in ok pk), he] at h1 h2
  rw [z, h2] at h1
  cases h1
end
end Lk

/-! ## TN2 -/
set_option Elab.async false
set_option linter.all false
set_option maxRecDepth 100000
set_option maxHeartbeats 2000000
namespace Lk
open PySem PySem.Spec PyProof.Rows L2 Gx
variable [Own]
section
variable {W : Web} {lot : Lot}
theorem lks_turn (ok : W.Ok) {n : Int} (h0 : 0 ≤ n) (h1 : n < W.looks.length) : decide (lks (turnW lot W).looks n = 1) = (decide (lks W.looks n = 1) == (lot (lkd W.looks n) == lot (lkr W.looks n))) := by
  have e : lks (turnW lot W).looks n = if lot (lkd W.looks n) = lot (lkr W.looks n) then lks W.looks n else -lks W.looks n := by
    unfold lks lookN turnW
    rw [List.getD_eq_getElem?_getD, List.getElem?_map, List.getElem?_eq_getElem (show n.toNat < W.looks.length by omega)]
    show (turnLook lot _).2.2 = _
    unfold turnLook lkd lkr lookN
    rw [List.getD_eq_getElem?_getD, List.getElem?_eq_getElem (show n.toNat < W.looks.length by omega)]
    rfl
  rw [e]
  have hs := sign_of ok h0 h1
  generalize lks W.looks n = s at hs ⊢
  generalize lot (lkd W.looks n) = x
  generalize lot (lkr W.looks n) = y
  rcases hs with rfl | rfl <;> cases x <;> cases y <;> decide
/-- a ring stays even, odd -/
theorem even_turn (ok : W.Ok) {p : List Int} (pk : PathOk W.looks p) (hc : closesP W.looks p = true) : evenP (turnW lot W).looks p = evenP W.looks p := by
  have along : ∀ (i : Nat) (a : Int), p[i]? = some a → flipTo (turnW lot W).looks (p.take (i + 1)) (true ^^ lot (lkd W.looks (p.headD 0))) = (flipTo W.looks (p.take (i + 1)) true ^^ lot (lkr W.looks a)) := by
    intro i
    induction i with
    | zero =>
      intro a h
      have e := head_at pk
      rw [h] at e
      cases e
      have hn := num_at pk h
      rw [take_one h]
      show (_ == _) = ((_ == _) ^^ _)
      rw [lks_turn ok hn.1 hn.2]
      generalize decide (lks W.looks (p.headD 0) = 1) = s
      generalize lot (lkd W.looks (p.headD 0)) = x
      generalize lot (lkr W.looks (p.headD 0)) = y
      cases s <;> cases x <;> cases y <;> rfl
    | succ j ih =>
      intro a h
      obtain ⟨a', h'⟩ : ∃ a', p[j]? = some a' := ⟨_, List.getElem?_eq_getElem (by have := (List.getElem?_eq_some_iff.mp h).1; omega)⟩
      have hn := num_at pk h
      rw [take_one h, flip_snoc, flip_snoc, ih a' h', pk.chain j a' a h' h, lks_turn ok hn.1 hn.2]
      generalize flipTo W.looks (p.take (j + 1)) true = z
      generalize decide (lks W.looks a = 1) = s
      generalize lot (lkd W.looks a) = x
      generalize lot (lkr W.looks a) = y
      cases z <;> cases s <;> cases x <;> cases y <;> rfl
  obtain ⟨l1, l2⟩ := last_at pk
  have e := along _ _ l1
  have pk2 : ∀ n ∈ p, lks (turnW lot W).looks n = 1 ∨ lks (turnW lot W).looks n = -1 := fun n hn => by
    have := pk.num n hn
    exact sign_of (turnW_ok ok) this.1 (by show n < ((W.looks.map _).length : Int); rw [List.length_map]; exact this.2)
  rw [l2, flip_even _ _ _ pk2, flip_even _ _ _ (signs_in ok pk), show lkr W.looks (p.getLastD 0) = lkd W.looks (p.headD 0) from beq_iff_eq.mp hc] at e
  revert e
  generalize lot (lkd W.looks (p.headD 0)) = x
  cases evenP (turnW lot W).looks p <;> cases evenP W.looks p <;> cases x <;> decide
/-- a row of moods seen by f, turned over -/
def turnRow (lot : Lot) (W : Web) : List (Int × Int) → List Int → List Int
  | l :: ls, x :: xs => turnM lot W l.1 x :: turnRow lot W ls xs
  | _, _ => []
theorem turnRow_two : ∀ {ls : List (Int × Int)} {xs : List Int}, xs.length = ls.length → turnRow lot W ls (turnRow lot W ls xs) = xs
  | [], [], _ => rfl
  | l :: ls, x :: xs, h => by
    show turnM lot W l.1 (turnM lot W l.1 x) :: turnRow lot W ls (turnRow lot W ls xs) = _
    rw [turnM_two, turnRow_two (by simpa using h)]
  | [], _ :: _, h => by simp at h
  | _ :: _, [], h => by simp at h
theorem turnRow_st {st : List Int} (so : StOk W st) : ∀ {ls : List (Int × Int)}, (∀ l ∈ ls, 0 ≤ l.1 ∧ l.1 < W.tops.length) → ls.map (fun l => stAt (turnS lot W st) l.1) = turnRow lot W ls (ls.map fun l => stAt st l.1)
  | [], _ => rfl
  | l :: ls, h => by
    have h0 := h l (List.mem_cons_self ..)
    rw [List.map_cons, List.map_cons, stAt_turn h0.1 (by rw [so.len]; exact h0.2), turnRow_st so fun x hx => h x (List.mem_cons_of_mem _ hx)]
    rfl
/-- rows within the tops -/
def RowOk (W : Web) : List (Int × Int) → List Int → Prop
  | [], [] => True
  | l :: ls, x :: xs => (0 ≤ x ∧ x ≤ topAt W l.1) ∧ RowOk W ls xs
  | _, _ => False
theorem rowOk_len : ∀ {ls : List (Int × Int)} {xs : List Int}, RowOk W ls xs → xs.length = ls.length
  | [], [], _ => rfl
  | l :: ls, x :: xs, h => by simp [rowOk_len h.2]
  | [], _ :: _, h => h.elim
  | _ :: _, [], h => h.elim
theorem rowOk_turn : ∀ {ls : List (Int × Int)} {xs : List Int}, RowOk W ls xs → RowOk W ls (turnRow lot W ls xs)
  | [], [], _ => trivial
  | l :: ls, x :: xs, h => ⟨turnM_bd h.1, rowOk_turn h.2⟩
  | [], _ :: _, h => h.elim
  | _ :: _, [], h => h.elim
theorem rowOk_mem : ∀ {ls : List (Int × Int)} {xs : List Int}, (∀ l ∈ ls, 0 ≤ topAt W l.1) → (xs ∈ rws (axes W ls) ↔ RowOk W ls xs)
  | [], xs, _ => by
    unfold axes rws
    cases xs with
    | nil => simp [RowOk]
    | cons x xs => simp [RowOk]
  | l :: ls, xs, ht => by
    have h0 := ht l (List.mem_cons_self ..)
    have ih := fun ys => rowOk_mem (ls := ls) (xs := ys) fun x hx => ht x (List.mem_cons_of_mem _ hx)
    show xs ∈ rws (((topAt W l.1 + 1).toNat, l.2) :: axes W ls) ↔ _
    rw [rws_cons]
    constructor
    · intro h
      obtain ⟨x, hx, h⟩ := List.mem_flatMap.mp h
      obtain ⟨ys, hy, rfl⟩ := List.mem_map.mp h
      have hx := List.mem_range.mp hx
      exact ⟨⟨by omega, by have : x < (topAt W l.1 + 1).toNat := hx; omega⟩, (ih ys).mp hy⟩
    · intro h
      cases xs with
      | nil => exact h.elim
      | cons x ys =>
        obtain ⟨h1, h2⟩ := h
        refine List.mem_flatMap.mpr ⟨x.toNat, List.mem_range.mpr (by show x.toNat < (topAt W l.1 + 1).toNat; omega), List.mem_map.mpr ⟨ys, (ih ys).mpr h2, ?_⟩⟩
        rw [show ((x.toNat : Nat) : Int) = x by omega]
theorem rowsAt_ok (ok : W.Ok) {f : Int} {xs : List Int} : xs ∈ rowsAt W f ↔ RowOk W (looksOf W f) xs := by
  rw [rowsAt_rws]
  refine rowOk_mem fun l hl => ?_
  have h := (looksOf_ok ok l hl).1
  have := topAt_ok ok h.1 h.2
  omega
theorem rowOk_see (f : Int) : ∀ {ls : List (Int × Int)} {xs : List Int}, RowOk (turnW lot W) (ls.map (turnSee lot f)) xs ↔ RowOk W ls xs
  | [], [] => Iff.rfl
  | l :: ls, x :: xs => by
    show (_ ∧ RowOk _ _ _) ↔ _
    rw [rowOk_see f (ls := ls) (xs := xs)]
    exact Iff.rfl
  | [], _ :: _ => Iff.rfl
  | _ :: _, [] => Iff.rfl
end
end Lk

/-! ## TN3 -/
set_option Elab.async false
set_option linter.all false
set_option maxRecDepth 100000
set_option maxHeartbeats 2000000
namespace Lk
open PySem PySem.Spec PyProof.Rows L2 Gx
variable [Own]
/-- a table, turned -/
def tableTurn (lot : Lot) (W : Web) (f : Int) (tb : List Int) : List Int := (rowsAt W f).map fun row => turnM lot W f (tb.getD ((rowsAt W f).idxOf (turnRow lot W (looksOf W f) row)) 0)
def rulesTurn (lot : Lot) (W : Web) (ru : List (List Int)) : List (List Int) := (List.range ru.length).map fun f : Nat => tableTurn lot W (f : Int) (ru.getD f [])
section
variable {W : Web} {lot : Lot} {f : Int} {tb : List Int} {ru : List (List Int)} {st : List Int}
theorem rowsAt_turn : rowsAt (turnW lot W) f = rowsAt W f := by
  unfold rowsAt
  rw [looksOf_turn, List.map_map]
  rfl
theorem idx_row {k : Nat} {row : List Int} (h : (rowsAt W f)[k]? = some row) : (rowsAt W f).idxOf row = k := by
  have hlt := List.idxOf_lt_length_of_mem (List.mem_of_getElem? h)
  have h2 : (rowsAt W f)[(rowsAt W f).idxOf row]? = some row := by rw [List.getElem?_eq_getElem hlt, List.getElem_idxOf hlt]
  rw [rowsAt_rws] at h h2 ⊢
  exact rws_inj h2 h
theorem row_at {row : List Int} (h : row ∈ rowsAt W f) : (rowsAt W f)[(rowsAt W f).idxOf row]? = some row := by
  have hlt := List.idxOf_lt_length_of_mem h
  rw [List.getElem?_eq_getElem hlt, List.getElem_idxOf hlt]
theorem tabT_get {k : Nat} {row : List Int} (h : (rowsAt W f)[k]? = some row) : (tableTurn lot W f tb).getD k 0 = turnM lot W f (tb.getD ((rowsAt W f).idxOf (turnRow lot W (looksOf W f) row)) 0) := by
  unfold tableTurn
  rw [List.getD_eq_getElem?_getD, List.getElem?_map, h]
  rfl
theorem turn_mem (ok : W.Ok) {row : List Int} (h : row ∈ rowsAt W f) : turnRow lot W (looksOf W f) row ∈ rowsAt W f := (rowsAt_ok ok).mpr (rowOk_turn ((rowsAt_ok ok).mp h))
theorem goes_out (hf : lot f = false) : ∀ {ls : List (Int × Int)} {xs ys : List Int}, lawGoes ((ls.map (turnSee lot f)).map (·.2)) xs ys = true → xs.length = ls.length → ys.length = ls.length → lawGoes (ls.map (·.2)) (turnRow lot W ls xs) (turnRow lot W ls ys) = true
  | [], [], [], _, _, _ => rfl
  | l :: ls, x :: xs, y :: ys, g, h1, h2 => by
    obtain ⟨g1, g2⟩ := Bool.and_eq_true_iff.mp (show (_ && _) = true from g)
    have ih := goes_out hf g2 (by simpa using h1) (by simpa using h2)
    refine Bool.and_eq_true_iff.mpr ⟨?_, ih⟩
    have g0 : ¬ (turnSee lot f l).2 * (y - x) < 0 := by simpa using g1
    clear g1
    have g1 : ¬ (if lot l.1 = lot f then l.2 else -l.2) * (y - x) < 0 := g0
    have : ¬ l.2 * (turnM lot W l.1 y - turnM lot W l.1 x) < 0 := by
      unfold turnM
      rw [hf] at g1
      cases hl : lot l.1 with
      | false =>
        rw [hl, if_pos rfl] at g1
        simpa using g1
      | true =>
        rw [hl, if_neg (by decide)] at g1
        rw [if_pos rfl, if_pos rfl, show topAt W l.1 - y - (topAt W l.1 - x) = -(y - x) by omega, Int.mul_neg]
        rw [Int.neg_mul] at g1
        exact g1
    simpa using this
  | [], _ :: _, _, _, h, _ => by simp at h
  | [], [], _ :: _, _, _, h => by simp at h
  | _ :: _, [], _, _, h, _ => by simp at h
  | _ :: _, _ :: _, [], _, _, h => by simp at h
theorem goes_in (hf : lot f = true) : ∀ {ls : List (Int × Int)} {xs ys : List Int}, lawGoes ((ls.map (turnSee lot f)).map (·.2)) xs ys = true → xs.length = ls.length → ys.length = ls.length → lawGoes (ls.map (·.2)) (turnRow lot W ls ys) (turnRow lot W ls xs) = true
  | [], [], [], _, _, _ => rfl
  | l :: ls, x :: xs, y :: ys, g, h1, h2 => by
    obtain ⟨g1, g2⟩ := Bool.and_eq_true_iff.mp (show (_ && _) = true from g)
    have ih := goes_in hf g2 (by simpa using h1) (by simpa using h2)
    refine Bool.and_eq_true_iff.mpr ⟨?_, ih⟩
    have g0 : ¬ (turnSee lot f l).2 * (y - x) < 0 := by simpa using g1
    clear g1
    have g1 : ¬ (if lot l.1 = lot f then l.2 else -l.2) * (y - x) < 0 := g0
    have : ¬ l.2 * (turnM lot W l.1 x - turnM lot W l.1 y) < 0 := by
      unfold turnM
      rw [hf] at g1
      cases hl : lot l.1 with
      | true =>
        rw [hl, if_pos rfl] at g1
        rw [if_pos rfl, if_pos rfl, show topAt W l.1 - x - (topAt W l.1 - y) = y - x by omega]
        exact g1
      | false =>
        rw [hl, if_neg (by decide), Int.neg_mul] at g1
        rw [if_neg (by decide), if_neg (by decide), show x - y = -(y - x) by omega, Int.mul_neg]
        exact g1
    simpa using this
  | [], _ :: _, _, _, h, _ => by simp at h
  | [], [], _ :: _, _, _, h => by simp at h
  | _ :: _, [], _, _, h, _ => by simp at h
  | _ :: _, _ :: _, [], _, _, h => by simp at h
theorem tab_in (ok : W.Ok) (h : isTable W f tb = true) {row : List Int} (hr : row ∈ rowsAt W f) : 0 ≤ tb.getD ((rowsAt W f).idxOf row) 0 ∧ tb.getD ((rowsAt W f).idxOf row) 0 ≤ topAt W f := by
  have h' := h
  rw [isTable_iff ok] at h
  have hlt := List.idxOf_lt_length_of_mem hr
  have hl : tb.length = (rowsAt W f).length := by rw [h.1, rowsAt_rws, rws_len]
  refine h.2.1 _ ?_
  rw [List.getD_eq_getElem?_getD, List.getElem?_eq_getElem (by omega)]
  exact List.getElem_mem _
/-- a turned table is one of the turned web -/
theorem table_turn (ok : W.Ok) (h : isTable W f tb = true) : isTable (turnW lot W) f (tableTurn lot W f tb) = true := by
  have al := ((isTable_iff ok).mp h).2.2
  have ok2 := turnW_ok (lot := lot) ok
  rw [isTable_iff ok2]
  have ea : rws (axes (turnW lot W) (looksOf (turnW lot W) f)) = rowsAt W f := by rw [← rowsAt_rws, rowsAt_turn]
  refine ⟨?_, fun m hm => ?_, fun p q xp xq h1 h2 g => ?_⟩
  · rw [← rws_len, ea]
    unfold tableTurn
    rw [List.length_map]
  · unfold tableTurn at hm
    obtain ⟨row, hr, rfl⟩ := List.mem_map.mp hm
    exact turnM_bd (tab_in ok h (turn_mem ok hr))
  · rw [ea] at h1 h2
    show (tableTurn lot W f tb).getD p 0 ≤ (tableTurn lot W f tb).getD q 0
    rw [tabT_get h1, tabT_get h2]
    have m1 := turn_mem (lot := lot) ok (List.mem_of_getElem? h1)
    have m2 := turn_mem (lot := lot) ok (List.mem_of_getElem? h2)
    have r1 := row_at m1
    have r2 := row_at m2
    have l1 := rowsAt_row (List.mem_of_getElem? h1)
    have l2 := rowsAt_row (List.mem_of_getElem? h2)
    have eg : (axes (turnW lot W) (looksOf (turnW lot W) f)).map (·.2) = ((looksOf W f).map (turnSee lot f)).map (·.2) := by
      rw [looksOf_turn]
      unfold axes
      rw [List.map_map]
      rfl
    have eg2 : (axes W (looksOf W f)).map (·.2) = (looksOf W f).map (·.2) := by
      unfold axes
      rw [List.map_map]
      rfl
    rw [eg] at g
    unfold turnM
    cases hf : lot f with
    | true =>
      rw [if_pos rfl, if_pos rfl]
      have := al _ _ _ _ (by rw [← rowsAt_rws]; exact r2) (by rw [← rowsAt_rws]; exact r1) (by rw [eg2]; exact goes_in hf g l1 l2)
      show topAt W f - _ ≤ topAt W f - _
      have this : tb.getD _ 0 ≤ tb.getD _ 0 := this
      omega
    | false =>
      rw [if_neg (by decide), if_neg (by decide)]
      exact al _ _ _ _ (by rw [← rowsAt_rws]; exact r1) (by rw [← rowsAt_rws]; exact r2) (by rw [eg2]; exact goes_out hf g l1 l2)
theorem turnRow_see : ∀ {ls : List (Int × Int)} {xs : List Int}, turnRow lot (turnW lot W) (ls.map (turnSee lot f)) xs = turnRow lot W ls xs
  | [], _ => rfl
  | _ :: _, [] => rfl
  | l :: ls, x :: xs => by
    show turnM lot (turnW lot W) l.1 x :: turnRow lot (turnW lot W) (ls.map (turnSee lot f)) xs = turnM lot W l.1 x :: _
    rw [turnRow_see (ls := ls) (xs := xs)]
    rfl
/-- turned twice: the table again -/
theorem table_two (ok : W.Ok) (hl : tb.length = (rowsAt W f).length) : tableTurn lot (turnW lot W) f (tableTurn lot W f tb) = tb := by
  refine List.ext_getElem? fun k => ?_
  have l1 : (tableTurn lot (turnW lot W) f (tableTurn lot W f tb)).length = (rowsAt W f).length := by
    unfold tableTurn
    rw [List.length_map, rowsAt_turn]
  by_cases hk : k < (rowsAt W f).length
  · have g : ∀ l : List Int, k < l.length → l[k]? = some (l.getD k 0) := fun l h => by rw [List.getD_eq_getElem?_getD, List.getElem?_eq_getElem h] <;> rfl
    rw [g _ (by omega), g _ (by omega)]
    congr 1
    have hrow := List.getElem?_eq_getElem hk
    generalize (rowsAt W f)[k] = row at hrow
    have hm := List.mem_of_getElem? hrow
    rw [tabT_get (W := turnW lot W) (row := row) (by rw [rowsAt_turn]; exact hrow), rowsAt_turn, looksOf_turn, turnRow_see, tabT_get (row_at (turn_mem ok hm)), turnRow_two (rowsAt_row hm), idx_row hrow]
    exact turnM_two (W := W) f _
  · rw [List.getElem?_eq_none (by omega), List.getElem?_eq_none (by omega)]
/-- what a turned table tells in a turned state -/
theorem mood_turn (ok : W.Ok) (rok : RuOk W ru) (so : StOk W st) (h0 : 0 ≤ f) (h1 : f < W.tops.length) : moodTold (turnW lot W) (rulesTurn lot W ru) (turnS lot W st) f = turnM lot W f (moodTold W ru st f) := by
  have bd := fun l hl => so.bd (l : Int × Int).1 (looksOf_ok (f := f) ok l hl).1.1 (looksOf_ok (f := f) ok l hl).1.2
  obtain ⟨_, hp⟩ := place_row (W := W) (st := st) (ls := looksOf W f) bd
  have so2 := turnS_ok (lot := lot) so
  obtain ⟨_, hp2⟩ := place_row (W := turnW lot W) (st := turnS lot W st) (ls := looksOf (turnW lot W) f) fun l hl => so2.bd l.1 (looksOf_ok (turnW_ok ok) l hl).1.1 (looksOf_ok (turnW_ok ok) l hl).1.2
  rw [← rowsAt_rws] at hp hp2
  have er : ((looksOf (turnW lot W) f).map fun l => stAt (turnS lot W st) l.1) = turnRow lot W (looksOf W f) ((looksOf W f).map fun l => stAt st l.1) := by
    rw [looksOf_turn, List.map_map, ← turnRow_st so fun l hl => (looksOf_ok ok l hl).1]
    rfl
  rw [er, rowsAt_turn] at hp2
  have eg : (rulesTurn lot W ru).getD f.toNat [] = tableTurn lot W f (ru.getD f.toNat []) := by
    unfold rulesTurn
    rw [List.getD_eq_getElem?_getD, List.getElem?_map, List.getElem?_range (by rw [rok.len]; omega)]
    show tableTurn lot W ((f.toNat : Nat) : Int) _ = _
    rw [show ((f.toNat : Nat) : Int) = f by omega]
  unfold moodTold
  rw [eg]
  unfold placeOf
  rw [tabT_get hp2, turnRow_two (by rw [List.length_map]), idx_row hp]
theorem told_turn (ok : W.Ok) (rok : RuOk W ru) (so : StOk W st) : stateTold (turnW lot W) (rulesTurn lot W ru) (turnS lot W st) = turnS lot W (stateTold W ru st) := by
  unfold stateTold
  rw [turnS_len]
  unfold turnS
  rw [List.length_map, List.length_range]
  refine List.map_congr_left fun f hf => ?_
  have hf := List.mem_range.mp hf
  have hl := so.len
  rw [show (List.range st.length).map (fun f : Nat => turnM lot W (f : Int) (stAt st (f : Int))) = turnS lot W st from rfl, mood_turn ok rok so (by omega) (by omega)]
  congr 1
  exact (told_at (W := W) (ru := ru) (st := st) (f := (f : Int)) (by omega) (by omega)).symm
end
end Lk

/-! ## TN4 -/
set_option Elab.async false
set_option linter.all false
set_option maxRecDepth 100000
set_option maxHeartbeats 2000000
namespace Lk
open PySem PySem.Spec PyProof.Rows L2 Gx
variable [Own]
section
variable {W : Web} {lot : Lot} {ru : List (List Int)} {st : List Int}
theorem rulesT_get {f : Nat} (h : f < ru.length) : (rulesTurn lot W ru).getD f [] = tableTurn lot W (f : Int) (ru.getD f []) := by
  unfold rulesTurn
  rw [List.getD_eq_getElem?_getD, List.getElem?_map, List.getElem?_range h]
  rfl
theorem rulesT_len : (rulesTurn lot W ru).length = ru.length := by unfold rulesTurn; rw [List.length_map, List.length_range]
theorem tableT_len (f : Int) (tb : List Int) : (tableTurn lot W f tb).length = (rowsAt W f).length := by unfold tableTurn; rw [List.length_map]
/-- turned rules are rules of the turned web -/
theorem rulesT_ok (ok : W.Ok) (r0 : Ru0 W ru) (hb : firstBad W ru = none) : Ru0 (turnW lot W) (rulesTurn lot W ru) ∧ firstBad (turnW lot W) (rulesTurn lot W ru) = none := by
  refine ⟨⟨by rw [rulesT_len]; exact r0.len, fun t ht => ?_⟩, ?_⟩
  · unfold rulesTurn at ht
    obtain ⟨f, _, rfl⟩ := List.mem_map.mp ht
    rw [tableT_len]
    have := (rowsAt_len ok (f : Int)).2
    omega
  · unfold firstBad
    rw [List.find?_eq_none]
    intro f hf
    have hf : f < W.tops.length := List.mem_range.mp hf
    rw [rulesT_get (by rw [r0.len]; exact hf)]
    have h := firstBad_none hb (f : Int) (by omega) (by omega)
    have h : isTable W (f : Int) (ru.getD f []) = true := h
    rw [table_turn ok h]
    simp
theorem rules_two (ok : W.Ok) (r0 : Ru0 W ru) (hb : firstBad W ru = none) : rulesTurn lot (turnW lot W) (rulesTurn lot W ru) = ru := by
  refine List.ext_getElem? fun f => ?_
  by_cases hf : f < ru.length
  · have g : ∀ l : List (List Int), f < l.length → l[f]? = some (l.getD f []) := fun l h => by rw [List.getD_eq_getElem?_getD, List.getElem?_eq_getElem h] <;> rfl
    rw [g _ (by rw [rulesT_len, rulesT_len]; exact hf), g _ hf, rulesT_get (by rw [rulesT_len]; exact hf), rulesT_get hf]
    congr 1
    refine table_two ok ?_
    have hf2 : f < W.tops.length := by rw [← r0.len]; exact hf
    have h : isTable W (f : Int) (ru.getD f []) = true := firstBad_none hb (f : Int) (by omega) (by omega)
    rw [((isTable_iff ok).mp h).1, rowsAt_rws, rws_len]
  · rw [List.getElem?_eq_none (by rw [rulesT_len, rulesT_len]; omega), List.getElem?_eq_none (by omega)]
theorem ticks_turn (ok : W.Ok) (r0 : Ru0 W ru) (hb : firstBad W ru = none) (so : StOk W st) : ∀ n, ticks (turnW lot W) (rulesTurn lot W ru) (turnS lot W st) n = turnS lot W (ticks W ru st n)
  | 0 => rfl
  | n + 1 => by
    show stateTold _ _ (ticks _ _ _ n) = _
    rw [ticks_turn ok r0 hb so n, told_turn ok (rules_ok r0 hb) (ticks_ok ok r0 hb so n)]
    rfl
/-- a state is settled exactly if it is, turned, in the turned web -/
theorem settled_turn (ok : W.Ok) (r0 : Ru0 W ru) (hb : firstBad W ru = none) (so : StOk W st) : (turnS lot W st ∈ settledStates (turnW lot W) (rulesTurn lot W ru)) ↔ st ∈ settledStates W ru := by
  have row : ∀ {s : List Int}, StOk W s → s ∈ rowsOf W.tops := fun h => state_row h
  have so2 := turnS_ok (lot := lot) so
  unfold settledStates
  rw [List.mem_filter, List.mem_filter, decide_eq_true_iff, decide_eq_true_iff, told_turn ok (rules_ok r0 hb) so]
  constructor
  · rintro ⟨_, h⟩
    refine ⟨row so, ?_⟩
    have := congrArg (turnS lot W) h
    rw [turnS_two, turnS_two] at this
    exact this
  · rintro ⟨_, h⟩
    exact ⟨row so2, by rw [h]⟩
theorem turn_inj {a b : List Int} (h : turnS lot W a = turnS lot W b) : a = b := by
  have := congrArg (turnS lot W) h
  rwa [turnS_two, turnS_two] at this
end
/-- rows up to tops: ascending -/
theorem moods_asc (t : Int) : (moods t).Pairwise (· < ·) := by
  unfold moods
  refine List.pairwise_map.mpr ?_
  refine List.Pairwise.imp (fun {a b} h => ?_) List.pairwise_lt_range
  exact Int.ofNat_lt.mpr h
/-- before, as rows stand -/
def rowLt : List Int → List Int → Prop
  | a :: p, b :: q => a < b ∨ a = b ∧ rowLt p q
  | _, _ => False
theorem rowLt_snoc {p q : List Int} (x y : Int) (h : rowLt p q) : rowLt (p ++ [x]) (q ++ [y]) := by
  induction p generalizing q with
  | nil => cases q <;> exact h.elim
  | cons a p ih =>
    cases q with
    | nil => exact h.elim
    | cons b q =>
      rcases h with h | ⟨e, h⟩
      · exact .inl h
      · exact .inr ⟨e, ih h⟩
theorem rowLt_last {x y : Int} (h : x < y) : ∀ p : List Int, rowLt (p ++ [x]) (p ++ [y])
  | [] => .inl h
  | _ :: p => .inr ⟨rfl, rowLt_last h p⟩
theorem step_asc {rows : List (List Int)} (h : rows.Pairwise rowLt) (t : Int) : (rowsStep rows t).Pairwise rowLt := by
  unfold rowsStep
  induction rows with
  | nil => exact .nil
  | cons r rows ih =>
    obtain ⟨h1, h2⟩ := List.pairwise_cons.mp h
    rw [List.flatMap_cons, List.pairwise_append]
    refine ⟨List.pairwise_map.mpr ((moods_asc t).imp fun {a b} h => rowLt_last h r), ih h2, fun a ha b hb => ?_⟩
    obtain ⟨x, _, rfl⟩ := List.mem_map.mp ha
    obtain ⟨r2, hr2, hb⟩ := List.mem_flatMap.mp hb
    obtain ⟨y, _, rfl⟩ := List.mem_map.mp hb
    exact rowLt_snoc x y (h1 r2 hr2)
theorem rows_asc (tops : List Int) : (rowsOf tops).Pairwise rowLt := by
  unfold rowsOf
  have : ∀ (ts : List Int) (rows : List (List Int)), rows.Pairwise rowLt → (ts.foldl rowsStep rows).Pairwise rowLt := by
    intro ts
    induction ts with
    | nil => exact fun _ h => h
    | cons t ts ih => exact fun rows h => ih _ (step_asc h t)
  exact this tops [[]] (List.pairwise_singleton ..)
theorem settled_asc (W : Web) (ru : List (List Int)) : (settledStates W ru).Pairwise rowLt := (rows_asc W.tops).filter _
end Lk

/-! ## TN5 -/
set_option Elab.async false
set_option linter.all false
set_option maxRecDepth 100000
set_option maxHeartbeats 2000000
namespace Lk
open PySem PySem.Spec PyProof.Rows L2 Gx
variable [Own]
theorem toks_lt : ∀ {a b : List Int}, rowLt a b → PyProof.Rows.lexLt PyProof.Rows.itemOrd (PySem.W.keyToksAll (a.map PyData.int)) (PySem.W.keyToksAll (b.map PyData.int)) = true
  | x :: a, y :: b, h => by
    show PyProof.Rows.lexLt PyProof.Rows.itemOrd (.inl 1 :: .inl x :: PySem.W.keyToksAll (a.map PyData.int)) (.inl 1 :: .inl y :: PySem.W.keyToksAll (b.map PyData.int)) = true
    refine PyProof.Rows.lex_true.mpr (.inr ⟨rfl, PyProof.Rows.lex_true.mpr ?_⟩)
    rcases h with h | ⟨e, h⟩
    · exact .inl (show decide (x < y) = true from decide_eq_true h)
    · exact .inr ⟨show decide (y < x) = false from decide_eq_false (by omega), toks_lt h⟩
  | [], _, h => h.elim
  | _ :: _, [], h => h.elim
theorem toks_inj : ∀ {a b : List Int}, PySem.W.keyToksAll (a.map PyData.int) = PySem.W.keyToksAll (b.map PyData.int) → a = b
  | [], [], _ => rfl
  | x :: a, y :: b, h => by
    have h : (Sum.inl 1 :: Sum.inl x :: PySem.W.keyToksAll (a.map PyData.int) : List (Int ⊕ List Nat)) = .inl 1 :: .inl y :: PySem.W.keyToksAll (b.map PyData.int) := h
    have h1 := (List.cons.inj (List.cons.inj h).2)
    rw [Sum.inl.inj h1.1, toks_inj h1.2]
  | [], _ :: _, h => by
    have h : (Sum.inl 0 :: [] : List (Int ⊕ List Nat)) = .inl 1 :: _ := h
    cases h
  | _ :: _, [], h => by
    have h : (Sum.inl 1 :: _ : List (Int ⊕ List Nat)) = .inl 0 :: [] := h
    cases h
theorem le_row {a b : List Int} (h : rowLt a b) : PySem.W.dataLe false dI a b = true := by
  show (!PyProof.Rows.lexLt PyProof.Rows.itemOrd (PySem.W.keyToksAll (b.map PyData.int)) (PySem.W.keyToksAll (a.map PyData.int))) = true
  rw [Bool.not_eq_true', ← Bool.not_eq_true]
  intro z
  have := PyProof.Rows.lex_trans _ _ _ z (toks_lt h)
  rw [PyProof.Rows.lex_irrefl] at this
  cases this
theorem le_anti {a b : List Int} (h1 : PySem.W.dataLe false dI a b = true) (h2 : PySem.W.dataLe false dI b a = true) : a = b := by
  have h1 : (!PyProof.Rows.lexLt PyProof.Rows.itemOrd (PySem.W.keyToksAll (b.map PyData.int)) (PySem.W.keyToksAll (a.map PyData.int))) = true := h1
  have h2 : (!PyProof.Rows.lexLt PyProof.Rows.itemOrd (PySem.W.keyToksAll (a.map PyData.int)) (PySem.W.keyToksAll (b.map PyData.int))) = true := h2
  rw [Bool.not_eq_true'] at h1 h2
  exact toks_inj (PyProof.Rows.lex_total _ _ h2 h1)
/-- rows sorted are the ascending row of the same things -/
theorem sortT_asc {rows asc : List (List Int)} (h : asc.Pairwise rowLt) (p : rows.Perm asc) : sortT rows = asc :=
  List.Perm.eq_of_pairwise (le := fun a b => PySem.W.dataLe false dI a b = true) (fun a b _ _ h1 h2 => le_anti h1 h2) (PySem.W.sort_pairwise (PySem.W.sortLe_total _ _ _) rows) (h.imp le_row) ((sortT_perm rows).trans p)
theorem rowLt_irrefl : ∀ a : List Int, ¬ rowLt a a
  | [], h => h
  | x :: a, h => by
    rcases h with h | ⟨_, h⟩
    · omega
    · exact rowLt_irrefl a h
theorem asc_nodup {l : List (List Int)} (h : l.Pairwise rowLt) : l.Nodup := h.imp fun {a b} (hh : rowLt a b) (e : a = b) => rowLt_irrefl b (by rw [e] at hh; exact hh)
section
variable {W : Web} {lot : Lot} {ru : List (List Int)}
/-- the settled states, turned and sorted -/
theorem settled_turned (ok : W.Ok) (r0 : Ru0 W ru) (hb : firstBad W ru = none) : sortT ((settledStates W ru).map (turnS lot W)) = settledStates (turnW lot W) (rulesTurn lot W ru) := by
  refine sortT_asc (settled_asc _ _) ?_
  have n1 : ((settledStates W ru).map (turnS lot W)).Nodup := List.pairwise_map.mpr ((asc_nodup (settled_asc W ru)).imp fun {a b} h e => h (turn_inj e))
  refine (List.perm_ext_iff_of_nodup n1 (asc_nodup (settled_asc _ _))).mpr fun s => ?_
  constructor
  · intro h
    obtain ⟨st, hst, rfl⟩ := List.mem_map.mp h
    have so := rows_st (List.mem_filter.mp hst).1
    exact (settled_turn ok r0 hb so).mpr hst
  · intro h
    have so : StOk W s := rows_st (W := W) (List.mem_filter.mp h).1
    refine List.mem_map.mpr ⟨turnS lot W s, ?_, turnS_two s⟩
    rw [← turnS_two (W := W) (lot := lot) s] at h
    exact (settled_turn ok r0 hb (turnS_ok so)).mp h
end
end Lk

/-! ## D70 -/
set_option Elab.async false
set_option linter.all false
set_option maxRecDepth 100000
set_option maxHeartbeats 4000000
namespace Lk
open PySem PySem.Spec PyProof.Rows L2 Gx
open GxR (TabG Tabbed TabB)
variable [Own]
/-- the lot, as asked -/
def lotB (L : List Int) : Lot := fun f => L.contains f
def spMoodTurned : Sp := fun vs H Q _ => ∃ (v l : V) (W : Web) (L : List Int) (f m : Int), vs = [v, .int f, .int m, l] ∧ WebAt H v W ∧ (0 ≤ f ∧ f < W.tops.length) ∧ TI H l L ∧ L.length ≤ 100 ∧ Q (.int (turnM (lotB L) W f m)) H
def spTableTurned : Sp := fun vs H Q _ => ∃ (v t l : V) (W : Web) (L : List Int) (f : Int) (tb : List Int), vs = [v, .int f, t, l] ∧ WebAt H v W ∧ W.Ok ∧ (0 ≤ f ∧ f < W.tops.length) ∧ TI H t tb ∧ isTable W f tb = true ∧ TI H l L ∧ L.length ≤ 100 ∧ ∀ H' q, Ext H H' → H' q = some (.tup (iv (tableTurn (lotB L) W f tb))) → Q (.ref q) H'
theorem turnRow_zip (lot : Lot) (W : Web) : ∀ (ls : List (Int × Int)) (xs : List Int), turnRow lot W ls xs = ((ls.map (·.1)).zip xs).map fun p => turnM lot W p.1 p.2
  | [], _ => by simp [turnRow]
  | _ :: _, [] => by simp [turnRow]
  | l :: ls, x :: xs => by
    show turnM lot W l.1 x :: turnRow lot W ls xs = _
    rw [turnRow_zip lot W ls xs]
    rfl
section
variable {P : Program} {w : World} {K : PySem.W.Frag} {mg : Str → Option Value} {base : Heap} {Ps : List Addr}
end
end Lk


/-! ## ForW -/
set_option Elab.async false
set_option linter.all false
set_option maxRecDepth 100000
set_option maxHeartbeats 2000000
namespace Lk
open PySem PySem.Spec PyProof.Rows L2 Gx
variable [Own]
/-- a for over any walk -/
theorem for_walk {J : It} {n : Nat} {G : Hp → Prop} {Y : Nat → Hp → V → Hp → Prop} (w : Walk J n G Y) {g : TG} {tb : TS} {D : Ends} {σ : L2.St} {H : Hp} (Pv : Nat → L2.St → Hp → Prop) (h0 : Pv 0 σ H) (hG : ∀ i σ H, i ≤ n → Pv i σ H → G H)
    (hs : ∀ i x σ H H', i < n → Pv i σ H → Y i H x H' → g x σ H' fun σ2 H2 => tb { nx := Pv (i + 1), rt := D.rt, bk := D.nx, ct := Pv (i + 1) } σ2 H2) (hd : ∀ σ H, Pv n σ H → D.nx σ H) :
    ∃ W : Nat → Nat → L2.St → Hp → Prop, (∃ m, W 0 m σ H) ∧ ∀ i m σ H, W i m σ H → J.stop i H ∧ D.nx σ H ∨ J.go i H ∧
      ∃ N : L2.St → Hp → Prop, (∀ σ' H', N σ' H' → ∃ m', m' < m ∧ W (i + 1) m' σ' H') ∧ ∀ x H', J.yld i H x H' → g x σ H' fun σ2 H2 => tb { nx := N, rt := D.rt, bk := D.nx, ct := N } σ2 H2 := by
  refine ⟨fun i m σ H => m = n - i ∧ i ≤ n ∧ Pv i σ H, ⟨n, by simp, Nat.zero_le _, h0⟩, ?_⟩
  rintro i m σ H ⟨rfl, hi, p⟩
  have q := hG i σ H hi p
  by_cases hlt : i < n
  · exact .inr ⟨w.goes i H hlt q, Pv (i + 1), fun σ' H' p' => ⟨n - (i + 1), by omega, rfl, hlt, p'⟩, fun x H' y => hs i x σ H H' hlt p (w.yields i H x H' hlt q y)⟩
  · have e : i = n := by omega
    subst e
    exact .inl ⟨w.stops H q, hd σ H p⟩
end Lk

/-! ## EnumT -/
set_option Elab.async false
set_option linter.all false
set_option maxRecDepth 100000
set_option maxHeartbeats 2000000
/-! enumerate of a tuple. -/
namespace Lk
open PySem PySem.Spec PyProof.Rows L2 Gx
variable [Own]
abbrev enumO (e : Addr) : Obj := { cls := .type "enumerate", data := .fields #[.none, .bool false, .ref e, rawInt 0, .none, .none] }
theorem enum_class (v : Value) : Builtin.SmallTypes.newClass "enumerate" { pos := [.type "enumerate", v] } = pure (.type "enumerate", [v]) := by
  first
  | rfl
  | with_unfolding_all rfl
  | (unfold Builtin.SmallTypes.newClass
     simp only [PySem.F.called_enumerate.sub]
     rfl)
theorem wp_ite {α : Type} {M : Model} {A : Around} {E : Value → Shared → Prop} {s : Shared} {c : Prop} [Decidable c] {X Y : Sem α} {Q : α → Shared → Prop} (h1 : wpAny M A X Q E s) (h2 : wpAny M A Y Q E s) : wpAny M A (if c then X else Y) Q E s := by
  by_cases h : c
  · rw [if_pos h]; exact h1
  · rw [if_neg h]; exact h2
theorem enum_new {prog : Program} {w : World} {A : Around} {E : Value → Shared → Prop} {s : Shared} {v : Value} {o : Obj} {H : Heap → Prop} {Q : PySem.Fin → Shared → Prop} (B : Begins v o H) (h : H s.heap)
    (q : Q (.done (.ret (.ref (s.heap.objs.size + 1)))) { s with heap := (s.heap.push o).push (enumO s.heap.objs.size) }) :
    wpAny (model prog w) A (Builtin.«enumerate.__new__» { pos := [.type "enumerate", v] }) Q E s := by
  unfold Builtin.«enumerate.__new__»
  refine wpAny_bind ?_
  rw [enum_class]
  refine wpAny_pure ?_
  dsimp only
  rw [if_pos (by first | rfl | decide)]
  refine wpAny_bind ?_
  unfold Builtin.SmallTypes.calledThroughType
  refine wpAny_bind (wpAny_stack_any fun st => wpAny_pure ?_)
  have core : wpAny (model prog w) A (do
      let it ← pyIter v
      let r ← Builtin.SmallTypes.newRecord (.type "enumerate") (Builtin.SmallTypes.ownedTupleFields ++ [it, rawInt 0, .none, .none])
      ret r) Q E s := by
    refine wpAny_bind (B.iter prog w A E s _ h ?_)
    refine wpAny_bind ?_
    refine wpAny_newObj_type (T := "enumerate") (data := .fields #[.none, .bool false, .ref s.heap.objs.size, rawInt 0, .none, .none]) ?_
    refine wpAny_pure ?_
    show Q (.done (.ret (.ref (s.heap.push o).objs.size))) _
    rw [Heap.size_push]
    exact q
  refine wp_ite ?_ ?_
  · refine wpAny_bind ?_
    show wpAny _ _ (pure (v, none)) _ _ _
    exact wpAny_pure core
  · refine wpAny_bind ?_
    show wpAny _ _ (pure (v, none)) _ _ _
    exact wpAny_pure core
theorem enum_call {prog : Program} {w : World} {A : Around} {E : Value → Shared → Prop} {s : Shared} {v : Value} {o : Obj} {H : Heap → Prop} {Q : Value → Shared → Prop} (B : Begins v o H) (h : H s.heap)
    (q : Q (.ref (s.heap.objs.size + 1)) { s with heap := (s.heap.push o).push (enumO s.heap.objs.size) }) : wpAny (model prog w) A (call (.type "enumerate") [v]) Q E s := by
  refine callType_codes (Q₁ := fun r s₁ => r = .ref (s.heap.objs.size + 1) ∧ s₁ = { s with heap := (s.heap.push o).push (enumO s.heap.objs.size) }) PySem.F.called_enumerate (PySem.F.typeCall_enumerate_1 v) PySem.F.entry_object_init ?_ ?_
  · refine codeAny_call_builtin PySem.F.called_enumerate.plain PySem.F.entry_enumerate_new ?_
    rw [PySem.F.newCall_enumerate_1]
    refine wpAny_pure ?_
    refine enum_new B h ?_
    exact ⟨rfl, rfl⟩
  · rintro obj s₁ ⟨rfl, rfl⟩
    have g : ((s.heap.push o).push (enumO s.heap.objs.size)).get? (s.heap.objs.size + 1) = some (enumO s.heap.objs.size) := by heap_get
    have ty : ({ s with heap := (s.heap.push o).push (enumO s.heap.objs.size) } : Shared).TypeIs (.ref (s.heap.objs.size + 1)) "enumerate" := by
      first
      | exact ⟨_, g, rfl⟩
      | exact Shared.typeIs_ref g rfl
    refine ⟨ty, PySem.F.args_object_init_2 _ _, ?_⟩
    have M := object_init_meets (T := "enumerate") (newId := "enumerate.__new__") (self := .ref (s.heap.objs.size + 1)) (rest := [v]) (by first | rfl | decide +kernel) PySem.F.called_enumerate.made (by decide)
    exact M prog w A.in1 (wants (fun r s₂ => r = .none ∧ Q (.ref (s.heap.objs.size + 1)) s₂) E) _ ⟨ty, rfl, q⟩
def Iett (a : Addr) : It where
  go i H := ∃ xs : List V, H a = some (.tup xs) ∧ i < xs.length
  yld i H v H' := ∃ T x, v = .ref T ∧ H T = none ∧ H' = upd H T (.tup [.int (i : Nat), x]) ∧ ∀ xs : List V, H a = some (.tup xs) → xs[i]? = some x
  stop i H := ∃ xs : List V, H a = some (.tup xs) ∧ i = xs.length
abbrev tnE (e it a : Addr) : Nat → Heap → Prop := fun i h => (∃ old, IsEnum h e it (0 + (i : Int)) old) ∧ h.IsTupleIter it a i
section
variable {P : Program} {w : World} {K : PySem.W.Frag}
theorem turn_enumT {elts : List Expr} {kk : Nat} {tpos : Pos} {a e it : Addr} (n1 : a ≠ it) (n2 : e ≠ it) (n3 : e ≠ a) : Turn P w K (.Tuple elts kk tpos) (Iett a) [e, it] e (tnE e it a) := by
  refine ⟨List.mem_cons_self .., ?_, ?_, ?_, ?_, ?_⟩
  · rintro i h ⟨⟨old, he⟩, ⟨o1, h1, c1, d1⟩⟩ q hq
    simp only [List.mem_cons, List.mem_nil_iff, or_false] at hq
    rcases hq with rfl | rfl
    · exact ⟨_, he, fun v e => by cases e⟩
    · exact ⟨_, h1, fun v e => by rw [d1] at e; cases e⟩
  · rintro i h h' ⟨⟨old, he⟩, ⟨o1, h1, c1, d1⟩⟩ kp
    exact ⟨⟨old, kp e (by simp) _ he⟩, ⟨o1, kp it (by simp) _ h1, c1, d1⟩⟩
  · rintro X rfl rfl rfl calm i pins s σ H E I hfp ⟨he, h1⟩ ⟨xs, ea, hi⟩
    obtain ⟨its1, v1, g1, s1⟩ := I.tuple (SqT.of ea)
    have hA : X.A.in1.handled = none := I.ok.hd calm
    have G := GoesN.enumFrom (prog := X.prog) (w := X.w) (A := X.A) (elts := elts) (x1 := kk) (pos := tpos) 0 (Draws.tuple hA it a n1 its1.toArray) e n2 (by simp [n2, n3]) (by simp)
    have l1 := paired_len v1
    refine G.goes i s _ E (by simp only [List.size_toArray]; omega) ⟨he, ⟨h1, istup_is g1⟩⟩ ?_
    rintro v h' tk ⟨T, t, x, rfl, hT, p1, hI⟩ ⟨qe, ⟨q1, _⟩⟩ kp ht
    obtain ⟨x', e1, r1⟩ := vals_arr v1 p1
    have hT0 : H T = none := I.hok.fresh hT
    have I2 := I.turnedNew (h' := h') (t' := tk) (ch := [e, it]) (T := T) (ob := .tup [.int (i : Nat), x']) kp (fun q hq => hfp q hq) hT (by
        unfold ObjOk
        refine ⟨by show 2 ≤ sizeLine; decide, [.int (0 + (i : Int)) t, x], .cons ⟨t, by rw [Int.zero_add]⟩ (.cons r1 .nil), hI⟩)
    refine ⟨.ref T, _, I2, rfl, ⟨T, x', rfl, hT0, rfl, ?_⟩, ⟨qe, q1⟩, fun q hq => ?_⟩
    · intro xs' fa
      rw [ea] at fa
      cases fa
      exact e1
    · obtain ⟨hn, _⟩ := hfp q hq
      obtain ⟨o, ho⟩ : ∃ o, s.heap.get? q = some o := by
        obtain ⟨old, he⟩ := he
        obtain ⟨o1, h1, _⟩ := h1
        simp only [List.mem_cons, List.mem_nil_iff, or_false] at hq
        rcases hq with rfl | rfl
        · exact ⟨_, he⟩
        · exact ⟨_, h1⟩
      have : q ≠ T := fun e => by
        rw [e] at ho
        exact absurd (get_lt ho) (Nat.not_lt.mpr hT)
      rw [upd_ne this]
      exact hn
  · rintro X rfl rfl rfl calm i pins s σ H E I hfp ⟨he, h1⟩ ⟨xs, ea, hi⟩
    obtain ⟨its1, v1, g1, s1⟩ := I.tuple (SqT.of ea)
    have hA : X.A.in1.handled = none := I.ok.hd calm
    have G := GoesN.enumFrom (prog := X.prog) (w := X.w) (A := X.A) (elts := elts) (x1 := kk) (pos := tpos) 0 (Draws.tuple hA it a n1 its1.toArray) e n2 (by simp [n2, n3]) (by simp)
    have l1 := paired_len v1
    have en : its1.toArray.size = i := by simp only [List.size_toArray]; omega
    refine G.stops s _ E (by rw [en]; exact ⟨he, ⟨h1, istup_is g1⟩⟩) ?_
    intro h' tk kp ht
    exact I.turnedL (h' := h') (t' := tk) (ch := [e, it]) kp (fun q hq => hfp q hq)
  · rintro A i s Q E ⟨⟨old, he⟩, _⟩ q
    exact wpAny_pyIter_enum he q
def iEnumT (ta : TA) : L2.TI := fun σ H R => ta σ H fun vs H1 => ∃ (a : Addr) (xs : List V), vs = [.ref a] ∧ H1 a = some (.tup xs) ∧ R (Iett a) H1
theorem pi_enumT {X : Cx} {e : Expr} {ta : TA} {p pos tpos : Pos} {elts : List Expr} {kk : Nat} (hg : Gl X "enumerate") (hm : X.mg "enumerate" = none) (ha : PA X [e] ta)
    (hs : starEach [e] X.env = (false, eval e X.env) :: starEach [] X.env := by rfl) (hpl : (backTo pos (starEach [] X.env)).any (·.1) = false := by rfl) :
    PI X (.Tuple elts kk tpos) (.Call (.Name "enumerate" p) [e] [] pos) (iEnumT ta) := by
  refine ⟨fun pins s σ H R I h => ?_⟩
  refine Call_ (ld_blt I hg hm boot_enumerate (PyProof.Rows.callWith_type1 (thn (ha.run pos pins s σ H _ I h) fun us s2 q => ?_) hs hpl))
  obtain ⟨vs, H2, I2, rv, a, xs, rfl, ea, r⟩ := q
  cases rv with
  | cons r1 rv =>
  cases rv
  cases r1
  obtain ⟨its1, v1, g1, s1⟩ := I2.tuple (SqT.of ea)
  have la : a < s2.heap.objs.size := by obtain ⟨o, g, _⟩ := g1; exact get_lt g
  refine enum_call (begins_tuple a its1.toArray) (istup_is g1) ?_
  have kp : ∀ (b : Addr) (o' : Obj), s2.heap.get? b = some o' → ((s2.heap.push { cls := .type "tuple_iterator", data := .fields #[.ref a, .int 0 0] }).push (enumO s2.heap.objs.size)).get? b = some o' := fun b o' h => Heap.get?_push_of_some _ (Heap.get?_push_of_some _ h)
  have ge : ((s2.heap.push { cls := .type "tuple_iterator", data := .fields #[.ref a, .int 0 0] }).push (enumO s2.heap.objs.size)).get? (s2.heap.objs.size + 1) = some (enumO s2.heap.objs.size) := by heap_get
  have gi : ((s2.heap.push { cls := .type "tuple_iterator", data := .fields #[.ref a, .int 0 0] }).push (enumO s2.heap.objs.size)).get? s2.heap.objs.size = some { cls := .type "tuple_iterator", data := .fields #[.ref a, .int 0 0] } := by heap_get
  refine wpAny_pyIter_enum ge ?_
  have I3 : L2.Inv X pins σ H2 { heap := (s2.heap.push { cls := .type "tuple_iterator", data := .fields #[.ref a, .int 0 0] }).push (enumO s2.heap.objs.size), gens := s2.gens, drawn := s2.drawn, toks := s2.toks, os := s2.os } := I2.kept kp
  refine ⟨_, _, _, _, H2, rfl, I3, turn_enumT (a := a) (e := s2.heap.objs.size + 1) (it := s2.heap.objs.size) (Nat.ne_of_lt la) (Nat.succ_ne_self _) (fun e => absurd la (by rw [← e]; exact Nat.not_lt.mpr (Nat.le_succ _))), ⟨⟨_, ge⟩, ⟨_, gi, rfl, rfl⟩⟩, fun q hq => ?_, r⟩
  have hq2 : s2.heap.objs.size ≤ q := by
    simp only [List.mem_cons, List.mem_nil_iff, or_false] at hq
    rcases hq with h | h <;> (rw [h]; simp)
  exact I2.fpOk hq2 (I2.hok.fresh hq2)
theorem walk_enumT {a : Addr} {xs : List V} : Walk (Iett a) xs.length (fun H => H a = some (.tup xs)) (fun i H v H' => ∃ T x, v = .ref T ∧ H T = none ∧ H' = upd H T (.tup [.int (i : Nat), x]) ∧ xs[i]? = some x) := by
  refine ⟨fun i H hi h => ⟨xs, h, hi⟩, fun H h => ⟨xs, h, rfl⟩, fun i H x H' hi h y => ?_⟩
  obtain ⟨T, x', e, h0, e2, q⟩ := y
  exact ⟨T, x', e, h0, e2, q xs h⟩
end
end Lk

/-! ## D33c -/
set_option Elab.async false
set_option linter.all false
set_option maxRecDepth 100000
set_option maxHeartbeats 4000000
namespace Lk
open PySem PySem.Spec PyProof.Rows L2 Gx
open GxR (TabG Tabbed TabB)
variable [Own]
/-- rules that are none are not asked here -/
def spCheckRules0 (Ps : List Addr) : Sp := fun vs H Q _ => ∃ (v r : V) (W : Web) (ru : List (List Int)), vs = [v, r] ∧ WebAt H v W ∧ W.Ok ∧ TT2 H r ru ∧ Ru0 W ru ∧ firstBad W ru = none ∧ Tabs Ps H ∧ ∀ H', Ext H H' → Q .non H'
def spSettled0 (Ps : List Addr) : Sp := fun vs H Q _ => ∃ (v r : V) (W : Web) (ru : List (List Int)), vs = [v, r] ∧ WebAt H v W ∧ W.Ok ∧ TT2 H r ru ∧ Ru0 W ru ∧ firstBad W ru = none ∧ Tabs Ps H ∧ ∀ H' u, Ext H H' → TT2 H' (.ref u) (settledStates W ru) → Q (.ref u) H'
section
variable {P : Program} {w : World} {K : PySem.W.Frag} {mg : Str → Option Value} {base : Heap} {Ps : List Addr}
end
end Lk


/-! ## SetI -/
set_option Elab.async false
set_option linter.all false
set_option maxRecDepth 100000
set_option maxHeartbeats 2000000
/-! set(t) of a tuple of ints, sorted again. -/
namespace Lk
open PySem PySem.Spec PyProof.Rows L2 Gx
variable [Own]
def rSetOfI (w : World) : List V → Hp → VK → Prop := fun vs H Q => ∃ (l : Addr) (ns : List Int), vs = [.ref l] ∧ H l = some (.tup (iv ns)) ∧ ns.length < 60 ∧ ∀ p n, n ≤ ns.length → H p = none → Q (.ref p) (upd H p (SetO w p (fun j => decide (j ∈ ns)) n))
theorem cr_setOfI {X : Cx} (hc : X.calm = true) : CallR X (.type "set") (rSetOfI X.w) := by
  intro pins s σ H vs us Q I r h
  obtain ⟨l, ns, rfl, hl, few, q⟩ := h
  rw [Vals.ref1 r]
  obtain ⟨its, hv, ht, _⟩ := I.tuple (SqT.of hl)
  refine call_set_tupI (items := its.toArray) ns (I.ok.hd hc) (istup_is ht) (by simpa using RZ.intsAre_vals hv) (Nat.lt_trans (Nat.add_lt_add_right few 1) (by decide)) fun h' tk c R hle keep => ?_
  exact ⟨.ref s.heap.objs.size, _, I.laid (t' := tk) (o := SetO X.w s.heap.objs.size (fun j => decide (j ∈ ns)) c) keep (Nat.le_refl _) (setO_new R), rfl, q _ c hle (I.hok.fresh (Nat.le_refl _))⟩
/-- ascending: sorted(set(t)) is t -/
theorem asc_ints {a b : List Int} (ha : a.Pairwise (· < ·)) (hb : b.Pairwise (· < ·)) (h : ∀ x, x ∈ a ↔ x ∈ b) : a = b := asc_eq (f := fun x : Int => x) ha hb h
end Lk

/-! ## OpLI -/
set_option Elab.async false
set_option linter.all false
set_option maxRecDepth 100000
set_option maxHeartbeats 2000000
namespace Lk
open PySem PySem.Spec PyProof.Rows L2 Gx
variable [Own]
/-- t[a:b], one tuple of these or another -/
def rSlU : V → Option Int → Option Int → Hp → VK → Prop := fun x lo hi H Q => ∃ a xs, x = .ref a ∧ H a = some (.tup xs) ∧ ∀ H' p, Ext H H' → H' p = some (.tup (cutV xs lo hi)) → Q (.ref p) H'
theorem sl_tU {X : Cx} : SlR X rSlU := by
  intro pins s σ H x v vl vu lo hi sl Q I rx hs h1 h2 h
  obtain ⟨a, xs, rfl, ha, k⟩ := h
  refine sl_tupA pins s σ H _ v vl vu lo hi sl Q I rx hs h1 h2 ⟨a, xs, rfl, SqT.of ha, fun hf => k H a (Ext.refl H) ?_, fun _ p hp => k _ p (Ext.new hp _) upd_same⟩
  rw [ha]
  unfold cutV
  rw [hf.1, hf.2]
  simp
/-- t + u, one tuple of these or another -/
def rCatU : R2 := fun x y H Q => ∃ a b xs ys, x = .ref a ∧ y = .ref b ∧ H a = some (.tup xs) ∧ H b = some (.tup ys) ∧ xs.length + ys.length ≤ sizeLine ∧ ∀ H' p, Ext H H' → H' p = some (.tup (xs ++ ys)) → Q (.ref p) H'
theorem op_catU {X : Cx} : OpR X (binaryOp .Add) rCatU := by
  intro pins s σ H x y v u Q I rx ry h
  obtain ⟨a, b, xs, ys, e1, e2, h1, h2, hl, k⟩ := h
  refine op_catTT pins s σ H x y v u Q I rx ry ⟨a, b, xs, ys, e1, e2, h1, h2, hl, fun e => ?_, fun _ e => ?_, fun _ _ p hp => k _ p (Ext.new hp _) upd_same⟩
  · subst e
    exact k H b (Ext.refl H) h2
  · subst e
    exact k H a (Ext.refl H) (by rw [List.append_nil]; exact h1)
/-- two lists of ints -/
def rNeLI : R2 := fun x y H Q => ∃ a b : List Int, LI H x a ∧ LI H y b ∧ Q (.bl (!decide (a = b))) H
def rEqLI : R2 := fun x y H Q => ∃ a b : List Int, LI H x a ∧ LI H y b ∧ Q (.bl (decide (a = b))) H
theorem eqv_li (a b : List Int) : PyData.eqv (.list (a.map .int)) (.list (b.map .int)) = decide (a = b) := by
  simp only [PyData.eqv]
  exact eqvAll_ints a b
theorem LI.dp {K : PySem.W.Frag} {H : Hp} {v : V} {ns : List Int} (h : LI H v ns) : Dp K H v (.list (ns.map .int)) := by
  obtain ⟨a, rfl, h⟩ := h
  exact .lst (SqL.of h) (dpAll_ints ns)
theorem op_eqLI {X : Cx} (hu : X.A.units + 64 < cLine) : OpR X (compareOp .Eq) rEqLI := by
  intro pins s σ H x y v u Q I rx ry h
  obtain ⟨a, b, h1, h2, q⟩ := h
  exact op_eqD hu pins s σ H x y v u Q I rx ry ⟨_, _, h1.dp, h2.dp, shaped_li a, shaped_li b, by rw [eqv_li]; exact q⟩
theorem op_neLI {X : Cx} (hu : X.A.units + 64 < cLine) : OpR X (compareOp .NotEq) rNeLI := by
  intro pins s σ H x y v u Q I rx ry h
  obtain ⟨a, b, h1, h2, q⟩ := h
  exact op_neD hu pins s σ H x y v u Q I rx ry ⟨_, _, h1.dp, h2.dp, shaped_li a, shaped_li b, by rw [eqv_li]; exact q⟩
theorem sIx_nat (n d k : Nat) (h : k ≤ n) : HT.sIx n d (some (k : Int)) = k := by
  show (if (k : Int) < 0 then ((k : Int) + n).toNat else min (k : Int).toNat n) = k
  rw [if_neg (by omega)]
  omega
theorem cut_take (xs : List V) (n : Nat) (h : n ≤ xs.length) : cutV xs none (some (n : Int)) = xs.take n := by
  unfold cutV
  rw [sIx_nat _ _ _ h]
  rfl
theorem cut_drop (xs : List V) (n : Nat) (h : n ≤ xs.length) : cutV xs (some (n : Int)) none = xs.drop n := by
  unfold cutV
  rw [sIx_nat _ _ _ h]
  exact List.take_of_length_le (by rw [List.length_drop]; exact Nat.le_refl _)

/-- an int in a row of ints -/
def rInI : R2 := fun x y H Q => ∃ (n : Int) (ns : List Int), x = .int n ∧ (TI H y ns ∨ LI H y ns) ∧ Q (.bl (ns.contains n)) H
def rNotInI : R2 := fun x y H Q => ∃ (n : Int) (ns : List Int), x = .int n ∧ (TI H y ns ∨ LI H y ns) ∧ Q (.bl (!ns.contains n)) H
theorem op_inI {X : Cx} : OpR X (compareOp .In) rInI := by
  intro pins s σ H x y v u Q I rx ry h
  obtain ⟨n, ns, rfl, h | h, q⟩ := h
  · obtain ⟨a, rfl, ha⟩ := h
    exact op_in_seq pins s σ H _ _ v u Q I rx ry ⟨a, _, rfl, .inr (SqT.of ha), rfl, flat_iv _, by rw [inV_iv]; exact q⟩
  · obtain ⟨a, rfl, ha⟩ := h
    exact op_in_seq pins s σ H _ _ v u Q I rx ry ⟨a, _, rfl, .inl (SqL.of ha), rfl, flat_iv _, by rw [inV_iv]; exact q⟩
theorem op_notInI {X : Cx} : OpR X (compareOp .NotIn) rNotInI := by
  intro pins s σ H x y v u Q I rx ry h
  obtain ⟨n, ns, rfl, h | h, q⟩ := h
  · obtain ⟨a, rfl, ha⟩ := h
    exact op_notIn_seq pins s σ H _ _ v u Q I rx ry ⟨a, _, rfl, .inr (SqT.of ha), rfl, flat_iv _, by rw [inV_iv]; exact q⟩
  · obtain ⟨a, rfl, ha⟩ := h
    exact op_notIn_seq pins s σ H _ _ v u Q I rx ry ⟨a, _, rfl, .inl (SqL.of ha), rfl, flat_iv _, by rw [inV_iv]; exact q⟩
end Lk

/-! ## D71 -/
set_option Elab.async false
set_option linter.all false
set_option maxRecDepth 100000
set_option maxHeartbeats 4000000
namespace Lk
open PySem PySem.Spec PyProof.Rows L2 Gx
open GxR (TabG Tabbed TabB)
variable [Own]
/-- an ascending tuple of numbers below many -/
structure LotOk (many : Int) (L : List Int) : Prop where
  asc : L.Pairwise (· < ·)
  bd : ∀ x ∈ L, 0 ≤ x ∧ x < many
  few : L.length ≤ 20
abbrev s_check_lot : Stmt := top 23
theorem sc_check_lot : FnScope ["many", "lot", "number"] ["many", "lot"] (defScope s_check_lot) := ⟨rfl, rfl, rfl, by decide +kernel, rfl, by decide +kernel, by decide +kernel⟩
def spCheckLot (Ps : List Addr) : Sp := fun vs H Q _ => ∃ (l : V) (many : Int) (L : List Int), vs = [.int many, l] ∧ TI H l L ∧ LotOk many L ∧ Tabs Ps H ∧ ∀ H', Ext H H' → Q .non H'
def spTurned (Ps : List Addr) : Sp := fun vs H Q _ => ∃ (v l : V) (W : Web) (L : List Int), vs = [v, l] ∧ WebAt H v W ∧ W.Ok ∧ TI H l L ∧ LotOk W.tops.length L ∧ Tabs Ps H ∧ ∀ H' v', Ext H H' → WebAt H' v' (turnW (lotB L) W) → Q v' H'
def spTurnedState (Ps : List Addr) : Sp := fun vs H Q _ => ∃ (v z l : V) (W : Web) (st L : List Int), vs = [v, z, l] ∧ WebAt H v W ∧ W.Ok ∧ TI H z st ∧ StOk W st ∧ TI H l L ∧ LotOk W.tops.length L ∧ Tabs Ps H ∧ ∀ H' q, Ext H H' → TI H' (.ref q) (turnS (lotB L) W st) → Q (.ref q) H'
def spTurnedRules (Ps : List Addr) : Sp := fun vs H Q _ => ∃ (v r l : V) (W : Web) (ru : List (List Int)) (L : List Int), vs = [v, r, l] ∧ WebAt H v W ∧ W.Ok ∧ TT2 H r ru ∧ Ru0 W ru ∧ firstBad W ru = none ∧ TI H l L ∧ LotOk W.tops.length L ∧ Tabs Ps H ∧ ∀ H' q, Ext H H' → TT2 H' (.ref q) (rulesTurn (lotB L) W ru) → Q (.ref q) H'
section
variable {P : Program} {w : World} {K : PySem.W.Frag} {mg : Str → Option Value} {base : Heap} {Ps : List Addr}
theorem ok_check_lot {f T : Addr} {fd : FuncData} (F : FunT K mg base Ps "check_lot" s_check_lot f fd T) (B : Blt mg)
    (c_is_whole : Cal P w K mg base CX0 1 "is_whole" ["value", "least", "most"] spIsWhole) : FnOk P w K mg base CX0 3 f fd ["many", "lot"] (spCheckLot Ps) := by
  refine F.ok sc_check_lot (fun vs H Q E h => ?_) (fun c A outer s0 H vs Q E TB hr h => ?_)
  · obtain ⟨l, many, L, rfl, _⟩ := h
    rfl
  · obtain ⟨l, many, L, rfl, ⟨la, rfl, hla⟩, ok, hTb, k⟩ := h
    refine ⟨_, (pss_cons (ps_if (PW.pt (pw_or (pt_not (pt_val (pe_callB call_isi (by rfl) B.isi boot_isinstance (pa_cons (pv 1) (pa_cons (pe_bltn (v := .ty "tuple") (by rfl) B.tuple boot_tyTuple rfl) pa_nil))))) (pw_or1 (pt_not (pt_val (pe_allG (own := [("number", 2)]) (k := 1) (hr.mono (by decide)) rfl sc_check_lot.nd (by rfl) B.all TB rfl (pi_tup (pv 1)) ⟨(blkOk_by (N := ["many", "lot", "number"]) (sc := defScope s_check_lot) (by decide +kernel)), noCells_ok (by decide +kernel), rfl, rfl⟩ (fun _ _ _ _ _ _ => (pg_name (i := 2) sc_check_lot.nd rfl (by first | exact Or.inl rfl | exact Or.inr rfl))) (fun _ _ _ _ _ _ hr' => pts_nil) (fun _ _ _ _ _ _ hr' => (pe_c0 c_is_whole (hr'.mono (by decide)) (by rfl) (pa_cons (pv 2) (pa_cons pe_int (pa_cons (pe_op op_sub (pv 0) pe_int) pa_nil)))))))))))
        (pss_one ps_never) pss_nil)
      (pss_one (ps_if (pt_cmpR (op_neLI hr.units) (pe_callTy call_list_of (by rfl) B.list boot_tyList (pa_cons (pv 1) pa_nil)) (pe_callB (cr_sortedSet rfl) (by rfl) B.sorted boot_sorted (pa_cons (pe_callTy (cr_setOfI rfl) (by rfl) B.set boot_set (pa_cons (pv 1) pa_nil)) pa_nil)) (nomark _))
        (pss_one ps_never) pss_nil))), ?_⟩
    have few := ok.few
    refine ⟨_, rfl, _, _, _, _, true, rfl, .ty "tuple", isi_tup hla, kit_ty (by decide +kernel), _, rfl, iteF ?_⟩
    have hg : TabG H T := hTb T F.mem
    refine ⟨_, rfl, la, rfl, ⟨_, SqT.of hla⟩, hg, fun H2 hT2 => ?_⟩
    have E2 : Ext H H2 := Ext.tabbed F.nown hg hT2
    refine quant_test (walk_tup (K := K) (xs := iv L)) (fun _ H' => H' = H2) rfl (fun i H' _ e => by rw [e]; exact SqT.of (E2.tup hla)) (fun i x H4 H5 hi e4 y => ?_) fun H4 e4 => ?_
    · subst e4
      obtain ⟨rfl, hx⟩ := y
      obtain ⟨n, hn, rfl⟩ := iv_get hx
      have hb := ok.bd n (List.mem_of_getElem? hn)
      refine ⟨rfl, yes ?_⟩
      refine ⟨_, rfl, _, rfl, _, _, rfl, rfl, n, 0, many - 1, rfl, ?_⟩
      rw [whole_in hb.1 (by omega)]
      exact ⟨true, rfl, iteTF rfl⟩
    · subst e4
      refine iteF ?_
      refine ⟨_, rfl, la, _, rfl, .inr (SqT.of (E2.tup hla)), fun u hu => ?_⟩
      have X1 := Ext.new hu (.lst (iv L))
      refine ⟨_, rfl, la, L, rfl, X1.tup (E2.tup hla), by omega, fun p n hn hp => ?_⟩
      refine ⟨p, _, n, rfl, upd_same, by omega, fun ns q hasc hmem hlen hq => ?_⟩
      have es : ns = L := asc_ints hasc ok.asc fun x => by rw [hmem x, decide_eq_true_iff]
      subst es
      have X2 := X1.trans ((Ext.new hp (SetO w p (fun j => decide (j ∈ ns)) n)).trans (Ext.new hq (.lst (iv ns))))
      have hu2 : L2.upd (L2.upd (L2.upd H4 u (.lst (iv ns))) p (SetO w p (fun j => decide (j ∈ ns)) n)) q (.lst (iv ns)) u = some (.lst (iv ns)) := ((Ext.new hp _).trans (Ext.new hq _)).lst upd_same
      refine ⟨ns, ns, ⟨u, rfl, hu2⟩, ⟨q, rfl, upd_same⟩, ?_⟩
      have en : (!decide (ns = ns)) = false := by rw [decide_eq_true rfl]; rfl
      rw [en]
      exact ⟨_, rfl, iteF (k _ (E2.trans X2))⟩
end
end Lk


/-! ## RevT -/
set_option Elab.async false
set_option linter.all false
set_option maxRecDepth 100000
set_option maxHeartbeats 2000000
namespace HT
open PySem PySem.Calls PyProof.Rows PySem.Spec
theorem adjust_rev (n : Nat) : Builtin.Slice.sliceAdjust none none (-1) (n : Int) = ((n : Int) - 1, -1) := by
  unfold Builtin.Slice.sliceAdjust
  have h1 : ((-1 : Int) < 0) := by omega
  simp only [h1, if_true]
theorem places_rev (n : Nat) : Builtin.Slice.slicePlaces ((n : Int) - 1) (-1) (-1) = n := by
  unfold Builtin.Slice.slicePlaces
  have h1 : ¬ ((-1 : Int) > 0) := by omega
  have h2 : (- (-1 : Int)) = 1 := by decide
  simp only [h1, if_false, h2, Int.ediv_one]
  split <;> omega
theorem fm_some {α β : Type} {f : α → Option β} {g : α → β} : ∀ {l : List α}, (∀ m ∈ l, f m = some (g m)) → l.filterMap f = l.map g
  | [], _ => rfl
  | x :: l, h => by
    rw [List.filterMap_cons, h x (List.mem_cons_self ..), List.map_cons, fm_some fun m hm => h m (List.mem_cons_of_mem _ hm)]
theorem pick_rev (xs : Array Value) : ((List.range xs.size).filterMap fun (m : Nat) => xs[(((xs.size : Int) - 1) + (m : Int) * (-1)).toNat]?).toArray = xs.toList.reverse.toArray := by
  congr 1
  apply List.ext_getElem?
  intro i
  have e : ((List.range xs.size).filterMap fun (m : Nat) => xs[(((xs.size : Int) - 1) + (m : Int) * (-1)).toNat]?) = (List.range xs.size).map fun (m : Nat) => xs.getD (xs.size - 1 - m) Value.none := by
    refine fm_some fun m hm => ?_
    have hm := List.mem_range.mp hm
    have e1 : (((xs.size : Int) - 1) + (m : Int) * (-1)).toNat = xs.size - 1 - m := by omega
    rw [e1]
    have hlt : xs.size - 1 - m < xs.size := by omega
    simp [Array.getD, hlt]
  rw [e, List.getElem?_map]
  by_cases hi : i < xs.size
  · have hlt : xs.size - 1 - i < xs.size := by omega
    rw [List.getElem?_range hi, List.getElem?_reverse (by rw [Array.length_toList]; exact hi), Array.length_toList]
    simp [Array.getD, hlt]
  · rw [List.getElem?_eq_none (by rw [List.length_range]; omega), List.getElem?_eq_none (by rw [List.length_reverse, Array.length_toList]; omega)]
    rfl
section
variable {prog : Program} {w : World} {A : Around} {E : Value → Shared → Prop} {s : Shared}
theorem sliceApplied_rev {sl : Addr} {t : Tok} {n : Nat} {Q : Int × Int × Nat → Shared → Prop} (hs : s.heap.IsSliceOf sl .none .none (.int (-1) t))
    (h : Q ((n : Int) - 1, -1, n) s) : wpAny (model prog w) A (Builtin.Slice.sliceApplied (.ref sl) (pure (n : Int))) Q E s := by
  obtain ⟨os, hos, hcs, hds⟩ := id hs
  unfold Builtin.Slice.sliceApplied Builtin.Slice.sliceFields
  refine wpAny_bind (wpAny_bind (wpAny_field hos hds (x := .none) rfl (wpAny_bind (wpAny_field hos hds (x := .none) rfl (wpAny_bind (wpAny_field hos hds (x := .int (-1) t) rfl (wpAny_pure ?_)))))))
  refine wpAny_bind (slicePart_int ?_)
  show wpAny _ _ (if ((-1 : Int) == 0) = true then _ else _) _ _ s
  rw [if_neg (by decide)]
  refine wpAny_bind (slicePart_none (wpAny_bind (slicePart_none (wpAny_bind (wpAny_pure ?_)))))
  show wpAny _ _ (match Builtin.Slice.sliceAdjust none none (-1) (n : Int) with | (lo, hi) => pure (lo, (-1 : Int), Builtin.Slice.slicePlaces lo hi (-1))) _ _ s
  rw [adjust_rev n]
  show wpAny _ _ (pure ((n : Int) - 1, (-1 : Int), Builtin.Slice.slicePlaces ((n : Int) - 1) (-1) (-1))) _ _ s
  rw [places_rev]
  exact wpAny_pure h
theorem getItem_tuple_rev {t sl : Addr} {items : Array Value} {tk : Tok} {Q : Value → Shared → Prop} (ht : IsTup s.heap t items) (hs : s.heap.IsSliceOf sl .none .none (.int (-1) tk))
    (h : Q (.ref s.heap.objs.size) { s with heap := s.heap.push { cls := .type "tuple", data := .seq items.toList.reverse.toArray } })
    (hsz : items.size ≤ sizeLine) : wpAny (model prog w) A (getItem (.ref t) (.ref sl)) Q E s := by
  have htake : sizeOk (.seq items.toList.reverse.toArray) := by
    show items.toList.reverse.toArray.size ≤ sizeLine
    rw [List.size_toArray, List.length_reverse, Array.length_toList]
    omega
  obtain ⟨os, hos, hcs, hds⟩ := id hs
  have hTs : s.TypeIs (.ref sl) "slice" := ⟨os, hos, hcs⟩
  unfold getItem
  try with_reducible refine wpAny_holding ?_
  first | refine wpAny_bind (wpAny_pure ?_) | skip
  refine wpAny_bind (wpAny_sequenceKey ht.typeIs (by decide) ?_)
  refine wpAny_bind (wpAny_callSpecial?_slot (name := Str.ofString "__getitem__") ht.typeIs PyProof.Rows.slot_tuple_getitem
    (wpAny_call_entry PyProof.Rows.slot_tuple_getitem ht.typeIs entry_tuple_getitem ?_ (args_tuple_getitem _ _)))
  show wpAny _ _ (Builtin.Tuple.tupleItemsOf (.ref t) >>= _) _ _ s
  refine wpAny_bind (tupleItemsOf_ ht ?_)
  refine wpAny_bind (wpAny_typeOf hTs ?_)
  rw [if_pos (by decide)]
  refine wpAny_bind (sliceApplied_rev hs ?_)
  have hno : ¬ ((((items.size : Int) - 1) == 0 && (-1 : Int) == 1 && items.size == items.size) = true) := by
    intro q
    rw [Bool.and_eq_true, Bool.and_eq_true] at q
    exact absurd q.1.2 (by decide)
  show wpAny _ _ (if (((items.size : Int) - 1) == 0 && (-1 : Int) == 1 && items.size == items.size) = true then _ else _) _ _ s
  rw [if_neg hno, pick_rev]
  first
    | exact wpAny_bind (m := Builtin.Tuple.tupleExact _) (wpAny_newObj_type (wpAny_pure ⟨_, rfl, wpAny_pure h⟩) htake)
    | exact wpAny_bind (m := Builtin.Tuple.tupleExact _) (wpAny_newObj_type (wpAny_bind (wpAny_pure (wpAny_pure ⟨_, rfl, wpAny_pure h⟩))) htake)
    | exact wpAny_bind (wpAny_bind (m := Builtin.Tuple.tupleExact _) (wpAny_newObj_type (wpAny_pure (wpAny_pure ⟨_, rfl, wpAny_pure h⟩)) htake))
    | exact wpAny_bind (wpAny_bind (m := Builtin.Tuple.tupleExact _) (wpAny_newObj_type (wpAny_pure ⟨_, rfl, wpAny_pure h⟩) htake))
end
end HT
namespace Lk
open PySem PySem.Spec PyProof.Rows L2 Gx
variable [Own]
/-- t[::-1] of a tuple -/
def tRevT (te : TE) : TE := fun σ H Q => te σ H fun x H1 => ∃ a xs, x = .ref a ∧ H1 a = some (.tup xs) ∧ ∀ p, H1 p = none → Q (.ref p) (upd H1 p (.tup xs.reverse))
section
variable {X : Cx}
theorem pe_revT {e : Expr} {te : TE} {k : Nat} {p1 p2 p3 pos : Pos} (he : PE X e te) : PE X (.Subscript e (.Slice none none (some (.UnaryOp .USub (.Constant (.int 1) k p1) p2)) p3) pos) (tRevT te) := by
  refine ⟨fun pins s σ H Q I h => ?_⟩
  refine Subscript_ (thn (he.run pins s σ H _ I h) fun v s1 ⟨x, H1, I1, r1, q1⟩ => ?_)
  obtain ⟨a, xs, ex, hx, q⟩ := q1
  subst ex
  cases r1
  have hst : PO X (some (.UnaryOp .USub (.Constant (.int 1) k p1) p2)) (tPart (tUn (rU fun i => .int (-i)) (tC (.int 1)))) := po_some (pe_un un_neg pe_int)
  refine wpAny_Slice (thn (po_none.run pins s1 σ H1 (fun o H2 => o = none ∧ H2 = H1) I1 ⟨rfl, rfl⟩) fun vl s2 ⟨l, H2, I2, pl, el, e2⟩ => ?_)
  subst el e2
  refine thn (po_none.run pins s2 σ H2 (fun o H3 => o = none ∧ H3 = H2) I2 ⟨rfl, rfl⟩) fun vu s3 ⟨u, H3, I3, pu, eu, e3⟩ => ?_
  subst eu e3
  refine thn (hst.run pins s3 σ H3 (fun o H4 => o = some (-1) ∧ H4 = H3) I3 ⟨1, rfl, -1, rfl, rfl, rfl⟩) fun vs s4 ⟨o, H4, I4, ps, eo, e4⟩ => ?_
  subst eo e4
  have I5 : Inv X pins σ H4 { s4 with heap := s4.heap.push { cls := .type "slice", data := .fields #[vl, vu, vs] } } := I4.kept (t' := s4.toks) fun b ob q => Heap.get?_push_of_some _ q
  obtain ⟨its, r, ht, hz⟩ := I5.tuple (SqT.of hx)
  have hlen := r.length
  show wpAny (model X.prog X.w) X.A (subscriptTail e (.Slice none none (some (.UnaryOp .USub (.Constant (.int 1) k p1) p2)) p3) (.ref a) (.ref s4.heap.objs.size)) (EP X pins σ Q) X.xe { s4 with heap := s4.heap.push { cls := .type "slice", data := .fields #[vl, vu, vs] } }
  refine tail_any (ops := [.ref a, .ref s4.heap.objs.size]) ht.typeIs (PySem.F.slot_tuple_getitem.lookup) ?_ (by with_unfolding_all rfl)
  cases pl
  cases pu
  cases ps with
  | int i t =>
    refine HT.getItem_tuple_rev ht (Heap.IsSliceOf.new _ .none .none _) ?_ (by rw [List.size_toArray]; omega)
    refine ⟨.ref _, _, I5.laid (t' := s4.toks) (o := .tup xs.reverse) (fun b ob q => Heap.get?_push_of_some _ q) (Nat.le_refl _) ?_, rfl, q _ (I5.hok.fresh (Nat.le_refl _))⟩
    exact ⟨by rw [List.length_reverse]; exact hz, _, r.reverse, _, Heap.get?_push_size _ rfl, rfl, 0, rfl⟩
/-- value in rows, rows a tuple or a list of tuples of ints -/
def rInTT : R2 := fun x y H Q => ∃ (a : List Int) (b : List (List Int)), TI H x a ∧ TT2 H y b ∧ Q (.bl (decide (a ∈ b))) H
theorem op_inTT (hu : X.A.units + 65 < cLine) : OpR X (compareOp .In) rInTT := by
  intro pins s σ H x y v u Q I rx ry h
  obtain ⟨a, b, h1, h2, q⟩ := h
  obtain ⟨as, r1⟩ := Dp.reads I _ x v h1.dp rx
  obtain ⟨bs, r2⟩ := Dp.reads I _ y u h2.dp ry
  have sd := shaped_t a
  refine SeqAt.in_tuple_reads r2 r1 (canLay_rows b) (SeqAt.canLay_of_shaped sd) ?_ ⟨.bl _, H, I, rfl, by rw [any_rows]; exact q⟩
  have := depth_rows b
  omega
def rNotInTI : R2 := fun x y H Q => ∃ (a : List Int) (b : List (List Int)), TI H x a ∧ LT2 H y b ∧ Q (.bl (!decide (a ∈ b))) H
theorem op_notInTI (hu : X.A.units + 65 < cLine) : OpR X (compareOp .NotIn) rNotInTI := by
  intro pins s σ H x y v u Q I rx ry h
  obtain ⟨a, b, h1, h2, q⟩ := h
  exact op_notInD hu pins s σ H x y v u Q I rx ry ⟨_, _, h1.dp, h2.dp, shaped_t a, shaped_l b, by rw [any_rows]; exact q⟩
def rEqLT2 : R2 := fun x y H Q => ∃ a b : List (List Int), LT2 H x a ∧ LT2 H y b ∧ Q (.bl (decide (a = b))) H
theorem op_eqLT2 (hu : X.A.units + 64 < cLine) : OpR X (compareOp .Eq) rEqLT2 := by
  intro pins s σ H x y v u Q I rx ry h
  obtain ⟨a, b, h1, h2, q⟩ := h
  exact op_eqD hu pins s σ H x y v u Q I rx ry ⟨_, _, h1.dp, h2.dp, shaped_l a, shaped_l b, by rw [eqv_ll]; exact q⟩
end
end Lk

/-! ## D52 -/
set_option Elab.async false
set_option linter.all false
set_option maxRecDepth 100000
set_option maxHeartbeats 4000000
namespace Lk
open PySem PySem.Spec PyProof.Rows L2 Gx
open GxR (TabG Tabbed TabB)
variable [Own]
abbrev s_even_rings : Stmt := top 29
theorem sc_even_rings : FnScope ["web", "ring"] ["web"] (defScope s_even_rings) := ⟨rfl, rfl, rfl, by decide +kernel, rfl, by decide +kernel, by decide +kernel⟩
abbrev s_odd_rings : Stmt := top 30
theorem sc_odd_rings : FnScope ["web", "ring"] ["web"] (defScope s_odd_rings) := ⟨rfl, rfl, rfl, by decide +kernel, rfl, by decide +kernel, by decide +kernel⟩
theorem un1 {k : Nat} {A : Around} (h : Room k A) : A.units + 65 < cLine := by
  have := h.un
  omega
/-- any value, an int or not -/
def spIsWholeG : Sp := fun vs H Q _ => ∃ (x : V) (lo hi : Int), vs = [x, .int lo, .int hi] ∧ ((∃ i, x = .int i ∧ Q (.bl (isWhole i lo hi)) H) ∨ (((∃ b, x = .bl b) ∨ x = .non) ∧ Q (.bl false) H))
/-- values that are no tuples -/
inductive Odd (H : Hp) : V → Prop where
  | non : Odd H .non
  | bl (b : Bool) : Odd H (.bl b)
  | int (i : Int) : Odd H (.int i)
  | str (s : Str) : Odd H (.str s)
  | lst {a : Addr} {xs : List V} (h : H a = some (.lst xs)) : Odd H (.ref a)
  | dT {a : Addr} {kvs : List (List Key × V)} (h : H a = some (.dT kvs)) : Odd H (.ref a)
theorem Odd.ext {H H' : Hp} {x : V} (e : Ext H H') (o : Odd H x) : Odd H' x := by
  cases o with
  | non => exact .non
  | bl b => exact .bl b
  | int i => exact .int i
  | str s => exact .str s
  | lst h => exact .lst (e.lst h)
  | dT h => exact .dT (e.keep _ _ h rfl)
theorem Odd.ty {K : PySem.W.Frag} {H : Hp} {x : V} (o : Odd H x) : ∃ T, TyX K H x (.type T) ∧ kitB T "tuple" = some false := by
  cases o with
  | non => exact ⟨_, .base .non, by decide +kernel⟩
  | bl b => exact ⟨_, .base (.bl b), by decide +kernel⟩
  | int i => exact ⟨_, .base (.int i), by decide +kernel⟩
  | str s => exact ⟨_, .base (.str s), by decide +kernel⟩
  | lst h => exact ⟨_, .base (.lst h), by decide +kernel⟩
  | dT h => exact ⟨_, .base (.dT h), by decide +kernel⟩
/-- what may be asked whether it is a ring: a tuple of ints, a tuple of one other thing, no tuple -/
def NoRing (H : Hp) (x : V) : Prop := Odd H x ∨ ∃ a y, x = .ref a ∧ H a = some (.tup [y]) ∧ (y = .non ∨ ∃ b, y = .bl b)
theorem NoRing.ext {H H' : Hp} {x : V} (e : Ext H H') (h : NoRing H x) : NoRing H' x := by
  rcases h with h | ⟨a, y, e1, h, hy⟩
  · exact .inl (h.ext e)
  · exact .inr ⟨a, y, e1, e.tup h, hy⟩
/-- the even ones (b = true), the odd ones -/
def kindOf (W : Web) (b : Bool) : List (List Int) := (ringsOf W).filter fun p => evenP W.looks p == b
def spKind (b : Bool) : Sp := fun vs H Q _ => ∃ (v : V) (W : Web), vs = [v] ∧ WebAt H v W ∧ W.Few ∧ ∀ H' p us, Ext H H' → H p = none → H' p = some (.lst us) → Paired (TI H') us (kindOf W b) → Q (.ref p) H'
def spIsRing (Ps : List Addr) : Sp := fun vs H Q _ => ∃ (v x : V) (W : Web), vs = [v, x] ∧ WebAt H v W ∧ W.Few ∧ Tabs Ps H ∧ ((∃ ring, TI H x ring ∧ ring.length ≤ 100 ∧ ∀ H', Ext H H' → Q (.bl (decide (ring ∈ ringsOf W))) H') ∨ (NoRing H x ∧ ∀ H', Ext H H' → Q (.bl false) H'))
theorem ring_ok {W : Web} {p : List Int} (h : p ∈ ringsOf W) : PathOk W.looks p ∧ closesP W.looks p = true ∧ p.length ≤ 7 := raw_ok (sortT_mem.mp h)
theorem rings_len {W : Web} (fw : W.Few) : (ringsOf W).length ≤ 8108730 := by
  unfold ringsOf
  rw [sortT_len]
  exact found_small fw.most fw.six 7
section
variable {P : Program} {w : World} {K : PySem.W.Frag} {mg : Str → Option Value} {base : Heap} {Ps : List Addr}
theorem ok_is_wholeG {f : Addr} {fd : FuncData} (F : Fun K "is_whole" "is_whole" sIsWhole f fd) (B : Blt mg) : FnOk P w K mg base CX0 1 f fd ["value", "least", "most"] spIsWholeG := by
  refine F.ok scIsWhole (fun vs H Q E h => ?_) (fun cdv A outer s H vs Q E hr h => ?_)
  · obtain ⟨i, lo, hi, rfl, _⟩ := h
    rfl
  · obtain ⟨x, lo, hi, rfl, h⟩ := h
    refine ⟨_, pss_one (ps_ret (pe_and (pe_callB call_isi (by rfl) B.isi boot_isinstance (pa_cons (pv 0) (pa_cons (pe_bltn (v := .ty "int") (by rfl) B.int boot_tyInt rfl) pa_nil)))
      (pe_and (pe_not (pe_callB call_isi (by rfl) B.isi boot_isinstance (pa_cons (pv 0) (pa_cons (pe_bltn (v := .ty "bool") (by rfl) B.bool boot_tyBool rfl) pa_nil))))
      (pe_one (pe_chain op_le op_le (pv 1) (pv 0) (pv 2)))))), ?_⟩
    rcases h with ⟨i, rfl, k⟩ | ⟨⟨b, rfl⟩ | rfl, k⟩
    · refine ⟨_, rfl, _, _, _, _, true, rfl, .ty "int", isi_int i, kit_ty (by decide +kernel), _, rfl, iteT ?_⟩
      refine ⟨_, rfl, _, _, _, _, false, rfl, .ty "bool", isi_int i, kit_ty (by decide +kernel), _, rfl, _, rfl, iteT ?_⟩
      refine ⟨_, rfl, _, rfl, _, _, rfl, rfl, _, rfl, ?_⟩
      unfold isWhole at k
      by_cases h : lo ≤ i
      · rw [decide_eq_true h, Bool.true_and] at k
        rw [decide_eq_true h]
        refine iteT ?_
        refine ⟨_, rfl, _, _, rfl, rfl, ?_⟩
        exact k
      · rw [decide_eq_false h, Bool.false_and] at k
        rw [decide_eq_false h]
        exact iteF k
    · refine ⟨_, rfl, _, _, _, _, true, rfl, .ty "int", .base (.bl b), kit_ty (by decide +kernel), _, rfl, iteT ?_⟩
      refine ⟨_, rfl, _, _, _, _, true, rfl, .ty "bool", .base (.bl b), kit_ty (by decide +kernel), _, rfl, _, rfl, iteF ?_⟩
      exact k
    · refine ⟨_, rfl, _, _, _, _, false, rfl, .ty "int", .base .non, kit_ty (by decide +kernel), _, rfl, iteF ?_⟩
      exact k
theorem ok_even_rings {f : Addr} {fd : FuncData} (F : Fun K "even_rings" "even_rings" s_even_rings f fd)
    (c_all_rings : Cal P w K mg base CX0 2 "all_rings" ["web"] spAllRings) (c_has_even_spites : Cal P w K mg base CX0 1 "has_even_spites" ["web", "ring"] spHasEven) : FnOk P w K mg base CX0 3 f fd ["web"] (spKind true) := by
  refine F.ok sc_even_rings (fun vs H Q E h => ?_) (fun cdv A outer s H vs Q E hr h => ?_)
  · obtain ⟨v, W, rfl, _⟩ := h
    rfl
  · obtain ⟨v, W, rfl, hW, fw, k⟩ := h
    refine ⟨_, (pss_one (ps_ret (pe_lc (own := [("ring", 1)]) rfl sc_even_rings.nd (pi_tup (pe_c0 c_all_rings (hr.mono (by decide)) (by rfl) (pa_cons (pv 0) pa_nil))) (blkOk_by (N := ["web", "ring"]) (sc := defScope s_even_rings) (by decide +kernel)) (fun _ _ _ _ _ => (pg_name (i := 1) sc_even_rings.nd rfl (by first | exact Or.inl rfl | exact Or.inr rfl))) (fun _ _ _ _ _ => (pts_one (pt_val (pe_c0 c_has_even_spites (hr.mono (by decide)) (by rfl) (pa_cons (pv 0) (pa_cons (pv 1) pa_nil)))))) (fun _ _ _ _ _ => (pv 1))))), ?_⟩
    refine ⟨_, rfl, _, W, rfl, hW, fw, fun H1 q e1 hq0 hq => ?_⟩
    obtain ⟨_, us, e, hqa, hus⟩ := id hq
    cases e
    refine ⟨q, rfl, ⟨_, SqT.of hqa⟩, fun D hD => ?_⟩
    refine lc_fmT (R := TI) (S := TI) stTI stTI (fun p => if (evenP W.looks p == true) = true then some p else none) hD hqa hus (by have := rings_len fw; rw [paired_len hus]; exact Nat.le_trans this (by decide)) (fun x p H3 Ky Kn e3 hmem hx k1 k2 => ?_) fun H3 acc1 e3 hacc1 hp1 => ?_
    · obtain ⟨ok, _, hl⟩ := ring_ok hmem
      refine ⟨rfl, _, rfl, _, rfl, _, _, W, p, rfl, hW.ext (e1.trans e3), hx, by omega, ok.num, fun H4 e4 => ⟨_, rfl, ?_⟩⟩
      refine ite_of (fun hc => ?_) fun hc => ?_
      · exact ⟨_, rfl, k1 _ _ _ (if_pos (by rw [hc]; rfl)) e4 (hx.ext e4)⟩
      · exact k2 _ (if_neg (by rw [hc]; simp)) e4
    · rw [fmIf] at hp1
      exact k H3 D acc1 (e1.trans e3) (e1.free hD) hacc1 hp1
theorem ok_odd_rings {f : Addr} {fd : FuncData} (F : Fun K "odd_rings" "odd_rings" s_odd_rings f fd)
    (c_all_rings : Cal P w K mg base CX0 2 "all_rings" ["web"] spAllRings) (c_has_even_spites : Cal P w K mg base CX0 1 "has_even_spites" ["web", "ring"] spHasEven) : FnOk P w K mg base CX0 3 f fd ["web"] (spKind false) := by
  refine F.ok sc_odd_rings (fun vs H Q E h => ?_) (fun cdv A outer s H vs Q E hr h => ?_)
  · obtain ⟨v, W, rfl, _⟩ := h
    rfl
  · obtain ⟨v, W, rfl, hW, fw, k⟩ := h
    refine ⟨_, (pss_one (ps_ret (pe_lc (own := [("ring", 1)]) rfl sc_odd_rings.nd (pi_tup (pe_c0 c_all_rings (hr.mono (by decide)) (by rfl) (pa_cons (pv 0) pa_nil))) (blkOk_by (N := ["web", "ring"]) (sc := defScope s_odd_rings) (by decide +kernel)) (fun _ _ _ _ _ => (pg_name (i := 1) sc_odd_rings.nd rfl (by first | exact Or.inl rfl | exact Or.inr rfl))) (fun _ _ _ _ _ => (pts_one (pt_not (pt_val (pe_c0 c_has_even_spites (hr.mono (by decide)) (by rfl) (pa_cons (pv 0) (pa_cons (pv 1) pa_nil))))))) (fun _ _ _ _ _ => (pv 1))))), ?_⟩
    refine ⟨_, rfl, _, W, rfl, hW, fw, fun H1 q e1 hq0 hq => ?_⟩
    obtain ⟨_, us, e, hqa, hus⟩ := id hq
    cases e
    refine ⟨q, rfl, ⟨_, SqT.of hqa⟩, fun D hD => ?_⟩
    refine lc_fmT (R := TI) (S := TI) stTI stTI (fun p => if (evenP W.looks p == false) = true then some p else none) hD hqa hus (by have := rings_len fw; rw [paired_len hus]; exact Nat.le_trans this (by decide)) (fun x p H3 Ky Kn e3 hmem hx k1 k2 => ?_) fun H3 acc1 e3 hacc1 hp1 => ?_
    · obtain ⟨ok, _, hl⟩ := ring_ok hmem
      refine ⟨rfl, _, rfl, _, rfl, _, _, W, p, rfl, hW.ext (e1.trans e3), hx, by omega, ok.num, fun H4 e4 => ⟨_, rfl, ?_⟩⟩
      cases hc : evenP W.looks p with
      | true => exact iteF (k2 _ (if_neg (by rw [hc]; simp)) e4)
      | false => exact iteT ⟨_, rfl, k1 _ _ _ (if_pos (by rw [hc]; rfl)) e4 (hx.ext e4)⟩
    · rw [fmIf] at hp1
      exact k H3 D acc1 (e1.trans e3) (e1.free hD) hacc1 hp1
end
end Lk


/-! ## W34 -/
set_option Elab.async false
set_option linter.all false
set_option maxRecDepth 100000
set_option maxHeartbeats 4000000
namespace Lk
open PySem PySem.Spec PyProof.Rows L2 Gx
open GxR (TabG Tabbed TabB)
variable [Own]
/-- what is no lot of so many things -/
def BadL (H : Hp) (many : Int) (x : V) : Prop := NoRing H x ∨ ∃ L : List Int, TI H x L ∧ L.length ≤ 20 ∧ ¬ (L.Pairwise (· < ·) ∧ ∀ y ∈ L, 0 ≤ y ∧ y < many)
theorem BadL.ext {H H' : Hp} {many : Int} {x : V} (e : Ext H H') (h : BadL H many x) : BadL H' many x := by
  rcases h with h | ⟨L, h1, h2⟩
  · exact .inl (h.ext e)
  · exact .inr ⟨L, h1.ext e, h2⟩
def spCheckLotX (Ps : List Addr) (C : Addr) : Sp := fun vs H Q E => ∃ (l : V) (many : Int), vs = [.int many, l] ∧ Tabs Ps H ∧ ((∃ L, TI H l L ∧ LotOk many L ∧ ∀ H', Ext H H' → Q .non H') ∨ (BadL H many l ∧ ∀ H', Ext H H' → E (.ref C) none H'))
section
variable {P : Program} {w : World} {K : PySem.W.Frag} {mg : Str → Option Value} {base : Heap} {Ps : List Addr} {C : Addr}
theorem FunT.okX {x : Str} {st : Stmt} {f : Addr} {fd : FuncData} {T : Addr} {N ps : List Str} {k : Nat} {sp : Sp} (F : FunT K mg base Ps x st f fd T) (S : FnScope N ps (defScope st)) (len : ∀ vs H Q E, sp vs H Q E → vs.length = ps.length)
    (hbody : ∀ (c : Addr) (A : Around) (outer : List Env) (s : Shared) (H : Hp) (vs : List V) (Q : VK) (E : XK), TabB base mg c T → Room k (A.deeper (envOfC x (defScope st) s.heap.objs.size f (.ref c))) → sp vs H Q E →
      ∃ t, PSs (cxOf (L2.CX P w) P w K mg base N x (defScope st) f (.ref c) A outer s H E) (defBody st) t ∧ t { nx := fun _ H' => Q .non H', rt := Q } (start N vs) H) : FnOk P w K mg base (L2.CX P w) (k + 1) f fd ps sp := by
  obtain ⟨oc, od, kV, doc, pm, an, c, ct, osl, rfl, lk, hcd, tb⟩ := F.ex
  exact fn_of lk hcd S len fun A outer s H vs Q E hr hsp => hbody c A outer s H vs Q E tb hr hsp
theorem ok_check_lotX {f T : Addr} {fd : FuncData} (F : FunT K mg base Ps "check_lot" s_check_lot f fd T) (O : Own0 K mg "BadLot" C) (B : Blt mg)
    (c_is_whole : Cal P w K mg base CX0 1 "is_whole" ["value", "least", "most"] spIsWholeG) : FnOk P w K mg base (L2.CX P w) 3 f fd ["many", "lot"] (spCheckLotX Ps C) := by
  refine F.okX sc_check_lot (fun vs H Q E h => ?_) (fun c A outer s0 H vs Q E TB hr h => ?_)
  · obtain ⟨l, many, rfl, _⟩ := h
    rfl
  · obtain ⟨l, many, rfl, hTb, h⟩ := h
    refine ⟨_, (pss_cons (ps_if (PW.pt (pw_or (pt_not (pt_val (pe_callB call_isi (by rfl) B.isi boot_isinstance (pa_cons (pv 1) (pa_cons (pe_bltn (v := .ty "tuple") (by rfl) B.tuple boot_tyTuple rfl) pa_nil))))) (pw_or1 (pt_not (pt_val (pe_allG (own := [("number", 2)]) (k := 1) (hr.mono (by decide)) rfl sc_check_lot.nd (by rfl) B.all TB rfl (pi_tup (pv 1)) ⟨(blkOk_by (N := ["many", "lot", "number"]) (sc := defScope s_check_lot) (by decide +kernel)), noCells_ok (by decide +kernel), rfl, rfl⟩ (fun _ _ _ _ _ _ => (pg_name (i := 2) sc_check_lot.nd rfl (by first | exact Or.inl rfl | exact Or.inr rfl))) (fun _ _ _ _ _ _ hr' => pts_nil) (fun _ _ _ _ _ _ hr' => (pe_c0 c_is_whole (hr'.mono (by decide)) (by rfl) (pa_cons (pv 2) (pa_cons pe_int (pa_cons (pe_op op_sub (pv 0) pe_int) pa_nil)))))))))))
        (pss_one (ps_raise0 rfl O (takes_of rfl rfl rfl rfl) (by rfl))) pss_nil)
      (pss_one (ps_if (pt_cmpR (op_neLI hr.units) (pe_callTy call_list_of (by rfl) B.list boot_tyList (pa_cons (pv 1) pa_nil)) (pe_callB (cr_sortedSet rfl) (by rfl) B.sorted boot_sorted (pa_cons (pe_callTy (cr_setOfI rfl) (by rfl) B.set boot_set (pa_cons (pv 1) pa_nil)) pa_nil)) (nomark _))
        (pss_one (ps_raise0 rfl O (takes_of rfl rfl rfl rfl) (by rfl))) pss_nil))), ?_⟩
    have hg : TabG H T := hTb T F.mem
    have hcase : (∃ L : List Int, TI H l L ∧ L.length ≤ 20 ∧ ((LotOk many L ∧ ∀ H', Ext H H' → Q .non H') ∨ (¬ (L.Pairwise (· < ·) ∧ ∀ y ∈ L, 0 ≤ y ∧ y < many) ∧ ∀ H', Ext H H' → E (.ref C) none H'))) ∨ (NoRing H l ∧ ∀ H', Ext H H' → E (.ref C) none H') := by
      rcases h with ⟨L, h1, h2, k⟩ | ⟨hn | ⟨L, h1, h2, h3⟩, k⟩
      · exact .inl ⟨L, h1, h2.few, .inl ⟨h2, k⟩⟩
      · exact .inr ⟨hn, k⟩
      · exact .inl ⟨L, h1, h2, .inr ⟨h3, k⟩⟩
    clear h
    rcases hcase with ⟨L, ⟨la, rfl, hla⟩, few, hk⟩ | ⟨hno | ⟨z, y, rfl, hz, hy⟩, k⟩
    · refine ⟨_, rfl, _, _, _, _, true, rfl, .ty "tuple", isi_tup hla, kit_ty (by decide +kernel), _, rfl, iteF ?_⟩
      refine ⟨_, rfl, la, rfl, ⟨_, SqT.of hla⟩, hg, fun H2 hT2 => ?_⟩
      have E2 : Ext H H2 := Ext.tabbed F.nown hg hT2
      refine quant_test (walk_tup (K := K) (xs := iv L)) (fun i H' => H' = H2 ∧ ∀ j n, j < i → L[j]? = some n → 0 ≤ n ∧ n < many) ⟨rfl, fun j n h => by omega⟩ (fun i H' _ e => by rw [e.1]; exact SqT.of (E2.tup hla)) (fun i x H4 H5 hi ⟨e4, hj⟩ y => ?_) fun H4 ⟨e4, hj⟩ => ?_
      · subst e4
        obtain ⟨rfl, hx⟩ := y
        obtain ⟨n, hn, rfl⟩ := iv_get hx
        refine ⟨rfl, yes ?_⟩
        refine ⟨_, rfl, _, rfl, _, _, rfl, rfl, _, 0, many - 1, rfl, .inl ⟨n, rfl, _, rfl, ?_⟩⟩
        cases hw : isWhole n 0 (many - 1) with
        | true =>
          rw [if_neg (by decide)]
          refine ⟨rfl, fun j m hj2 hm => ?_⟩
          by_cases h2 : j < i
          · exact hj j m h2 hm
          · rw [show j = i by omega, hn] at hm
            cases hm
            unfold isWhole at hw
            simp at hw
            omega
        | false =>
          rw [if_pos rfl]
          refine ⟨_, rfl, ?_⟩
          rcases hk with ⟨ok, _⟩ | ⟨_, k⟩
          · have := ok.bd n (List.mem_of_getElem? hn)
            unfold isWhole at hw
            simp at hw
            omega
          · exact k _ E2
      · subst e4
        have hin : ∀ y ∈ L, 0 ≤ y ∧ y < many := fun y hy => by
          obtain ⟨j, hj2, e⟩ := List.mem_iff_getElem.mp hy
          exact hj j y (by rw [iv_len]; exact hj2) (by rw [List.getElem?_eq_getElem hj2, e])
        refine iteF ?_
        refine ⟨_, rfl, la, _, rfl, .inr (SqT.of (E2.tup hla)), fun u hu => ?_⟩
        have X1 := Ext.new hu (.lst (iv L))
        refine ⟨_, rfl, la, L, rfl, X1.tup (E2.tup hla), by omega, fun p n hn hp => ?_⟩
        refine ⟨p, _, n, rfl, upd_same, by omega, fun ns q hasc hmem hlen hq => ?_⟩
        have X2 := X1.trans ((Ext.new hp (SetO w p (fun j => decide (j ∈ L)) n)).trans (Ext.new hq (.lst (iv ns))))
        have hu2 : L2.upd (L2.upd (L2.upd H4 u (.lst (iv L))) p (SetO w p (fun j => decide (j ∈ L)) n)) q (.lst (iv ns)) u = some (.lst (iv L)) := ((Ext.new hp _).trans (Ext.new hq _)).lst upd_same
        refine ⟨L, ns, ⟨u, rfl, hu2⟩, ⟨q, rfl, upd_same⟩, _, rfl, ?_⟩
        by_cases ha : L.Pairwise (· < ·)
        · have es : ns = L := asc_ints hasc ha fun x => by rw [hmem x, decide_eq_true_iff]
          rw [es, show (!decide (L = L)) = false by rw [decide_eq_true rfl]; rfl]
          refine iteF ?_
          rcases hk with ⟨_, k⟩ | ⟨hb, _⟩
          · rw [es] at X2
            exact k _ (E2.trans X2)
          · exact absurd ⟨ha, hin⟩ hb
        · have es : L ≠ ns := fun z => ha (by rw [z]; exact hasc)
          rw [decide_eq_false es]
          refine iteT ?_
          rcases hk with ⟨ok, _⟩ | ⟨_, k⟩
          · exact absurd ok.asc ha
          · exact k _ (E2.trans X2)
    · obtain ⟨Ty, t1, t2⟩ := hno.ty (K := K)
      refine ⟨_, rfl, _, _, _, _, false, rfl, .ty "tuple", t1, kit_ty t2, _, rfl, iteT ?_⟩
      exact k _ (Ext.refl _)
    · refine ⟨_, rfl, _, _, _, _, true, rfl, .ty "tuple", isi_tup hz, kit_ty (by decide +kernel), _, rfl, iteF ?_⟩
      refine ⟨_, rfl, z, rfl, ⟨_, SqT.of hz⟩, hg, fun H2 hT2 => ?_⟩
      have E2 : Ext H H2 := Ext.tabbed F.nown hg hT2
      refine quant_test (walk_tup (xs := [y])) (fun i H' => H' = H2 ∧ i = 0) ⟨rfl, rfl⟩ (fun i H' _ e => by rw [e.1]; exact SqT.of (E2.tup hz)) (fun i x H' H'' hi ⟨e, hj⟩ yy => ?_) fun H' ⟨e, hj⟩ => ?_
      · obtain ⟨e', hx⟩ := yy
        subst e e' hj
        have hxy : y = x := by simpa using hx
        subst hxy
        refine ⟨rfl, yes ?_⟩
        refine ⟨_, rfl, _, rfl, _, _, rfl, rfl, _, _, _, rfl, .inr ⟨?_, _, rfl, ?_⟩⟩
        · rcases hy with e | e
          · exact .inr e
          · exact .inl e
        · rw [if_pos rfl]
          exact ⟨_, rfl, k _ E2⟩
      · cases hj
end
end Lk


/-! ## Kmin -/
set_option Elab.async false
set_option linter.all false
set_option maxRecDepth 100000
set_option maxHeartbeats 2000000
/-! min(rows, key=len, default=d), rows a list of tuples of ints. -/
namespace Lk
open PySem PySem.Spec PyProof.Rows L2 Gx
variable [Own]
def tMinLen (ta td : TE) : TE := fun σ H Q => ta σ H fun x H1 => td σ H1 fun d H2 => ∃ (a : Addr) (xs : List V) (rows : List (List Int)), [x] = [.ref a] ∧ H2 a = some (.lst xs) ∧ Paired (TI H2) xs rows ∧ (rows = [] → Q d H2) ∧
  ∀ (y : V) (row : List Int), TI H2 y row → row ∈ rows → (∀ r ∈ rows, row.length ≤ r.length) → Q y H2
section
variable {X : Cx} {p p2 pk pd pos : Pos} {e d : Expr} {ta td : TE}
theorem pe_minLen (hc : X.calm = true) (hg : Gl X "min") (hm : X.mg "min" = none) (hg2 : Gl X "len") (hm2 : X.mg "len" = none) (ha : PE X e ta) (hd : PE X d td) (hall : (backToKw pos (keywordEach [⟨some "key", .Name "len" p2, pk⟩, ⟨some "default", d, pd⟩] X.env)).all (·.1.isSome) = true := by rfl)
    (hnone : (backToKw pos (keywordEach [⟨some "key", .Name "len" p2, pk⟩, ⟨some "default", d, pd⟩] X.env)).any (·.1.isNone) = false := by rfl)
    (he : backTo pos (starEach [e] X.env) = (false, eval e X.env) :: backTo pos (starEach [] X.env) := by rfl) (hpl : (backTo pos (starEach [e] X.env)).any (·.1) = false := by rfl)
    (hks : (backToKw pos (keywordEach [⟨some "key", .Name "len" p2, pk⟩, ⟨some "default", d, pd⟩] X.env)).filterMap (·.1) = [Str.ofString "key", Str.ofString "default"] := by rfl)
    (hs1 : starEach [e] X.env = (false, eval e X.env) :: starEach [] X.env := by rfl) :
    PE X (.Call (.Name "min" p) [e] [⟨some "key", .Name "len" p2, pk⟩, ⟨some "default", d, pd⟩] pos) (tMinLen ta td) := by
  refine ⟨fun pins s σ H Q I h => ?_⟩
  refine wpAny_Call_Name_kw (ld_blt I hg hm boot_min ?_ (by decide) (by decide))
  refine PyProof.Rows.callWith_kw (thn ((pa_cons ha pa_nil hs1).run pos pins s σ H (fun vs H1 => td σ H1 fun d H2 => ∃ (a : Addr) (xs : List V) (rows : List (List Int)), vs = [.ref a] ∧ H2 a = some (.lst xs) ∧ Paired (TI H2) xs rows ∧ (rows = [] → Q d H2) ∧
    ∀ (y : V) (row : List Int), TI H2 y row → row ∈ rows → (∀ r ∈ rows, row.length ≤ r.length) → Q y H2) I h) fun us s1 ⟨vs, H1, I1, r1, q1⟩ => ?_) he hpl hall hnone
  rw [hks]
  refine kwAll_cons (ld_blt I1 hg2 hm2 boot_len ?_ (by decide) (by decide))
  refine kwAll_cons (thn (hd.run pins s1 σ H1 _ I1 q1) fun ud s2 ⟨dv, H2, I2, rd, q2⟩ => ?_)
  refine kwAll_nil ?_
  obtain ⟨a, xs, rows, rfl, ha2, hp, q0, qn⟩ := q2
  obtain ⟨ux, rfl, rx⟩ := vals1 r1
  cases rx
  show wpAny (model X.prog X.w) X.A (call (.builtin "min") [.ref a] [(Str.ofString "key", .builtin "len"), (Str.ofString "default", ud)]) _ _ s2
  obtain ⟨its, rv, hl, hz⟩ := I2.list (SqL.of ha2)
  have lx : xs.length = rows.length := paired_len hp
  have li : xs.length = its.length := rv.length
  have item : ∀ (i : Nat) (v : Value), its[i]? = some v → ∃ (t : Addr) (row : List Int), v = .ref t ∧ xs[i]? = some (.ref t) ∧ rows[i]? = some row ∧ H2 t = some (.tup (iv row)) := fun i v hv => by
    have hi := (List.getElem?_eq_some_iff.mp hv).1
    have hx : xs[i]? = some xs[i] := List.getElem?_eq_getElem (by omega)
    obtain ⟨u, hu, ru⟩ := rv.get hx
    rw [hv] at hu
    cases hu
    obtain ⟨row, hr, t, et, ht⟩ := paired_get' hp hx
    rw [et] at ru hx
    exact ⟨t, row, ru, hx, hr, ht⟩
  let num : Nat → Int := fun i => ((rows.getD i []).length : Int)
  let J : Shared → Prop := fun s' => (∀ b o, s2.heap.get? b = some o → s'.heap.get? b = some o) ∧ s'.gens = s2.gens ∧ s'.drawn = s2.drawn ∧ s'.os = s2.os
  have fin : ∀ s', J s' → Inv X pins σ H2 s' := fun s' ⟨j1, j2, j3, j4⟩ => by
    have := I2.kept (t' := s'.toks) j1
    obtain ⟨h', g', d', o', t'⟩ := s'
    cases j2; cases j3; cases j4
    exact this
  refine PySem.call_min_walkKBD (iter_anyList hl.isList fun s₃ e st hfp hne => ?_)
  subst e
  refine ⟨_, _, _, _, _, _, _, J, fun i k _ => ∃ t, k = Value.int (num i) t, fun i j => decide (num i < num j), rfl, (Walks.list (A := X.A.in1) (I2.ok.hd hc) _ a hne its.toArray).toS, st, hfp, ⟨?_, ?_, ?_, ?_⟩, ?_, ?_, ?_⟩
  · intro s s' ⟨j1, j2, j3, j4⟩ m
    refine ⟨fun b o e => m.heap b o (fun hb => ?_) (j1 b o e), (show s'.gens = s.gens from m.gens).trans j2, m.drawn.trans j3, m.os.trans j4⟩
    have hlt := Heap.lt_size e
    rcases List.mem_cons.mp hb with z | z
    · rw [z, Heap.size_push] at hlt
      exact absurd hlt (Nat.not_lt.mpr (Nat.le_succ _))
    · rw [List.mem_singleton.mp z] at hlt
      exact absurd hlt (Nat.lt_irrefl _)
  · intro i k s s' v _
    exact v
  · intro i v s o Q' E' hi hv j st ho q
    have hv' : its[i]? = some v := by simpa using hv
    obtain ⟨t, row, rfl, hx, hr, ht⟩ := item i v hv'
    have I3 := fin s j
    obtain ⟨its3, r3, pl, hz3⟩ := I3.tuple (SqT.of ht)
    have l3 : row.length = its3.length := by rw [← iv_len row]; exact r3.length
    have hn := line63
    have hz4 : its3.length ≤ sizeLine := by rw [← r3.length]; exact hz3
    refine len_tuple pl (by simp only [List.size_toArray]; omega) (q _ _ ⟨j.1, j.2.1, j.2.2.1, j.2.2.2⟩ st ho ⟨s.toks + 1, ?_⟩ fun j k v => v)
    show Value.int ((its3.toArray.size : Nat) : Int) _ = Value.int ((rows.getD i []).length : Int) _
    rw [List.getD_eq_getElem?_getD, hr, List.size_toArray, ← l3]
    all_goals rfl
  · intro i j ki kj s Q' E' jj ⟨t, e1⟩ ⟨u, e2⟩ q
    subst e1 e2
    exact P.lt_int q
  · exact ⟨fun b o e => Heap.get?_push_of_some _ e, rfl, rfl, rfl⟩
  · intro hn s' j
    have : rows = [] := List.length_eq_zero_iff.mp (by rw [← lx, li]; simpa using hn)
    exact ⟨dv, H2, fin s' j, rd, q0 this⟩
  · intro hn v s' hv j
    have hv' : its[argBest (fun i j => decide (num i < num j)) (its.toArray.size - 1)]? = some v := by simpa using hv
    obtain ⟨t, row, rfl, hx, hr, ht⟩ := item _ v hv'
    obtain ⟨b1, b2⟩ := argBest_lt num (its.toArray.size - 1)
    refine ⟨.ref t, H2, fin s' j, rfl, qn _ row ⟨t, rfl, ht⟩ (List.mem_of_getElem? hr) fun r hr2 => ?_⟩
    obtain ⟨k, hk, ek⟩ := List.mem_iff_getElem.mp hr2
    have h3 := b2 k (by rw [List.size_toArray, ← li, lx]; omega)
    have f1 : num (argBest (fun i j => decide (num i < num j)) (its.toArray.size - 1)) = row.length := by
      show ((rows.getD _ []).length : Int) = _
      rw [List.getD_eq_getElem?_getD, hr] <;> rfl
    have f2 : num k = r.length := by
      show ((rows.getD k []).length : Int) = _
      rw [List.getD_eq_getElem?_getD, List.getElem?_eq_getElem hk, ek] <;> rfl
    rw [f1, f2] at h3
    omega
end
end Lk

/-! ## D53 -/
set_option Elab.async false
set_option linter.all false
set_option maxRecDepth 100000
set_option maxHeartbeats 4000000
namespace Lk
open PySem PySem.Spec PyProof.Rows L2 Gx
open GxR (TabG Tabbed TabB)
variable [Own]
/-- a shortest one of these -/
def shortest (rows : List (List Int)) (ring : List Int) : Bool := decide (ring ∈ rows ∧ ∀ r ∈ rows, ring.length ≤ r.length)
def spCheckRing (Ps : List Addr) (C : Addr) : Sp := fun vs H Q E => ∃ (v x : V) (W : Web), vs = [v, x] ∧ WebAt H v W ∧ W.Few ∧ Tabs Ps H ∧ ((∃ ring, TI H x ring ∧ ring.length ≤ 100 ∧ (ring ∈ ringsOf W → ∀ H', Ext H H' → Q .non H') ∧ (ring ∉ ringsOf W → ∀ H', Ext H H' → E (.ref C) none H')) ∨ (NoRing H x ∧ ∀ H', Ext H H' → E (.ref C) none H'))
def spIsEven (Ps : List Addr) (C : Addr) : Sp := fun vs H Q E => ∃ (v x : V) (W : Web), vs = [v, x] ∧ WebAt H v W ∧ W.Ok ∧ Tabs Ps H ∧ ((∃ ring, TI H x ring ∧ ring.length ≤ 100 ∧ (ring ∈ ringsOf W → ∀ H', Ext H H' → Q (.bl (evenP W.looks ring)) H') ∧ (ring ∉ ringsOf W → ∀ H', Ext H H' → E (.ref C) none H')) ∨ (NoRing H x ∧ ∀ H', Ext H H' → E (.ref C) none H'))
def spShortest (Ps : List Addr) : Sp := fun vs H Q _ => ∃ (v f x : V) (W : Web) (rows : List (List Int)), vs = [v, f, x] ∧ WebAt H v W ∧ W.Few ∧ Tabs Ps H ∧ LT2 H f rows ∧ (∀ r ∈ rows, r ∈ ringsOf W) ∧ rows.length ≤ 9000000 ∧
  ((∃ ring, TI H x ring ∧ ring.length ≤ 100 ∧ ∀ H', Ext H H' → Q (.bl (shortest rows ring)) H') ∨ (NoRing H x ∧ ∀ H', Ext H H' → Q (.bl (decide (x = .non) && rows.isEmpty)) H'))
def spRings (Ps : List Addr) : Sp := fun vs H Q _ => ∃ (v : V) (W : Web), vs = [v] ∧ WebAt H v W ∧ W.Ok ∧ Tabs Ps H ∧ ∀ H' q, Ext H H' → H q = none → TT2 H' (.ref q) (ringsOf W) → Q (.ref q) H'
def spKindRing (Ps : List Addr) (b : Bool) : Sp := fun vs H Q _ => ∃ (v : V) (W : Web), vs = [v] ∧ WebAt H v W ∧ W.Ok ∧ Tabs Ps H ∧ ∀ H' y, Ext H H' → ((kindOf W b = [] ∧ y = .non) ∨ ∃ ring, TI H' y ring ∧ shortest (kindOf W b) ring = true) → Q y H'
def spShows (Ps : List Addr) (b : Bool) : Sp := fun vs H Q _ => ∃ (v x : V) (W : Web), vs = [v, x] ∧ WebAt H v W ∧ W.Ok ∧ Tabs Ps H ∧
  ((∃ ring, TI H x ring ∧ ring.length ≤ 100 ∧ ∀ H', Ext H H' → Q (.bl (shortest (kindOf W b) ring)) H') ∨ (NoRing H x ∧ ∀ H', Ext H H' → Q (.bl (decide (x = .non) && (kindOf W b).isEmpty)) H'))
def spLookedAt (Ps : List Addr) : Sp := fun vs H Q _ => ∃ (v : V) (W : Web) (f : Int), vs = [v, .int f] ∧ WebAt H v W ∧ W.Ok ∧ (0 ≤ f ∧ f < W.tops.length) ∧ Tabs Ps H ∧ ∀ H' q, Ext H H' → H' q = some (.tup (iv ((looksOf W f).map (·.1)))) → Q (.ref q) H'
theorem kind_sub {W : Web} {b : Bool} {r : List Int} (h : r ∈ kindOf W b) : r ∈ ringsOf W := (List.mem_filter.mp h).1
theorem kind_len {W : Web} (fw : W.Few) (b : Bool) : (kindOf W b).length ≤ 8108730 := Nat.le_trans (List.length_filter_le _ _) (rings_len fw)
section
variable {P : Program} {w : World} {K : PySem.W.Frag} {mg : Str → Option Value} {base : Heap} {Ps : List Addr} {C : Addr}
end
end Lk


/-! ## Cb1 -/
set_option Elab.async false
set_option linter.all false
set_option maxRecDepth 100000
set_option maxHeartbeats 2000000
/-! itertools.combinations of a range: made, asked, at its end. -/
namespace Lk.Cb
open PySem PySem.Spec PyProof.Rows
theorem mro_cb : mroOf (.type "itertools.combinations") = pure [.type "itertools.combinations", .type "object"] := by rw [mroOf_type]; kernel_rfl
theorem lookup_cb_new : typeLookup (.type "itertools.combinations") "__new__" = pure (some (.builtin "itertools.combinations.__new__")) := by rw [typeLookup_type, builtinLookup_eq_fast]; kernel_rfl
theorem slot_cb_init : Slot "itertools.combinations" "__init__" "object.__init__" :=
  .of (owner := "object") (n := "__init__") (by rw [typeLookup_type, builtinLookup_eq_fast]; kernel_rfl) (by decide +kernel) (by decide +kernel) (by decide +kernel) (by first | exact .inl (by decide +kernel) | exact .inr (by decide +kernel)) (by rw [isSubtype_type]; kernel_rfl)
theorem sub_cb : isSubtype (.type "itertools.combinations") (.type "itertools.combinations") = pure true := by rw [isSubtype_type]; kernel_rfl
theorem called_cb : TypeCalled "itertools.combinations" "itertools.combinations.__new__" "object.__init__" :=
  ⟨by decide +kernel, by decide +kernel, ⟨_, _, mro_cb⟩, madeBy_type mro_cb lookup_cb_new (by decide +kernel), by decide +kernel, sub_cb, slot_cb_init⟩
theorem typeCall_cb (a b : Value) : checkTypeCall "itertools.combinations" ⟨[a, b], []⟩ = pure () := by kernel_rfl
theorem newCall_cb (a b : Value) : checkBuiltinCall "itertools.combinations.__new__" ⟨[.type "itertools.combinations", a, b], []⟩ = pure () := by kernel_rfl
theorem entry_cb_new : entryFor table "itertools.combinations.__new__" = some Builtin.«itertools.combinations.__new__» := entryFor_of_tree (by kernel_rfl)
theorem slot_cb_iter : Slot "itertools.combinations" "__iter__" "itertools.combinations.__iter__" :=
  .of (owner := "itertools.combinations") (n := "__iter__") (by rw [typeLookup_type, builtinLookup_eq_fast]; kernel_rfl) (by decide +kernel) (by decide +kernel) (by decide +kernel) (by first | exact .inl (by decide +kernel) | exact .inr (by decide +kernel)) sub_cb
theorem slot_cb_next : Slot "itertools.combinations" "__next__" "itertools.combinations.__next__" :=
  .of (owner := "itertools.combinations") (n := "__next__") (by rw [typeLookup_type, builtinLookup_eq_fast]; kernel_rfl) (by decide +kernel) (by decide +kernel) (by decide +kernel) (by first | exact .inl (by decide +kernel) | exact .inr (by decide +kernel)) sub_cb
theorem entry_cb_iter : entryFor table "itertools.combinations.__iter__" = some Builtin.«dict_keyiterator.__iter__» :=
  entryFor_alias (id' := "dict_keyiterator.__iter__") (by kernel_rfl) (by first | rfl | decide +kernel | (unfold String.splitOn; simp +decide [String.splitOnAux])) (by decide +kernel) (by kernel_rfl)
theorem entry_cb_next : entryFor table "itertools.combinations.__next__" = some Builtin.«itertools.combinations.__next__» := entryFor_of_tree (by kernel_rfl)
theorem owner_cb : Manifest.owners.lookup (String.ofList ['s', 'n', 'o', 'i', 't', 'a', 'n', 'i', 'b', 'm', 'o', 'c', '.', 's', 'l', 'o', 'o', 't', 'r', 'e', 't', 'i'].reverse) = some Manifest.sig_itertools_combinations := by kernel_rfl
theorem args_cb_iter (a : Value) : argsOk "itertools.combinations.__iter__" ⟨[a], []⟩ := by
  unfold argsOk; rw [signature?_of (id := "itertools.combinations.__iter__") (n := ['_', '_', 'r', 'e', 't', 'i', '_', '_']) (o := ['s', 'n', 'o', 'i', 't', 'a', 'n', 'i', 'b', 'm', 'o', 'c', '.', 's', 'l', 'o', 'o', 't', 'r', 'e', 't', 'i']) (by kernel_rfl) owner_cb]; kernel_rfl
theorem args_cb_next (a : Value) : argsOk "itertools.combinations.__next__" ⟨[a], []⟩ := by
  unfold argsOk; rw [signature?_of (id := "itertools.combinations.__next__") (n := ['_', '_', 't', 'x', 'e', 'n', '_', '_']) (o := ['s', 'n', 'o', 'i', 't', 'a', 'n', 'i', 'b', 'm', 'o', 'c', '.', 's', 'l', 'o', 'o', 't', 'r', 'e', 't', 'i']) (by kernel_rfl) owner_cb]; kernel_rfl
theorem noDict_cb : typeHasDict (.type "itertools.combinations") = false := by decide +kernel
theorem noLen_cb : typeLookup (.type "itertools.combinations") "__len__" = pure none := by rw [typeLookup_type, builtinLookup_eq_fast]; kernel_rfl
theorem noHint_cb : typeLookup (.type "itertools.combinations") "__length_hint__" = pure none := by rw [typeLookup_type, builtinLookup_eq_fast]; kernel_rfl
end Lk.Cb

/-! ## Cb2 -/
set_option Elab.async false
set_option linter.all false
set_option maxRecDepth 100000
set_option maxHeartbeats 2000000
namespace Lk.Cb
open PySem PySem.Spec PyProof.Rows
/-- the iterator: its pool at T, 0 fresh, 1 under way, 2 ended, what it gave out last, its places -/
abbrev cbO (T : Addr) (st : Int) (f2 : Value) (ix : List Nat) : Obj := { cls := .type "itertools.combinations", dict := none, data := .fields ([Value.ref T, rawInt st, f2] ++ ix.map fun i : Nat => rawInt i).toArray, slots := #[] }
theorem new_cb {prog : Program} {w : World} {r : Addr} {a b c : Int} {t u v t' : Tok} {n k : Nat} :
    MeetsIn prog w (Builtin.«itertools.combinations.__new__» ⟨[.type "itertools.combinations", .ref r, .int (k : Int) t'], []⟩)
      (fun A R s => A.handled = none ∧ IsRange s.heap r a b c t u v ∧ Builtin.Range.small a b c = true ∧ Builtin.Range.rangeSize a b c = n ∧ n ≤ 1000 ∧ k ≤ 1000 ∧
        ∀ (h' : Heap) (tk : Nat) (acc : Array Value), (∀ b o, s.heap.get? b = some o → h'.get? b = some o) → ItemsOf (fun i v => ∃ t, v = .int (a + i * c) t) acc n →
          R (.ok (.ret (.ref (h'.objs.size + 1)))) { s with heap := (h'.push { cls := .type "tuple", data := .seq acc }).push (cbO h'.objs.size (if k > n then 2 else 0) .none (List.range k)), toks := tk }) :=
  .of_wp fun A R s h => by
    obtain ⟨hh, hr, hs, hn, ln, lk, hq⟩ := h
    unfold Builtin.«itertools.combinations.__new__»
    have hsub := sub_cb
    refine wpAny_bind ?_
    wp_delta
    refine wpAny_bind ?_
    have hh1 : A.in1.handled = none := hh
    have key : ∀ (Q : List Value → Shared → Prop) (E : Value → Shared → Prop), (∀ (h' : Heap) (tk : Nat) (acc : Array Value), (∀ b o, s.heap.get? b = some o → h'.get? b = some o) → ItemsOf (fun i v => ∃ t, v = .int (a + i * c) t) acc n → Q acc.toList { s with heap := h', toks := tk }) → wpAny (model prog w) A.in1 (collect (.ref r)) Q E s :=
      fun Q E h2 => L2.collect_range hh1 hr hs hn (by omega) h2
    have hsub2 : isSubtype (.type "itertools.combinations") (.type ("itertools." ++ "combinations")) = pure true := by
      rw [show ("itertools." ++ "combinations" : String) = "itertools.combinations" from by decide +kernel]
      exact sub_cb
    have hz : ¬ ((decide ((k : Int) < -(2 ^ 63 : Int)) || decide ((k : Int) ≥ 2 ^ 63)) = true) := by
      have x1 : decide ((k : Int) < -(2 ^ 63 : Int)) = false := decide_eq_false (by omega)
      have x2 : decide ((k : Int) ≥ (2 ^ 63 : Int)) = false := decide_eq_false (by omega)
      rw [x1, x2]
      decide
    have h0 : ¬ ((k : Int) < 0) := by omega
    have hm : ¬ (Builtin.Itertools.itTooMany (k : Int) = true) := by
      unfold Builtin.Itertools.itTooMany
      exact fun z => absurd (of_decide_eq_true z) (by omega)
    repeat (first
      | (with_reducible apply key)
      | (refine wpAny_ite_false (by first | exact decide_eq_false hz) ?_)
      | wp_step
      | simp only [List.head?_cons, Option.some_or, List.getElem?_cons_succ, List.getElem?_cons_zero, List.length_cons, List.length_nil, List.forIn_nil])
    intro h' tk acc hk hi

    refine wpAny_ite_false (decide_eq_false h0) ?_
    refine wpAny_ite_false (decide_eq_false hm) ?_
    have l1 : acc.toList.length = n := by rw [Array.length_toList]; exact hi.1
    have lz : ∀ m, m ≤ 2000 → m ≤ sizeLine := fun m h => by
      rw [sizeLine_eq]
      exact Nat.le_trans h (by decide)
    refine wpAny_bind (wpAny_newTuple ?_ (lz _ (by omega)))
    refine wpAny_pure ?_
    show wpAny _ _ (Builtin.Itertools.itNewRecord (.type "itertools.combinations") ([Value.ref h'.objs.size, rawInt (if (k : Int).toNat > acc.toList.length then 2 else 0), Value.none] ++ (List.range (k : Int).toNat).map fun i : Nat => rawInt i) >>= _) _ _ _
    rw [Int.toNat_natCast, l1, Array.toArray_toList]
    unfold Builtin.Itertools.itNewRecord
    rw [noDict_cb]
    refine wpAny_bind ?_
    refine wpAny_ite_true (by rfl) ?_
    refine wpAny_newObj_type ?_ ?_
    · refine wpAny_pure ⟨_, rfl, ?_⟩
      rw [Heap.size_push]
      exact hq h' tk acc hk hi
    · show (List.toArray _).size ≤ sizeLine + 2
      rw [List.size_toArray]
      have := lz (k + 3) (by omega)
      simp only [List.length_append, List.length_cons, List.length_nil, List.length_map, List.length_range]
      omega
end Lk.Cb

/-! ## CbD -/
set_option Elab.async false
set_option linter.all false
/-! Lots of so many numbers below a number, in ascending sequence: what combinations goes through. -/
namespace Lk.Cb
/-- the next places, none at the end -/
def nextC (n : Nat) (ix : List Nat) : Option (List Nat) :=
  match (List.range ix.length).reverse.find? fun i => ix.getD i 0 != i + n - ix.length with
  | none => none
  | some i => some (ix.take i ++ (List.range (ix.length - i)).map (ix.getD i 0 + 1 + ·))
/-- all ascending lists of so many of the d numbers from lo on -/
def cmb : Nat → Nat → Nat → List (List Nat)
  | _, _, 0 => [[]]
  | 0, _, _ + 1 => []
  | d + 1, lo, k + 1 => (cmb d (lo + 1) k).map (lo :: ·) ++ cmb d (lo + 1) (k + 1)
theorem cmb_zero (d lo : Nat) : cmb d lo 0 = [[]] := by cases d <;> rfl
theorem cmb_big : ∀ (d lo k : Nat), d < k → cmb d lo k = []
  | 0, lo, k + 1, _ => rfl
  | d + 1, lo, k + 1, h => by
    show (cmb d (lo + 1) k).map (lo :: ·) ++ cmb d (lo + 1) (k + 1) = []
    rw [cmb_big d (lo + 1) k (by omega), cmb_big d (lo + 1) (k + 1) (by omega)]
    rfl
theorem cmb_len : ∀ (d lo k : Nat), ∀ l ∈ cmb d lo k, l.length = k
  | d, lo, 0, l, h => by
    rw [cmb_zero] at h
    rw [List.mem_singleton.mp h]
    rfl
  | 0, lo, k + 1, l, h => by cases h
  | d + 1, lo, k + 1, l, h => by
    rcases List.mem_append.mp h with h | h
    · obtain ⟨q, hq, rfl⟩ := List.mem_map.mp h
      rw [List.length_cons, cmb_len d (lo + 1) k q hq]
    · exact cmb_len d (lo + 1) (k + 1) l h
/-- one behind the other by nextC, z behind the last -/
def Chain (n : Nat) : List Nat → List (List Nat) → Option (List Nat) → Prop
  | x, [], z => nextC n x = z
  | x, y :: l, z => nextC n x = some y ∧ Chain n y l z
theorem chain_app {n : Nat} {z : Option (List Nat)} {y : List Nat} {m : List (List Nat)} : ∀ {x : List Nat} {l : List (List Nat)}, Chain n x l (some y) → Chain n y m z → Chain n x (l ++ y :: m) z
  | _, [], h, h2 => ⟨h, h2⟩
  | _, _ :: _, h, h2 => ⟨h.1, chain_app h.2 h2⟩
theorem range_rev (k : Nat) : (List.range (k + 1)).reverse = ((List.range k).map (· + 1)).reverse ++ [0] := by
  rw [List.range_succ_eq_map, List.reverse_cons]
/-- one more ahead -/
theorem next_cons {n : Nat} (a : Nat) (q : List Nat) (hn : q.length < n) : nextC n (a :: q) = match nextC n q with
    | some q' => some (a :: q')
    | none => if a = n - (q.length + 1) then none else some ((List.range (q.length + 1)).map (a + 1 + ·)) := by
  have e1 : (List.range (a :: q).length).reverse.find? (fun i => (a :: q).getD i 0 != i + n - (a :: q).length) =
      match (List.range q.length).reverse.find? (fun i => q.getD i 0 != i + n - q.length) with
      | some i => some (i + 1)
      | none => if a = n - (q.length + 1) then none else some 0 := by
    rw [List.length_cons, range_rev, List.find?_append, ← List.map_reverse, List.find?_map]
    have e2 : ((fun i => (a :: q).getD i 0 != i + n - (q.length + 1)) ∘ fun x => x + 1) = fun i => q.getD i 0 != i + n - q.length := by
      funext i
      show ((a :: q).getD (i + 1) 0 != i + 1 + n - (q.length + 1)) = _
      rw [List.getD_cons_succ, show i + 1 + n - (q.length + 1) = i + n - q.length by omega]
    rw [e2]
    cases (List.range q.length).reverse.find? (fun i => q.getD i 0 != i + n - q.length) with
    | some i => rfl
    | none =>
      show ((none : Option Nat).or _) = _
      rw [Option.none_or, List.find?_cons]
      show (match ((a :: q).getD 0 0 != 0 + n - (q.length + 1)) with | true => some 0 | false => List.find? _ []) = _
      rw [List.getD_cons_zero, Nat.zero_add]
      by_cases h : a = n - (q.length + 1)
      · rw [if_pos h, show (a != n - (q.length + 1)) = false from by simp [h]]
        rfl
      · rw [if_neg h, show (a != n - (q.length + 1)) = true from by simp [h]]
  unfold nextC
  rw [e1]
  cases hq : (List.range q.length).reverse.find? (fun i => q.getD i 0 != i + n - q.length) with
  | some i =>
    show some ((a :: q).take (i + 1) ++ (List.range ((a :: q).length - (i + 1))).map ((a :: q).getD (i + 1) 0 + 1 + ·)) = some (a :: (q.take i ++ (List.range (q.length - i)).map (q.getD i 0 + 1 + ·)))
    rw [List.take_succ_cons, List.getD_cons_succ, List.length_cons, show q.length + 1 - (i + 1) = q.length - i by omega]
    rfl
  | none =>
    by_cases h : a = n - (q.length + 1)
    · show (match (if a = n - (q.length + 1) then none else some 0) with | none => none | some i => _) = if a = n - (q.length + 1) then none else _
      rw [if_pos h, if_pos h]
    · show (match (if a = n - (q.length + 1) then none else some 0) with | none => none | some i => some ((a :: q).take i ++ (List.range ((a :: q).length - i)).map ((a :: q).getD i 0 + 1 + ·))) = if a = n - (q.length + 1) then none else _
      rw [if_neg h, if_neg h]
      rfl
theorem chain_map {n k : Nat} (a : Nat) (hk : k < n) : ∀ {x : List Nat} {l : List (List Nat)}, x.length = k → (∀ y ∈ l, y.length = k) → Chain n x l none → Chain n (a :: x) (l.map (a :: ·)) (if a = n - (k + 1) then none else some ((List.range (k + 1)).map (a + 1 + ·)))
  | x, [], hx, _, h => by
    show nextC n (a :: x) = _
    rw [next_cons a x (by omega), show nextC n x = none from h, hx]
  | x, y :: l, hx, hl, h => by
    refine ⟨?_, chain_map a hk (hl y (List.mem_cons_self ..)) (fun z hz => hl z (List.mem_cons_of_mem _ hz)) h.2⟩
    rw [next_cons a x (by omega), h.1]
theorem cmb_chain : ∀ (d lo k : Nat), k ≤ d → ∃ r, cmb d lo k = ((List.range k).map (lo + ·)) :: r ∧ Chain (lo + d) ((List.range k).map (lo + ·)) r none
  | d, lo, 0, _ => ⟨[], cmb_zero d lo, rfl⟩
  | 0, lo, k + 1, h => absurd h (by omega)
  | d + 1, lo, k + 1, h => by
    obtain ⟨r, e, c⟩ := cmb_chain d (lo + 1) k (by omega)
    have hl := cmb_len d (lo + 1) k
    rw [e] at hl
    have e0 : lo :: (List.range k).map (lo + 1 + ·) = (List.range (k + 1)).map (lo + ·) := by
      rw [List.range_succ_eq_map, List.map_cons, List.map_map, Nat.add_zero]
      congr 1
      exact List.map_congr_left fun i _ => by show lo + 1 + i = lo + (i + 1); omega
    rw [show lo + 1 + d = lo + (d + 1) by omega] at c
    have c1 := chain_map (n := lo + (d + 1)) lo (by omega) (hl _ (List.mem_cons_self ..)) (fun y hy => hl y (List.mem_cons_of_mem _ hy)) c
    rw [e0] at c1
    by_cases hd : k = d
    · subst hd
      refine ⟨r.map (lo :: ·), ?_, ?_⟩
      · show (cmb k (lo + 1) k).map (lo :: ·) ++ cmb k (lo + 1) (k + 1) = _
        rw [cmb_big k (lo + 1) (k + 1) (by omega), List.append_nil, e, List.map_cons, e0]
      · rw [if_pos (by omega)] at c1
        exact c1
    · obtain ⟨r2, e2, c2⟩ := cmb_chain d (lo + 1) (k + 1) (by omega)
      rw [if_neg (by omega)] at c1
      rw [show lo + 1 + d = lo + (d + 1) by omega] at c2
      refine ⟨r.map (lo :: ·) ++ ((List.range (k + 1)).map (lo + 1 + ·)) :: r2, ?_, chain_app c1 c2⟩
      show (cmb d (lo + 1) k).map (lo :: ·) ++ cmb d (lo + 1) (k + 1) = _
      rw [e, e2, List.map_cons, e0]
      rfl
end Lk.Cb
namespace Lk.Cb
theorem cmb_lt : ∀ (d lo k : Nat), ∀ l ∈ cmb d lo k, ∀ i ∈ l, lo ≤ i ∧ i < lo + d
  | d, lo, 0, l, h, i, hi => by
    rw [cmb_zero] at h
    rw [List.mem_singleton.mp h] at hi
    cases hi
  | 0, lo, k + 1, l, h, i, hi => by cases h
  | d + 1, lo, k + 1, l, h, i, hi => by
    rcases List.mem_append.mp h with h | h
    · obtain ⟨q, hq, rfl⟩ := List.mem_map.mp h
      rcases List.mem_cons.mp hi with e | hi
      · subst e
        omega
      · have := cmb_lt d (lo + 1) k q hq i hi
        omega
    · have := cmb_lt d (lo + 1) (k + 1) l h i hi
      omega
end Lk.Cb

/-! ## Cb3 -/
set_option Elab.async false
set_option linter.all false
set_option maxRecDepth 100000
set_option maxHeartbeats 2000000
namespace Lk.Cb
open PySem PySem.Spec PyProof.Rows
section
variable {prog : Program} {w : World} {A : Around} {E : Value → Shared → Prop} {s : Shared}
theorem call_cb {r : Addr} {a b c : Int} {t u v t' : Tok} {n k : Nat} {Q : Value → Shared → Prop} (hh : A.handled = none) (hr : IsRange s.heap r a b c t u v) (hs : Builtin.Range.small a b c = true) (hn : Builtin.Range.rangeSize a b c = n) (ln : n ≤ 1000) (lk : k ≤ 1000)
    (h : ∀ (h' : Heap) (tk : Nat) (acc : Array Value) (T : Addr), (∀ b o, s.heap.get? b = some o → h'.get? b = some o) → ItemsOf (fun i v => ∃ t, v = .int (a + i * c) t) acc n → h'.get? T = some { cls := .type "tuple", data := .seq acc } → h'.objs.size = T + 2 → (∀ b o, s.heap.get? b = some o → b < T) →
      h'.get? (T + 1) = some (cbO T (if k > n then 2 else 0) .none (List.range k)) → Q (.ref (T + 1)) { s with heap := h', toks := tk }) :
    wpAny (model prog w) A (call (.type "itertools.combinations") [.ref r, .int (k : Int) t']) Q E s := by
  refine callType_newIn called_cb (by decide +kernel) (typeCall_cb _ _) (newCall_cb _ _) (fun obj => F.args_object_init_3 obj _ _) entry_cb_new (new_cb (n := n) (k := k)) ⟨hh, hr, hs, hn, ln, lk, fun h' tk acc hk hi => ?_⟩
  have e1 : ((h'.push { cls := .type "tuple", data := .seq acc }).push (cbO h'.objs.size (if k > n then 2 else 0) .none (List.range k))).get? (h'.objs.size + 1) = some (cbO h'.objs.size (if k > n then 2 else 0) .none (List.range k)) := Heap.get?_push_at (by rw [Heap.size_push]) rfl
  have e2 : ((h'.push { cls := .type "tuple", data := .seq acc }).push (cbO h'.objs.size (if k > n then 2 else 0) .none (List.range k))).get? h'.objs.size = some { cls := .type "tuple", data := .seq acc } := Heap.get?_push_of_some _ (Heap.get?_push_size _ rfl)
  exact ⟨⟨_, e1, rfl⟩, h _ tk acc h'.objs.size (fun b o e => Heap.get?_push_of_some _ (Heap.get?_push_of_some _ (hk b o e))) hi e2 (by rw [Heap.size_push, Heap.size_push]) (fun b o e => Heap.lt_size (hk b o e)) e1⟩
abbrev tupO (vs : List Value) : Obj := { cls := .type "tuple", data := .seq vs.toArray }
theorem ix_read (T : Addr) (st : Int) (f2 : Value) (ix : List Nat) : ((([Value.ref T, rawInt st, f2] ++ ix.map fun i : Nat => rawInt i).toArray.toList.drop 3).map fun | .int n _ => n.toNat | _ => 0) = ix := by
  show ((ix.map fun i : Nat => rawInt i).map _) = ix
  rw [List.map_map]
  conv => rhs; rw [← List.map_id ix]
  exact List.map_congr_left fun n _ => by
    show ((n : Int)).toNat = n
    exact Int.toNat_natCast n
theorem numbers_read {it T : Addr} {st : Int} {f2 : Value} {ix : List Nat} {Q : List Nat → Shared → Prop} (hit : s.heap.get? it = some (cbO T st f2 ix)) (h : Q ix s) : wpAny (model prog w) A (Builtin.Itertools.itNumbersFrom (.ref it) 3) Q E s := by
  unfold Builtin.Itertools.itNumbersFrom
  refine wpAny_bind (wpAny_load hit ?_)
  refine wpAny_pure ?_
  have e := ix_read T st f2 ix
  show Q ((([Value.ref T, rawInt st, f2] ++ ix.map fun i : Nat => rawInt i).toArray.toList.drop 3).map fun | .int n _ => n.toNat | _ => 0) s
  rw [e]
  exact h
theorem int_read {it T : Addr} {st : Int} {f2 : Value} {ix : List Nat} {Q : Int → Shared → Prop} (hit : s.heap.get? it = some (cbO T st f2 ix)) (h : Q st s) : wpAny (model prog w) A (Builtin.Itertools.itIntField (.ref it) 1) Q E s := by
  unfold Builtin.Itertools.itIntField
  refine wpAny_bind (wpAny_field hit rfl (x := rawInt st) rfl ?_)
  exact wpAny_pure h
theorem field_set {it T : Addr} {st : Int} {f2 : Value} {ix : List Nat} (j : Nat) (x : Value) (st' : Int) (f2' : Value) (hj : ([Value.ref T, rawInt st, f2] ++ ix.map fun i : Nat => rawInt i).set j x = [Value.ref T, rawInt st', f2'] ++ ix.map fun i : Nat => rawInt i) (hj3 : j < 3) {Q : Unit → Shared → Prop} (hit : s.heap.get? it = some (cbO T st f2 ix))
    (h : ∀ h', h'.get? it = some (cbO T st' f2' ix) → Heap.SameBut it s.heap h' → Q () { s with heap := h' }) : wpAny (model prog w) A (setField (.ref it) j x) Q E s := by
  refine wpAny_setField_rec hit (by simp; omega) fun h1 z1 b1 => h h1 ?_ b1
  rw [z1, List.setIfInBounds_toArray, hj]
theorem hand_out {it T : Addr} {f2 : Value} {vs : Array Value} {ix : List Nat} {Q : PySem.Fin → Shared → Prop} (hit : s.heap.get? it = some (cbO T 1 f2 ix)) (hT : s.heap.get? T = some { cls := .type "tuple", data := .seq vs }) (hl : ix.length ≤ 1000)
    (hQ : ∀ h', h'.get? it = some (cbO T 1 (.ref s.heap.objs.size) ix) → h'.get? s.heap.objs.size = some (tupO (ix.map fun i => vs.getD i .none)) → h'.objs.size = s.heap.objs.size + 1 → (∀ b o, b ≠ it → s.heap.get? b = some o → h'.get? b = some o) → Q (.done (.ret (.ref s.heap.objs.size))) { s with heap := h' }) :
    wpAny (model prog w) A (do
      let a ← (do
        let items ← Builtin.Itertools.itPoolItems (.ref T)
        newTuple (ix.map fun i => items.getD i .none))
      let before ← field (.ref it) 2
      setField (.ref it) 2 a
      letGo [before] [a]
      ret a) Q E s := by
  obtain ⟨hp, g, dr, tk, os⟩ := s
  have hil : it < hp.objs.size := Heap.lt_size hit
  refine wpAny_bind ?_
  refine wpAny_bind ?_
  unfold Builtin.Itertools.itPoolItems
  refine wpAny_bind (wpAny_seqItems hT rfl (wpAny_pure ?_))
  refine wpAny_newTuple ?_ (by
    rw [List.length_map, sizeLine_eq]
    exact Nat.le_trans hl (by decide))
  have z2 : (hp.push (tupO (ix.map fun i => vs.getD i .none))).get? it = some (cbO T 1 f2 ix) := Heap.get?_push_of_some _ hit
  have z3 : (hp.push (tupO (ix.map fun i => vs.getD i .none))).get? hp.objs.size = some (tupO (ix.map fun i => vs.getD i .none)) := Heap.get?_push_size _ rfl
  show wpAny _ _ (field (.ref it) 2 >>= _) _ _ ⟨hp.push (tupO (ix.map fun i => vs.getD i .none)), g, dr, tk, os⟩
  refine wpAny_bind (wpAny_field z2 rfl (x := f2) rfl ?_)
  refine wpAny_bind (field_set 2 (.ref hp.objs.size) 1 (.ref hp.objs.size) rfl (by decide) z2 fun h3 z4 b4 => ?_)
  refine wpAny_bind (wpAny_letGo ?_)
  refine wpAny_pure (hQ h3 z4 (b4.extBut _ _ (Nat.ne_of_gt hil) z3) ?_ fun b o hb e => b4.extBut b o hb (Heap.get?_push_of_some _ e))
  show h3.objs.size = hp.objs.size + 1
  rw [b4.1, Heap.size_push]
theorem next_fresh {it T : Addr} {f2 : Value} {vs : Array Value} {ix : List Nat} {Q : Option Value → Shared → Prop} (hit : s.heap.get? it = some (cbO T 0 f2 ix)) (hT : s.heap.get? T = some { cls := .type "tuple", data := .seq vs }) (hl : ix.length ≤ 1000)
    (hQ : ∀ h', h'.get? it = some (cbO T 1 (.ref s.heap.objs.size) ix) → h'.get? s.heap.objs.size = some (tupO (ix.map fun i => vs.getD i .none)) → h'.objs.size = s.heap.objs.size + 1 → (∀ b o, b ≠ it → s.heap.get? b = some o → h'.get? b = some o) → Q (some (.ref s.heap.objs.size)) { s with heap := h' }) :
    wpAny (model prog w) A (pyNext (.ref it)) Q E s := by
  obtain ⟨hp, g, dr, tk, os⟩ := s
  have hY : Shared.TypeIs ⟨hp, g, dr, tk, os⟩ (.ref it) "itertools.combinations" := ⟨_, hit, rfl⟩
  unfold pyNext
  refine wpAny_bind (wpAny_attempt (wpAny_callSpecial?_slot (name := Str.ofString "__next__") hY slot_cb_next (wpAny_call_entry slot_cb_next hY entry_cb_next ?_ (args_cb_next _))))
  unfold Builtin.«itertools.combinations.__next__»
  wp_delta
  refine wpAny_bind (wpAny_pure ?_)
  show wpAny _ _ (field (.ref it) 0 >>= _) _ _ _
  refine wpAny_bind (wpAny_field hit rfl (x := .ref T) rfl ?_)
  refine wpAny_bind (numbers_read hit ?_)
  refine wpAny_bind (int_read hit ?_)
  refine wpAny_bind (field_set 1 (rawInt 1) 1 f2 rfl (by decide) hit fun h1 z1 b1 => ?_)
  have hTi : T ≠ it := fun z => by
    rw [z, hit] at hT
    exact absurd (congrArg (fun o : Option Obj => o.map (·.cls)) hT) (by simp)
  have eZ : h1.objs.size = hp.objs.size := b1.1
  refine hand_out z1 (b1.extBut _ _ hTi hT) hl fun h' y1 y2 y3 y4 => ⟨_, rfl, wpAny_pure ?_⟩
  show Q (some (.ref h1.objs.size)) ⟨h', g, dr, tk, os⟩
  rw [eZ]
  exact hQ h' (by rw [← eZ]; exact y1) (by rw [← eZ]; exact y2) (by rw [← eZ]; exact y3) fun b o hb e => y4 b o hb (b1.extBut b o hb e)
theorem numbers_laid (T : Addr) (st : Int) (f2 : Value) (ix ix' : List Nat) : ([Value.ref T, rawInt st, f2] ++ ix.map fun i : Nat => rawInt i).toArray.extract 0 3 ++ (ix'.map fun n : Nat => rawInt n).toArray = ([Value.ref T, rawInt st, f2] ++ ix'.map fun i : Nat => rawInt i).toArray := by
  rw [List.extract_toArray]
  simp
theorem numbers_set {it T : Addr} {st : Int} {f2 : Value} {ix ix' : List Nat} (hl : ix'.length ≤ 1000) {Q : Unit → Shared → Prop} (hit : s.heap.get? it = some (cbO T st f2 ix)) (h : ∀ h', h'.get? it = some (cbO T st f2 ix') → Heap.SameBut it s.heap h' → Q () { s with heap := h' }) :
    wpAny (model prog w) A (Builtin.Itertools.itSetNumbersFrom (.ref it) 3 ix') Q E s := by
  unfold Builtin.Itertools.itSetNumbersFrom
  refine wpAny_updateFields hit rfl (h _ ?_ (Heap.SameBut.update ..)) ?_
  · rw [Heap.get?_update_self _ hit rfl]
    show some ({ cls := .type "itertools.combinations", dict := none, data := .fields (([Value.ref T, rawInt st, f2] ++ ix.map fun i : Nat => rawInt i).toArray.extract 0 3 ++ (ix'.map fun n : Nat => rawInt n).toArray), slots := #[] } : Obj) = _
    rw [numbers_laid]
  · rw [numbers_laid, List.size_toArray, sizeLine_eq]
    simp only [List.length_append, List.length_cons, List.length_nil, List.length_map]
    omega
theorem next_again {it T : Addr} {f2 : Value} {vs : Array Value} {ix ix' : List Nat} {Q : Option Value → Shared → Prop} (hit : s.heap.get? it = some (cbO T 1 f2 ix)) (hT : s.heap.get? T = some { cls := .type "tuple", data := .seq vs }) (hl : ix'.length ≤ 1000) (hn : nextC vs.size ix = some ix')
    (hQ : ∀ h', h'.get? it = some (cbO T 1 (.ref s.heap.objs.size) ix') → h'.get? s.heap.objs.size = some (tupO (ix'.map fun i => vs.getD i .none)) → h'.objs.size = s.heap.objs.size + 1 → (∀ b o, b ≠ it → s.heap.get? b = some o → h'.get? b = some o) → Q (some (.ref s.heap.objs.size)) { s with heap := h' }) :
    wpAny (model prog w) A (pyNext (.ref it)) Q E s := by
  obtain ⟨hp, g, dr, tk, os⟩ := s
  have hY : Shared.TypeIs ⟨hp, g, dr, tk, os⟩ (.ref it) "itertools.combinations" := ⟨_, hit, rfl⟩
  unfold pyNext
  refine wpAny_bind (wpAny_attempt (wpAny_callSpecial?_slot (name := Str.ofString "__next__") hY slot_cb_next (wpAny_call_entry slot_cb_next hY entry_cb_next ?_ (args_cb_next _))))
  unfold Builtin.«itertools.combinations.__next__»
  wp_delta
  refine wpAny_bind (wpAny_pure ?_)
  show wpAny _ _ (field (.ref it) 0 >>= _) _ _ _
  refine wpAny_bind (wpAny_field hit rfl (x := .ref T) rfl ?_)
  refine wpAny_bind (numbers_read hit ?_)
  refine wpAny_bind (int_read hit ?_)
  have hTi : T ≠ it := fun z => by
    rw [z, hit] at hT
    exact absurd (congrArg (fun o : Option Obj => o.map (·.cls)) hT) (by simp)
  refine wpAny_bind ?_
  unfold Builtin.Itertools.itPoolItems
  refine wpAny_bind (wpAny_seqItems hT rfl (wpAny_pure ?_))
  split
  case h_2 heq => exact absurd ((show nextC vs.size ix = none from heq).symm.trans hn) (by simp)
  case h_1 nx heq =>
    obtain rfl : nx = ix' := Option.some.inj ((show nextC vs.size ix = some nx from heq).symm.trans hn)
    refine wpAny_bind (numbers_set hl hit fun h1 z1 b1 => ?_)
    have eZ : h1.objs.size = hp.objs.size := b1.1
    refine hand_out z1 (b1.extBut _ _ hTi hT) hl fun h' y1 y2 y3 y4 => ⟨_, rfl, wpAny_pure ?_⟩
    show Q (some (.ref h1.objs.size)) ⟨h', g, dr, tk, os⟩
    rw [eZ]
    exact hQ h' (by rw [← eZ]; exact y1) (by rw [← eZ]; exact y2) (by rw [← eZ]; exact y3) fun b o hb e => y4 b o hb (b1.extBut b o hb e)
theorem stop_raised {Q : Option Value → Shared → Prop} (hh : A.handled = none) (hQ : ∀ h', (∀ b o, s.heap.get? b = some o → h'.get? b = some o) → Q none { s with heap := h' }) :
    wpAny (model prog w) A.in1 (Builtin.Itertools.itStop (α := PySem.Fin)) (fun fin s' => False) (fun e s' => wpAny (model prog w) A (do
      let b ← isInstance e (.type "StopIteration")
      if b = true then pure none else throw e) Q E s') s := by
  unfold Builtin.Itertools.itStop
  refine wpAny_bind ?_
  simp only [newExc, newTuple]
  refine wpAny_bind (wpAny_newObj_type ?_ (by size_fits))
  refine wpAny_bind (m := firstArgMember _ _) (wpAny_of_eq (a := Value.none) (by first | rfl | (simp only [firstArgMember]; rfl)) ?_)
  refine wpAny_newObj_type ?_ (by size_fits)
  simp only [raiseNew]
  refine wpAny_bind (wpAny_handled ?_)
  rw [show A.in1.handled = none from hh]
  refine wpAny_bind (wpAny_pure (wpAny_throw ?_))
  refine wpAny_bind (wpAny_isInstance (T := "StopIteration") (b := true) ⟨_, Heap.get?_push_size _ rfl, rfl⟩ isSubtype_stop ?_)
  exact wpAny_pure (hQ _ fun b o e => Heap.get?_push_of_some _ (Heap.get?_push_of_some _ e))
theorem next_last {it T : Addr} {f2 : Value} {vs : Array Value} {ix : List Nat} {Q : Option Value → Shared → Prop} (hh : A.handled = none) (hit : s.heap.get? it = some (cbO T 1 f2 ix)) (hT : s.heap.get? T = some { cls := .type "tuple", data := .seq vs }) (hn : nextC vs.size ix = none)
    (hQ : ∀ h', Heap.ExtBut it s.heap h' → Q none { s with heap := h' }) :
    wpAny (model prog w) A (pyNext (.ref it)) Q E s := by
  obtain ⟨hp, g, dr, tk, os⟩ := s
  have hY : Shared.TypeIs ⟨hp, g, dr, tk, os⟩ (.ref it) "itertools.combinations" := ⟨_, hit, rfl⟩
  unfold pyNext
  refine wpAny_bind (wpAny_attempt (wpAny_callSpecial?_slot (name := Str.ofString "__next__") hY slot_cb_next (wpAny_call_entry slot_cb_next hY entry_cb_next ?_ (args_cb_next _))))
  unfold Builtin.«itertools.combinations.__next__»
  wp_delta
  refine wpAny_bind (wpAny_pure ?_)
  show wpAny _ _ (field (.ref it) 0 >>= _) _ _ _
  refine wpAny_bind (wpAny_field hit rfl (x := .ref T) rfl ?_)
  refine wpAny_bind (numbers_read hit ?_)
  refine wpAny_bind (int_read hit ?_)
  refine wpAny_bind ?_
  unfold Builtin.Itertools.itPoolItems
  refine wpAny_bind (wpAny_seqItems hT rfl (wpAny_pure ?_))
  split
  case h_1 nx heq => exact absurd ((show nextC vs.size ix = some nx from heq).symm.trans hn) (by simp)
  case h_2 heq =>
    refine wpAny_bind (field_set 1 (rawInt 2) 2 f2 rfl (by decide) hit fun h1 z1 b1 => ?_)
    refine wpAny_mono (stop_raised (A := A) (s := ⟨h1, g, dr, tk, os⟩) (Q := Q) hh fun h' k => hQ h' fun b o hb e => k b o (b1.extBut b o hb e)) (fun _ _ z => z.elim) fun e s' z => z
theorem next_none {it T : Addr} {f2 : Value} {ix : List Nat} {Q : Option Value → Shared → Prop} (hh : A.handled = none) (hit : s.heap.get? it = some (cbO T 2 f2 ix))
    (hQ : ∀ h', Heap.ExtBut it s.heap h' → Q none { s with heap := h' }) :
    wpAny (model prog w) A (pyNext (.ref it)) Q E s := by
  obtain ⟨hp, g, dr, tk, os⟩ := s
  have hY : Shared.TypeIs ⟨hp, g, dr, tk, os⟩ (.ref it) "itertools.combinations" := ⟨_, hit, rfl⟩
  unfold pyNext
  refine wpAny_bind (wpAny_attempt (wpAny_callSpecial?_slot (name := Str.ofString "__next__") hY slot_cb_next (wpAny_call_entry slot_cb_next hY entry_cb_next ?_ (args_cb_next _))))
  unfold Builtin.«itertools.combinations.__next__»
  wp_delta
  refine wpAny_bind (wpAny_pure ?_)
  show wpAny _ _ (field (.ref it) 0 >>= _) _ _ _
  refine wpAny_bind (wpAny_field hit rfl (x := .ref T) rfl ?_)
  refine wpAny_bind (numbers_read hit ?_)
  refine wpAny_bind (int_read hit ?_)
  refine wpAny_bind (wpAny_rule ?_)
  exact wpAny_mono (stop_raised (A := A) (s := ⟨hp, g, dr, tk, os⟩) (Q := Q) hh fun h' k => hQ h' fun b o hb e => k b o e) (fun _ _ z => z.elim) fun e s' z => z
end
end Lk.Cb

/-! ## Cb4 -/
set_option Elab.async false
set_option linter.all false
set_option maxRecDepth 100000
set_option maxHeartbeats 2000000
/-! list(combinations(..)): all lots, one tuple behind the other. -/
namespace Lk.Cb
open PySem PySem.Spec PyProof.Rows
/-- what the iterator will still give out -/
def Rem (h : Heap) (n : Nat) (it T : Addr) (rs : List (List Nat)) : Prop :=
  (∃ (x : List Nat) (r : List (List Nat)) (f2 : Value), rs = x :: r ∧ h.get? it = some (cbO T 0 f2 x) ∧ Chain n x r none) ∨ (∃ (y : List Nat) (f2 : Value), h.get? it = some (cbO T 1 f2 y) ∧ Chain n y rs none) ∨ (rs = [] ∧ ∃ (ix : List Nat) (f2 : Value), h.get? it = some (cbO T 2 f2 ix))
theorem Rem.keep {h h' : Heap} {n : Nat} {it T : Addr} {rs : List (List Nat)} (x : Rem h n it T rs) (k : ∀ o, h.get? it = some o → h'.get? it = some o) : Rem h' n it T rs := by
  rcases x with ⟨x, r, f2, e, h1, c⟩ | ⟨y, f2, h1, c⟩ | ⟨e, ix, f2, h1⟩
  · exact .inl ⟨x, r, f2, e, k _ h1, c⟩
  · exact .inr (.inl ⟨y, f2, k _ h1, c⟩)
  · exact .inr (.inr ⟨e, ix, f2, k _ h1⟩)
theorem Rem.there {h : Heap} {n : Nat} {it T : Addr} {rs : List (List Nat)} (x : Rem h n it T rs) : ∃ o, h.get? it = some o ∧ o.cls = .type "itertools.combinations" := by
  rcases x with ⟨x, r, f2, e, h1, c⟩ | ⟨y, f2, h1, c⟩ | ⟨e, ix, f2, h1⟩ <;> exact ⟨_, h1, rfl⟩
section
variable {prog : Program} {w : World} {A : Around} {E : Value → Shared → Prop} {s : Shared} {it T : Addr} {vs : Array Value}
theorem rem_step {x : List Nat} {r : List (List Nat)} {Q : Option Value → Shared → Prop} (hR : Rem s.heap vs.size it T (x :: r)) (hT : s.heap.get? T = some { cls := .type "tuple", data := .seq vs }) (hl : x.length ≤ 1000)
    (hQ : ∀ h', Rem h' vs.size it T r → h'.get? s.heap.objs.size = some (tupO (x.map fun i => vs.getD i .none)) → h'.objs.size = s.heap.objs.size + 1 → (∀ b o, b ≠ it → s.heap.get? b = some o → h'.get? b = some o) → Q (some (.ref s.heap.objs.size)) { s with heap := h' }) :
    wpAny (model prog w) A (pyNext (.ref it)) Q E s := by
  rcases hR with ⟨x', r', f2, e, h1, c⟩ | ⟨y, f2, h1, c⟩ | ⟨e, _⟩
  · cases e
    exact next_fresh h1 hT hl fun h' z1 z2 z3 z4 => hQ h' (.inr (.inl ⟨_, _, z1, c⟩)) z2 z3 z4
  · exact next_again h1 hT hl c.1 fun h' z1 z2 z3 z4 => hQ h' (.inr (.inl ⟨_, _, z1, c.2⟩)) z2 z3 z4
  · cases e
theorem rem_end {Q : Option Value → Shared → Prop} (hh : A.handled = none) (hR : Rem s.heap vs.size it T []) (hT : s.heap.get? T = some { cls := .type "tuple", data := .seq vs }) (hQ : ∀ h', Heap.ExtBut it s.heap h' → Q none { s with heap := h' }) :
    wpAny (model prog w) A (pyNext (.ref it)) Q E s := by
  rcases hR with ⟨x', r', f2, e, _⟩ | ⟨y, f2, h1, c⟩ | ⟨_, ix, f2, h1⟩
  · cases e
  · exact next_last hh h1 hT c hQ
  · exact next_none hh h1 hQ
end
/-- the tuples given out, each above lo -/
structure Laid (vs : Array Value) (lo : Addr) (h : Heap) (as : List Addr) (ls : List (List Nat)) : Prop where
  rise : as.Pairwise (· < ·)
  above : ∀ a ∈ as, lo < a
  len : as.length = ls.length
  tups : ∀ (j : Nat) (a : Addr), as[j]? = some a → ∃ l, ls[j]? = some l ∧ h.get? a = some (tupO (l.map fun i => vs.getD i .none))
theorem Laid.there {vs : Array Value} {lo : Addr} {h : Heap} {as : List Addr} {ls : List (List Nat)} (g : Laid vs lo h as ls) {a : Addr} (ha : a ∈ as) : a < h.objs.size := by
  obtain ⟨j, hj⟩ := List.mem_iff_getElem?.mp ha
  obtain ⟨_, _, e⟩ := g.tups j a hj
  exact Heap.lt_size e
theorem Laid.keep {vs : Array Value} {lo : Addr} {h h' : Heap} {as : List Addr} {ls : List (List Nat)} (g : Laid vs lo h as ls) (k : ∀ a o, lo < a → h.get? a = some o → h'.get? a = some o) : Laid vs lo h' as ls :=
  ⟨g.rise, g.above, g.len, fun j a hj => by
    obtain ⟨l, e1, e2⟩ := g.tups j a hj
    exact ⟨l, e1, k a _ (g.above a (List.mem_of_getElem? hj)) e2⟩⟩
theorem Laid.more {vs : Array Value} {lo : Addr} {h h' : Heap} {as : List Addr} {ls : List (List Nat)} (g : Laid vs lo h as ls) {x : List Nat} (hlo : lo < h.objs.size) (hx : h'.get? h.objs.size = some (tupO (x.map fun i => vs.getD i .none))) (k : ∀ a o, lo < a → h.get? a = some o → h'.get? a = some o) : Laid vs lo h' (as ++ [h.objs.size]) (ls ++ [x]) := by
  refine ⟨?_, fun a ha => ?_, by rw [List.length_append, List.length_append, g.len]; rfl, fun j a hj => ?_⟩
  · refine List.pairwise_append.mpr ⟨g.rise, List.pairwise_singleton _ _, fun a ha b hb => ?_⟩
    rw [List.mem_singleton.mp hb]
    exact g.there ha
  · rcases List.mem_append.mp ha with ha | ha
    · exact g.above a ha
    · rw [List.mem_singleton.mp ha]
      exact hlo
  · by_cases hlt : j < as.length
    · rw [List.getElem?_append_left hlt] at hj
      obtain ⟨l, e1, e2⟩ := g.tups j a hj
      exact ⟨l, by rw [List.getElem?_append_left (by rw [← g.len]; exact hlt)]; exact e1, k a _ (g.above a (List.mem_of_getElem? hj)) e2⟩
    · have hlen := (List.getElem?_eq_some_iff.mp hj).1
      rw [List.length_append, List.length_singleton] at hlen
      have ej : j = as.length := by omega
      subst ej
      have ea : h.objs.size = a := by simpa using hj
      subst ea
      exact ⟨x, by rw [g.len]; simp, hx⟩
section
variable {prog : Program} {w : World} {A : Around} {s : Shared} {R : Result → Shared → Prop} {vs : Array Value} {it T S : Addr}
theorem cb_loop (hh : A.handled = none) (hIS : it < S) (hTS : T < S) (hTi : T ≠ it) (all : List (List Nat)) (hn : all.length ≤ 100000) (hlen : ∀ l ∈ all, l.length ≤ 1000) (res : Value) {h₁ : Heap}
    (hR : ∀ h' acc c as, (∀ b o, b ≠ S → b ≠ it → h₁.get? b = some o → h'.get? b = some o) → h'.get? S = some { cls := .type "list", dict := none, data := .seq acc c, slots := #[] } → Laid vs S h' as all → acc.toList = as.map Value.ref → R (.ok (.ret res)) { s with heap := h' }) :
    ∀ (rs dn : List (List Nat)) (h : Heap) (c : Nat) (acc : Array Value) (as : List Addr), dn ++ rs = all → Rem h vs.size it T rs → h.get? T = some { cls := .type "tuple", data := .seq vs } → (∀ b o, b ≠ S → b ≠ it → h₁.get? b = some o → h.get? b = some o) →
      h.get? S = some { cls := .type "list", dict := none, data := .seq acc c, slots := #[] } → acc.toList = as.map Value.ref → Laid vs S h as dn →
      codeAny (model prog w) A (.builtin "list.extend.loop" ⟨[.ref S, .ref it, res], []⟩) R { s with heap := h } := by
  have neI : S ≠ it := Nat.ne_of_gt hIS
  have neT : T ≠ S := Nat.ne_of_lt hTS
  intro rs
  induction rs with
  | nil =>
    intro dn h c acc as hall hrem hTt hk hS hacc hG
    rw [List.append_nil] at hall
    subst hall
    refine codeAny_builtin PySem.F.entry_extend_loop ?_
    rw [Around.under_plainId PySem.F.plain_extend_loop _]
    show wpAny _ A.in1 (pyNext (.ref it) >>= _) _ _ _
    refine wpAny_bind (rem_end (s := { s with heap := h }) (A := A.in1) hh hrem hTt fun h' he => ?_)
    exact wpAny_pure (hR h' acc c as (fun b o h1 h2 e => he b o h2 (hk b o h1 h2 e)) (he S _ neI hS) (hG.keep fun a o ha e => he a o (Nat.ne_of_gt (Nat.lt_trans hIS ha)) e) hacc)
  | cons x r ih =>
    intro dn h c acc as hall hrem hTt hk hS hacc hG
    have hxm : x ∈ all := by rw [← hall]; exact List.mem_append_right _ (List.mem_cons_self ..)
    have hsz : acc.size = dn.length := by rw [← Array.length_toList, hacc, List.length_map, hG.len]
    have hdn : dn.length < all.length := by rw [← hall, List.length_append, List.length_cons]; omega
    refine codeAny_builtin PySem.F.entry_extend_loop ?_
    rw [Around.under_plainId PySem.F.plain_extend_loop _]
    show wpAny _ A.in1 (pyNext (.ref it) >>= _) _ _ _
    refine wpAny_bind (rem_step (s := { s with heap := h }) hrem hTt (hlen x hxm) fun h' hrem' hx hz hkp => ?_)
    dsimp only at hx hz hkp ⊢
    have hS' := hkp S _ neI hS
    have hSl : S < h.objs.size := Heap.lt_size hS
    have up : ∀ b o, b ≠ S → h'.get? b = some o → (h'.update S (Obj.mapSeq (·.push (Value.ref h.objs.size)))).get? b = some o := fun b o hb e => (Heap.get?_update_other _ _ (Ne.symm hb)).trans e
    show wpAny _ A.in1 (updateSeq S (·.push (Value.ref h.objs.size)) >>= _) _ _ _
    refine wpAny_bind ?_
    refine wpAny_updateSeq hS' rfl (wpAny_pure ⟨plainId_quiet PySem.F.plain_extend_loop _, ih (dn ++ [x]) _ _ (acc.push (Value.ref h.objs.size)) (as ++ [h.objs.size]) (by rw [← hall, List.append_assoc]; rfl) (hrem'.keep fun o e => up it o (Ne.symm neI) e) (up T _ neT (hkp T _ hTi hTt))
      (fun b o h1 h2 e => up b o h1 (hkp b o h2 (hk b o h1 h2 e))) (Heap.get?_update_self _ hS' rfl) (by rw [Array.toList_push, hacc, List.map_append]; rfl) (hG.more hSl (up _ _ (Nat.ne_of_gt hSl) hx) fun a o ha e => up a o (Nat.ne_of_gt ha) (hkp a o (Nat.ne_of_gt (Nat.lt_trans hIS ha)) e))⟩) ?_ ?_
    · rw [hsz, sizeLine_eq]
      omega
    · show (acc.push (Value.ref h.objs.size)).size ≤ sizeLine + 1
      rw [Array.size_push, hsz, sizeLine_eq]
      omega
end
section
variable {prog : Program} {w : World} {A : Around} {E : Value → Shared → Prop} {s : Shared} {R : Result → Shared → Prop} {vs : Array Value} {it T S : Addr}
theorem iter_cb {rs : List (List Nat)} {n : Nat} {Q : Value → Shared → Prop} (hR : Rem s.heap n it T rs) (h : Q (.ref it) s) : wpAny (model prog w) A (pyIter (.ref it)) Q E s := by
  have hY : s.TypeIs (.ref it) "itertools.combinations" := hR.there
  refine wpAny_pyIter_slot hY slot_cb_iter (wpAny_call_entry slot_cb_iter hY entry_cb_iter ?_ (args_cb_iter _))
  show wpAny _ _ (ret (.ref it)) _ _ s
  exact wpAny_pure ⟨_, rfl, "itertools.combinations", _, hY, slot_cb_next.lookup, h⟩
theorem cb_extend (hh : A.handled = none) (hIS : it < S) (hTS : T < S) (hTi : T ≠ it) (all : List (List Nat)) (hn : all.length ≤ 100000) (hlen : ∀ l ∈ all, l.length ≤ 1000) (hrem : Rem s.heap vs.size it T all) (hT : s.heap.get? T = some { cls := .type "tuple", data := .seq vs }) (res : Value) (c₀ : Nat)
    (hS : s.heap.get? S = some { cls := .type "list", data := .seq #[] c₀ })
    (hR : ∀ h' acc c as, (∀ b o, b ≠ S → b ≠ it → s.heap.get? b = some o → h'.get? b = some o) → h'.get? S = some { cls := .type "list", dict := none, data := .seq acc c, slots := #[] } → Laid vs S h' as all → acc.toList = as.map Value.ref → R (.ok (.ret res)) { s with heap := h' }) :
    wpAny (model prog w) A.in1 (Builtin.List.listExtendWith (.ref S) (.ref it) res)
      (fun fin s' => match fin with | .done f => R (.ok f) s' | .again c' => c'.quiet = true ∧ codeAny (model prog w) A c' R s') (fun e s' => R (.error e) s') s := by
  have hY : s.TypeIs (.ref it) "itertools.combinations" := hrem.there
  unfold Builtin.List.listExtendWith
  refine wpAny_bind (wpAny_typeOf (T := "itertools.combinations") hY ?_)
  have h1 : Builtin.List.listSameRef (.ref S) (.ref it) = false := by simp [Builtin.List.listSameRef, Nat.ne_of_gt hIS]
  have h2 : (Value.type "itertools.combinations" == Value.type "list") = false := by decide
  have h3 : (Value.type "itertools.combinations" == Value.type "tuple") = false := by decide
  simp only [h1, h2, h3, Bool.or_false, Bool.false_eq_true, if_false]
  refine wpAny_bind (iter_cb hrem ?_)
  refine wpAny_bind (wpAny_holding ?_)
  unfold Builtin.List.listLengthHint
  refine wpAny_bind (wpAny_specialOf hY noLen_cb ?_)
  show wpAny _ A.in1 (specialOf (Value.ref it) (Str.ofString "__length_hint__") >>= _) _ _ _
  refine wpAny_bind (wpAny_specialOf hY noHint_cb ?_)
  refine wpAny_pure ?_
  show wpAny _ A.in1 (rule "list.extend.makes-room" >>= fun _ => Builtin.List.listTouch (.ref S) >>= fun _ => again (.builtin "list.extend.loop" ⟨[.ref S, .ref it, res], []⟩)) _ _ _
  refine wpAny_bind (wpAny_rule ?_)
  refine wpAny_bind ?_
  show wpAny _ A.in1 (updateSeq S (·.push .none) >>= fun _ => updateSeq S (·.pop)) _ _ _
  refine wpAny_bind (wpAny_updateSeq hS rfl ?_)
  have hS₂ := Heap.get?_update_self (Obj.mapSeq (·.push Value.none)) hS rfl
  refine wpAny_updateSeq (hz := by seq_fits) hS₂ rfl ?_
  have hS₃ := Heap.get?_update_self (Obj.mapSeq (·.pop)) hS₂ rfl
  have oth : ∀ b o, b ≠ S → s.heap.get? b = some o → ((s.heap.update S (Obj.mapSeq (·.push Value.none))).update S (Obj.mapSeq (·.pop))).get? b = some o := fun b o hb e => (Heap.get?_update_other _ _ (Ne.symm hb)).trans ((Heap.get?_update_other _ _ (Ne.symm hb)).trans e)
  refine wpAny_pure ⟨plainId_quiet PySem.F.plain_extend_loop _, cb_loop (s := s) (h₁ := s.heap) hh hIS hTS hTi all hn hlen res hR all [] _ _ #[] [] rfl (hrem.keep fun o e => oth it o (Nat.ne_of_lt hIS) e) (oth T _ (Nat.ne_of_lt hTS) hT) (fun b o h1 h2 e => oth b o h1 e) hS₃ rfl ?_⟩
  exact ⟨List.Pairwise.nil, (fun _ ha => nomatch ha), rfl, (fun j a hj => by simp at hj)⟩
theorem cb_init (hh : A.handled = none) (hIS : it < S) (hTS : T < S) (hTi : T ≠ it) (all : List (List Nat)) (hn : all.length ≤ 100000) (hlen : ∀ l ∈ all, l.length ≤ 1000) (hrem : Rem s.heap vs.size it T all) (hT : s.heap.get? T = some { cls := .type "tuple", data := .seq vs })
    (hS : s.heap.get? S = some { cls := .type "list", data := .seq #[] })
    (hR : ∀ h' acc c as, (∀ b o, b ≠ S → b ≠ it → s.heap.get? b = some o → h'.get? b = some o) → h'.get? S = some { cls := .type "list", dict := none, data := .seq acc c, slots := #[] } → Laid vs S h' as all → acc.toList = as.map Value.ref → R (.ok (.ret .none)) { s with heap := h' }) :
    wpAny (model prog w) A.in1 (Builtin.«list.__init__» ⟨[.ref S, .ref it], []⟩)
      (fun fin s' => match fin with | .done f => R (.ok f) s' | .again c' => c'.quiet = true ∧ codeAny (model prog w) A c' R s') (fun e s' => R (.error e) s') s := by
  show wpAny _ _ (do let old ← Builtin.List.listItems (.ref S); Builtin.List.listUpdate (.ref S) (fun _ => #[]); letGo old.toList.reverse; Builtin.List.listExtendWith (.ref S) (.ref it) .none) _ _ s
  refine wpAny_bind ?_
  unfold Builtin.List.listItems
  refine wpAny_bind (wpAny_seqItems hS rfl (wpAny_pure ?_))
  show wpAny _ _ (updateSeq S (fun _ => #[]) >>= fun _ => letGo (#[] : Array Value).toList.reverse >>= fun _ => Builtin.List.listExtendWith (.ref S) (.ref it) .none) _ _ s
  refine wpAny_bind (wpAny_updateSeq hS rfl ?_)
  have hS₂ := Heap.get?_update_self (Obj.mapSeq (fun _ => (#[] : Array Value))) hS rfl
  have oth : ∀ b o, b ≠ S → s.heap.get? b = some o → (s.heap.update S (Obj.mapSeq (fun _ => (#[] : Array Value)))).get? b = some o := fun b o hb e => (Heap.get?_update_other _ _ (Ne.symm hb)).trans e
  refine wpAny_bind (wpAny_letGo ?_)
  exact cb_extend hh hIS hTS hTi all hn hlen (hrem.keep fun o e => oth it o (Nat.ne_of_lt hIS) e) (oth T _ (Nat.ne_of_lt hTS) hT) .none _ hS₂ fun h' acc c as hk hS' hG hacc => hR h' acc c as (fun b o h1 h2 e => hk b o h1 h2 (oth b o h1 e)) hS' hG hacc
theorem cb_list {Q : Value → Shared → Prop} (hh : A.handled = none) (hTi : T ≠ it) (all : List (List Nat)) (hn : all.length ≤ 100000) (hlen : ∀ l ∈ all, l.length ≤ 1000) (hrem : Rem s.heap vs.size it T all) (hT : s.heap.get? T = some { cls := .type "tuple", data := .seq vs })
    (hQ : ∀ h' acc c as, (∀ b o, b ≠ it → s.heap.get? b = some o → h'.get? b = some o) → h'.get? s.heap.objs.size = some { cls := .type "list", dict := none, data := .seq acc c, slots := #[] } → Laid vs s.heap.objs.size h' as all → acc.toList = as.map Value.ref → Q (.ref s.heap.objs.size) { s with heap := h' }) :
    wpAny (model prog w) A (call (.type "list") [.ref it]) Q E s := by
  refine callType_codes (Q₁ := fun obj s₁ => obj = .ref s.heap.objs.size ∧ s₁ = { s with heap := s.heap.push { cls := .type "list", data := .seq #[] } }) PySem.F.called_list (PySem.F.typeCall_list_1 _) PySem.F.entry_list_init (code_list_new _ ⟨rfl, rfl⟩) fun obj s₁ h₁ => ?_
  obtain ⟨rfl, rfl⟩ := h₁
  have hS : (s.heap.push { cls := .type "list", data := .seq #[] }).get? s.heap.objs.size = some { cls := .type "list", data := .seq #[] } := Heap.get?_push_size _ rfl
  have hI : it < s.heap.objs.size := by
    obtain ⟨o, e, _⟩ := hrem.there
    exact Heap.lt_size e
  have hTl : T < s.heap.objs.size := Heap.lt_size hT
  refine ⟨⟨_, hS, rfl⟩, PySem.F.args_list_init_2 _ _, cb_init (A := A.in1) hh hI hTl hTi all hn hlen (hrem.keep fun o e => Heap.get?_push_of_some _ e) (Heap.get?_push_of_some _ hT) hS fun h' acc c as hk hS' hG hacc => ?_⟩
  exact ⟨rfl, hQ h' acc c as (fun b o h1 e => hk b o (Nat.ne_of_lt (Heap.lt_size e)) h1 (Heap.get?_push_of_some _ e)) hS' hG hacc⟩
end
end Lk.Cb

/-! ## Cb5 -/
set_option Elab.async false
set_option linter.all false
set_option maxRecDepth 100000
set_option maxHeartbeats 2000000
/-! list(combinations(range(n), k)) as a rule of the layer. -/
namespace Lk.Cb
open PySem PySem.Spec PyProof.Rows L2
theorem rg_size (n : Nat) : Builtin.Range.rangeSize 0 (n : Int) 1 = n := by
  rw [rangeSize_one]
  split <;> omega
theorem rg_small (n : Nat) (hn : n ≤ 1000) : Builtin.Range.small 0 (n : Int) 1 = true := small_one (by omega) (by omega) (by omega) (by omega)
/-- numbers as an int tuple's items -/
def tv (l : List Nat) : List V := l.map fun i : Nat => V.int (i : Int)
/-- such tuples tracked -/
def putL : Hp → List Addr → List (List Nat) → Hp
  | H, a :: as, l :: ls => putL (upd H a (.tup (tv l))) as ls
  | H, _, _ => H
theorem putL_off {b : Addr} : ∀ (as : List Addr) (ls : List (List Nat)) (H : Hp), b ∉ as → putL H as ls b = H b
  | [], _, _, _ => rfl
  | _ :: _, [], _, _ => rfl
  | a :: as, l :: ls, H, h => by
    unfold putL
    rw [putL_off as ls _ fun z => h (List.mem_cons_of_mem _ z)]
    exact upd_ne fun z => h (z ▸ List.mem_cons_self ..)
theorem putL_at : ∀ (as : List Addr) (ls : List (List Nat)) (H : Hp), as.length = ls.length → as.Nodup → ∀ (j : Nat) (a : Addr) (l : List Nat), as[j]? = some a → ls[j]? = some l → putL H as ls a = some (.tup (tv l))
  | [], _, _, _, _, j, a, l, h, _ => by simp at h
  | a0 :: as, [], _, h, _, _, _, _, _, _ => by cases h
  | a0 :: as, l0 :: ls, H, hl, nd, 0, a, l, h1, h2 => by
    obtain ⟨n1, n2⟩ := List.nodup_cons.mp nd
    cases h1
    cases h2
    unfold putL
    rw [putL_off as ls _ n1]
    exact upd_same
  | a0 :: as, l0 :: ls, H, hl, nd, j + 1, a, l, h1, h2 => putL_at as ls _ (Nat.succ.inj hl) (List.nodup_cons.mp nd).2 j a l h1 h2
theorem vals_lot {n : Nat} {acc : Array Value} (hi : ItemsOf (fun i v => ∃ t, v = .int ((0 : Int) + i * 1) t) acc n) : ∀ l : List Nat, (∀ i ∈ l, i < n) → Vals (tv l) (l.map fun i => acc.getD i .none)
  | [], _ => .nil
  | i :: l, h => by
    refine .cons ?_ (vals_lot hi l fun j hj => h j (List.mem_cons_of_mem _ hj))
    have hlt : i < acc.size := by rw [hi.1]; exact h i (List.mem_cons_self ..)
    obtain ⟨t, e⟩ := hi.2 i acc[i] (Array.getElem?_eq_getElem hlt)
    have e2 : acc.getD i Value.none = acc[i] := by simp [Array.getD, hlt]
    show RelV (V.int (i : Int)) (acc.getD i Value.none)
    rw [e2, e]
    exact ⟨t, by rw [Int.mul_one, Int.zero_add]⟩
theorem vals_refs : ∀ as : List Addr, Vals (as.map V.ref) (as.map Value.ref)
  | [] => .nil
  | _ :: as => .cons rfl (vals_refs as)
section
variable {X : Cx}
theorem lots_laid {pins : List (Addr × Obj)} {σ : L2.St} {H : Hp} {s : Shared} {h' : Heap} {tk n S c : Nat} {acc vs : Array Value} {as : List Addr} {ls : List (List Nat)} (I : Inv X pins σ H s) (hz : ls.length ≤ 100000) (hl : ∀ l ∈ ls, l.length ≤ 1000) (hlt : ∀ l ∈ ls, ∀ i ∈ l, i < n)
    (hi : ItemsOf (fun i v => ∃ t, v = .int ((0 : Int) + i * 1) t) vs n) (hk : ∀ b o, s.heap.get? b = some o → h'.get? b = some o) (hlo : ∀ b o, s.heap.get? b = some o → b < S) (newS : H S = none) (new : ∀ a, S < a → H a = none)
    (hS : h'.get? S = some { cls := .type "list", dict := none, data := .seq acc c, slots := #[] }) (G : Laid vs S h' as ls) (hacc : acc.toList = as.map Value.ref) :
    ∃ H' : Hp, (∀ b o, H b = some o → H' b = some o) ∧ H' S = some (.lst (as.map V.ref)) ∧ (∀ (j : Nat) (a : Addr) (l : List Nat), as[j]? = some a → ls[j]? = some l → H' a = some (.tup (tv l))) ∧ Inv X pins σ H' { s with heap := h', toks := tk } := by
  have hSn : S ∉ as := fun z => Nat.lt_irrefl _ (G.above _ z)
  have nd : as.Nodup := G.rise.imp fun h => Nat.ne_of_lt h
  have nw : ∀ t ∈ as, H t = none := fun t ht => new t (G.above t ht)
  have off : ∀ b, b ∉ as → b ≠ S → putL (upd H S (.lst (as.map V.ref))) as ls b = H b := fun b h1 h2 => by rw [putL_off as ls _ h1, upd_ne h2]
  have low : ∀ b o, s.heap.get? b = some o → b ∉ as ∧ b ≠ S := fun b o e => ⟨fun z => Nat.lt_irrefl _ (Nat.lt_trans (hlo b o e) (G.above b z)), Nat.ne_of_lt (hlo b o e)⟩
  have kp : ∀ b u, H b = some u → putL (upd H S (.lst (as.map V.ref))) as ls b = some u := fun b u e => by
    rw [off b (fun z => by rw [nw b z] at e; cases e) (fun z => by rw [z, newS] at e; cases e)]
    exact e
  have atS : putL (upd H S (.lst (as.map V.ref))) as ls S = some (.lst (as.map V.ref)) := by rw [putL_off as ls _ hSn, upd_same]
  have atT := putL_at as ls (upd H S (.lst (as.map V.ref))) G.len nd
  refine ⟨_, kp, atS, atT, ?_⟩
  refine I.call' (ch := []) rfl ⟨fun b o q _ _ _ => hk b o q, fun b o q _ _ _ => ⟨o.slots, hk b o q⟩, fun b o q nn _ => ?_, fun b o q _ => ⟨o, hk b o q⟩, fun b xs q => kp b _ q, fun b o u q => kp b _ q, fun b ps q => ⟨#[], by rw [kp b _ q]; simp⟩⟩ (fun b u q => ?_) I.bare fun b z => by simp at z
  · obtain ⟨z1, z2⟩ := low b o q
    rw [off b z1 z2]
    exact nn
  · by_cases hb : b ∈ as
    · obtain ⟨j, hj⟩ := List.mem_iff_getElem?.mp hb
      obtain ⟨l, e1, e2⟩ := G.tups j b hj
      rw [atT j b l hj e1] at q
      cases q
      have lm := List.mem_of_getElem? e1
      refine ⟨?_, _, vals_lot hi l (hlt l lm), ⟨_, e2, rfl, _, rfl⟩⟩
      unfold tv
      rw [List.length_map]
      exact Nat.le_trans (hl l lm) (by show 1000 ≤ sizeLine; rw [sizeLine_eq]; decide)
    · by_cases hb2 : b = S
      · rw [hb2] at q ⊢
        rw [atS] at q
        cases q
        refine ⟨?_, acc.toList, c, by rw [hacc]; exact vals_refs as, ?_⟩
        · rw [List.length_map, G.len]
          exact Nat.le_trans hz (by show 100000 ≤ sizeLine; rw [sizeLine_eq]; decide)
        · rw [Array.toArray_toList]
          exact hS
      · rw [off b hb hb2] at q
        exact (I.hok b u q).stay (fun d v _ y => hk d v y) (fun d y => kp d _ y) fun d xs y => kp d _ y
/-- list(combinations(range(a), b)) -/
def tCombs (ta tb : TE) : TE := fun σ H Q => ta σ H fun x H1 => ∃ n : Nat, x = .int (n : Int) ∧ n ≤ 1000 ∧ tb σ H1 fun y H2 => ∃ k : Nat, y = .int (k : Int) ∧ k ≤ 1000 ∧ (cmb n 0 k).length ≤ 100000 ∧
  ∀ (H' : Hp) (S : Addr) (as : List Addr), (∀ b o, H2 b = some o → H' b = some o) → H' S = some (.lst (as.map V.ref)) → as.length = (cmb n 0 k).length → (∀ (j : Nat) (a : Addr) (l : List Nat), as[j]? = some a → (cmb n 0 k)[j]? = some l → H' a = some (.tup (tv l))) → Q (.ref S) H'
theorem pe_combs {a b : Expr} {ta tb : TE} {p1 p2 p3 q1 q2 q3 : Pos} (hc : X.calm = true) (hgl : Gl X "list") (hml : X.mg "list" = none) (hgc : Gl X "combinations") (hmc : X.mg "combinations" = some (.type "itertools.combinations")) (hgr : Gl X "range") (hmr : X.mg "range" = none) (ha : PE X a ta) (hb : PE X b tb)
    (hs1 : starEach [.Call (.Name "combinations" p2) [.Call (.Name "range" p3) [a] [] q3, b] [] q2] X.env = (false, eval (.Call (.Name "combinations" p2) [.Call (.Name "range" p3) [a] [] q3, b] [] q2) X.env) :: starEach [] X.env := by rfl)
    (hs2 : starEach [.Call (.Name "range" p3) [a] [] q3, b] X.env = (false, eval (.Call (.Name "range" p3) [a] [] q3) X.env) :: starEach [b] X.env := by rfl)
    (hs4 : starEach [b] X.env = (false, eval b X.env) :: starEach [] X.env := by rfl)
    (hs3 : starEach [a] X.env = (false, eval a X.env) :: starEach [] X.env := by rfl) :
    PE X (.Call (.Name "list" p1) [.Call (.Name "combinations" p2) [.Call (.Name "range" p3) [a] [] q3, b] [] q2] [] q1) (tCombs ta tb) := by
  refine ⟨fun pins s σ H Q I hq => ?_⟩
  have hh : X.A.handled = none := I.ok.hd hc
  refine wpAny_Call_Name_kw (ld_blt I hgl hml (u := .type "list") (by decide +kernel) ?_)
  refine PyProof.Rows.callWith_type1 ?_ hs1 rfl
  rw [hs1]
  show wpAny _ _ (spliced ((false, eval (.Call (.Name "combinations" p2) [.Call (.Name "range" p3) [a] [] q3, b] [] q2) X.env) :: backTo q1 (starEach [] X.env))) _ _ s
  refine Calls.spliced_cons ?_
  refine wpAny_Call_Name_kw (ld_glob I hgc hmc ?_)
  refine PyProof.Rows.callWith_type1 ?_ hs2 (by rw [hs4]; rfl)
  rw [hs2, hs4]
  show wpAny _ _ (spliced ((false, eval (.Call (.Name "range" p3) [a] [] q3) X.env) :: backTo q2 ((false, eval b X.env) :: starEach [] X.env))) _ _ s
  refine Calls.spliced_cons ?_
  refine wpAny_Call_Name_kw (ld_blt I hgr hmr boot_range ?_)
  refine PyProof.Rows.callWith_type1 ?_ hs3 rfl
  rw [hs3]
  show wpAny _ _ (spliced ((false, eval a X.env) :: backTo q3 (starEach [] X.env))) _ _ s
  refine Calls.spliced_cons (thn (ha.run pins s σ H _ I hq) fun u s1 ⟨x, H1, I1, rx, n, ex, ln, hq1⟩ => ?_)
  subst ex
  obtain ⟨tn, rfl⟩ := rx
  refine Calls.spliced_nil ?_
  refine call_range_1 ?_
  have kr : ∀ (b : Addr) (o : Obj), s1.heap.get? b = some o → (s1.heap.push { cls := .type "range", data := .fields #[.int 0 s1.toks, .int (n : Int) tn, .int 1 (s1.toks + 1)] }).get? b = some o := fun b o e => Heap.get?_push_of_some _ e
  have I2 := I1.kept (t' := s1.toks + 1 + 1) kr
  have hr0 : (s1.heap.push { cls := .type "range", data := .fields #[.int 0 s1.toks, .int (n : Int) tn, .int 1 (s1.toks + 1)] }).get? s1.heap.objs.size = some { cls := .type "range", data := .fields #[.int 0 s1.toks, .int (n : Int) tn, .int 1 (s1.toks + 1)] } := Heap.get?_push_size _ rfl
  have I3 : Inv X ([((s1.heap.objs.size, { cls := .type "range", data := .fields #[.int 0 s1.toks, .int (n : Int) tn, .int 1 (s1.toks + 1)] }) : Addr × Obj)] ++ pins) σ H1 { s1 with heap := s1.heap.push { cls := .type "range", data := .fields #[.int 0 s1.toks, .int (n : Int) tn, .int 1 (s1.toks + 1)] }, toks := s1.toks + 1 + 1 } := I2.pins_of fun p hp => by
    rcases List.mem_append.mp hp with h | h
    · rw [List.mem_singleton.mp h]
      refine ⟨hr0, I1.hok.fresh (Nat.le_refl _), Nat.ne_of_gt I1.lt, I1.nofs (Nat.le_refl _), fun v z => by cases z⟩
    · exact I2.pin p (List.mem_append_right _ h)
  generalize ({ s1 with heap := s1.heap.push { cls := .type "range", data := .fields #[.int 0 s1.toks, .int (n : Int) tn, .int 1 (s1.toks + 1)] }, toks := s1.toks + 1 + 1 } : Shared) = s2 at I3
  show wpAny _ _ (spliced ((false, eval b X.env) :: backTo q2 (starEach [] X.env))) _ _ s2
  refine Calls.spliced_cons (thn (hb.run _ s2 σ H1 _ I3 hq1) fun u s3 ⟨y, H2, I4, ry, k, ey, lk, lc, hq2⟩ => ?_)
  subst ey
  obtain ⟨tk, rfl⟩ := ry
  refine Calls.spliced_nil ?_
  have hr3 := (I4.pin _ (List.mem_append_right _ (List.mem_append_left _ (List.mem_singleton.mpr rfl)))).1
  have I4' : Inv X pins σ H2 s3 := I4.pins_of fun p hp => I4.pin p (by
    rcases List.mem_append.mp (show p ∈ [] ++ pins from hp) with h | h
    · cases h
    · exact List.mem_append_right _ (List.mem_append_right _ h))
  refine call_cb (n := n) (k := k) hh hr3 ?small ?size ln lk fun h5 t5 acc T k5 i5 hT5 z5 lo5 hit5 => ?_
  case small => exact rg_small n ln
  case size => exact rg_size n
  show wpAny _ _ (spliced []) _ _ _
  refine Calls.spliced_nil ?_
  have hrem : Rem h5 acc.size (T + 1) T (cmb n 0 k) := by
    rw [i5.1]
    by_cases h : k ≤ n
    · obtain ⟨r, e, c⟩ := cmb_chain n 0 k h
      have e0 : (List.range k).map (0 + ·) = List.range k := by
        conv => rhs; rw [← List.map_id (List.range k)]
        exact List.map_congr_left fun i _ => Nat.zero_add i
      rw [e0] at e c
      rw [Nat.zero_add] at c
      rw [if_neg (by omega)] at hit5
      exact .inl ⟨_, r, _, e, hit5, c⟩
    · rw [if_pos (by omega)] at hit5
      exact .inr (.inr ⟨cmb_big n 0 k (by omega), _, _, hit5⟩)
  have len1 : ∀ l ∈ cmb n 0 k, l.length ≤ 1000 := fun l hl => by rw [cmb_len n 0 k l hl]; exact lk
  refine cb_list (s := { s3 with heap := h5, toks := t5 }) hh (Nat.ne_of_lt (Nat.lt_succ_self T)) (cmb n 0 k) lc len1 hrem hT5 fun h6 acc6 c6 as k6 hS6 G6 hacc6 => ?_
  have I5 := I4'.kept (t' := t5) k5
  obtain ⟨H', kp, atS, atT, J⟩ := lots_laid (tk := t5) (n := n) I4' lc len1 (fun l hl i hi => by have := cmb_lt n 0 k l hl i hi; omega) i5 (fun b o e => k6 b o (Nat.ne_of_lt (Nat.lt_succ_of_lt (lo5 b o e))) (k5 b o e)) (fun b o e => by
    show b < h5.objs.size
    rw [z5]
    exact Nat.lt_of_lt_of_le (lo5 b o e) (Nat.le_add_right _ _)) (I5.hok.fresh (Nat.le_refl _)) (fun a ha => I5.hok.fresh (Nat.le_of_lt ha)) hS6 G6 hacc6
  exact ⟨.ref _, H', J, rfl, hq2 H' _ as kp atS G6.len atT⟩
end
end Lk.Cb

/-! ## CmpE -/
set_option Elab.async false
set_option linter.all false
set_option maxRecDepth 100000
set_option maxHeartbeats 2000000
/-! A comprehension's block that lets an exception out: noted in the def's own frame, the block's names let go, passed on. -/
namespace Lk
open PySem PySem.Spec PyProof.Rows L2
variable [Own]
theorem funFrames_but {base h h' : Heap} {C : Addr} (k : ∀ b, b ≠ C → h'.get? b = h.get? b) : ∀ {l : List Env}, h.FunFrames base l → C ∉ frs l → h'.FunFrames base l
  | [], _, _ => trivial
  | env :: l, x, hn => by
    obtain ⟨hk, ⟨L, o, hf, hb, ho, hd⟩, hr⟩ := x
    have m : L ∈ frs (env :: l) := List.mem_filterMap.mpr ⟨env, List.mem_cons_self, hf⟩
    refine ⟨hk, ⟨L, o, hf, hb, ?_, hd⟩, funFrames_but k hr fun hm => hn ?_⟩
    · rw [k L fun z => hn (z ▸ m)]; exact ho
    · obtain ⟨e, he, q⟩ := List.mem_filterMap.mp hm
      exact List.mem_filterMap.mpr ⟨e, List.mem_cons_of_mem _ he, q⟩
theorem note_same {e : Value} {a b : Env} (h : a.frame = b.frame) : noteFrame e a = noteFrame e b := by
  unfold noteFrame PySem.frameOf
  rw [h]
/-- the block's context, with its own wish about exceptions -/
abbrev blkE (X : Cx) (s : Shared) (H : Hp) (scope : Scope) (cenv : Env) (fp : List Addr) (xe : Value → Shared → Prop) : Cx := { X.blk s H scope cenv fp with xe := xe }
/-- what is asked behind the block -/
def compPostE (M : Model) (A : Around) (E : Value → Shared → Prop) (fr : Option Addr) (use : Option (Value → Sem Unit)) (Q : Value → Shared → Prop) (acc : Value) (C : Addr) (r : Result) (s' : Shared) : Prop :=
  match r with
  | .ok f => compPost M A E use Q acc C (.ok f) s'
  | .error x => ∃ m, s'.heap.Ns C m ∧ ∀ h', Heap.SameBut C s'.heap h' → ∀ cenv : Env, cenv.locals = C → cenv.frame = fr → wpAny M A (passOn "comprehension.variables-let-go" x cenv : Sem Value) (fun _ _ => False) E { s' with heap := h' }
section
variable {X : Cx} {pins pins' : List (Addr × Obj)} {σ σ' : L2.St} {H3 H5 : Hp} {s3 s5 s' : Shared} {W : WX} {E : XK} {scope : Scope} {ce : Env} {fp : List Addr} {xe : Value → Shared → Prop} {use : Option (Value → Sem Unit)} {Qf : Value → Shared → Prop} {acc : Value}
theorem blk_err (tk : Takes X W) (hs : X.stack = X.env :: X.outer) (hf : X.env.frame = some X.env.locals) (I3 : Inv X pins σ H3 s3) (f3 : ∀ b ∈ fp, FpOk X pins H3 b ∧ b < s3.heap.objs.size) (cL : ce.locals = s3.heap.objs.size) (cF : ce.frame = X.env.frame)
    (I5 : Inv (blkE X s3 H3 scope ce fp xe) pins' σ' H5 s5) {u : Value} (c : CX X.prog X.w X.stack H5 s5 E u s') (hW : ∀ cls d H', E cls d H' → W cls d σ H') :
    notedBy (model X.prog X.w) X.A ce (fun e s'' => compPostE (model X.prog X.w) X.A X.xe X.env.frame use Qf acc s3.heap.objs.size (.error e) s'') u s' := by
  obtain ⟨a, B, H', cls, d, rfl, fl, hok, ub, na, os, ag, hE⟩ := c
  show wpAny (model X.prog X.w) X.A (noteFrame (.ref a) ce) _ _ s'
  rw [note_same cF]
  have hfr : X.A.frames = some (X.env :: X.outer) := by rw [I3.ok.frames, hs]
  have fl' := fl
  rw [hs] at fl'
  refine HandSPX.looks_onZ Zc.steady hfr hf fl' fun h1 hh up1 => ?_
  generalize hC : s3.heap.objs.size = C at *
  obtain ⟨m, hn5, _⟩ := I5.loc
  have hn5 : s5.heap.Ns ce.locals m := hn5
  rw [cL] at hn5
  have free5 : H5 ce.locals = none := I5.free
  rw [cL] at free5
  have nst : C ∉ frs X.stack := fun z => by
    rcases List.mem_cons.mp (I3.stkSub _ z) with z | z
    · exact Nat.ne_of_lt (hC ▸ I3.lt) z.symm
    · exact I3.nofs (by rw [hC]; exact Nat.le_refl _) z
  have nB : B.Ns C m := hn5.at' fun o e => ub.keep C o e free5 nst
  have hBC : ∃ o, B.get? C = some o := by
    obtain ⟨o, _, _, h, _⟩ := nB
    exact ⟨o, h⟩
  refine ⟨m, nB.at' fun o e => hh.1 C o e, fun h2 sb cenv e1 e2 => ?_⟩
  obtain ⟨hst, hBa, hfu, htr⟩ := hh
  -- the ground without the block's own names
  generalize hB' : PySem.W.hideAll B [C] = B'
  have b1 : ∀ b o, b ≠ C → B.get? b = some o → B'.get? b = some o := fun b o n e => by
    rw [← hB']
    exact PySem.W.hideAll_get _ e (by simp [n])
  have b2 : ∀ b o, B'.get? b = some o → B.get? b = some o ∧ b ≠ C := fun b o e => by
    rw [← hB'] at e
    refine ⟨PySem.W.of_hideAll _ e, fun z => ?_⟩
    rw [z, PySem.W.hideAll_none _ (by simp)] at e
    cases e
  have b3 : ∀ b, B.get? b = none → B'.get? b = none := fun b e => by
    cases q : B'.get? b with
    | none => rfl
    | some o => rw [(b2 b o q).1] at e; cases e
  have st2 : B'.StaysIn h2 := fun b o e => (sb.2 b (b2 b o e).2).trans (hst b o (b2 b o e).1)
  have hB'a := b3 a hBa
  have nst' : C ∉ frs (X.env :: X.outer) := by rw [← hs]; exact nst
  have fu1 : h1.FunFrames B' (X.env :: X.outer) := funFrames_none hfu fun L hL => b3 L (hfu.mem hL).1
  have fu2 : h2.FunFrames B' (X.env :: X.outer) := funFrames_but sb.2 fu1 nst'
  have tr2 : HandSPX.TracedZ h2 B' a (Zc cls d) (rawInt X.env.locals) := by
    obtain ⟨oe, vs, T, oT, ts, he, hz, hd, h1', hnT, hTe, hT, hdT, h3⟩ := htr
    obtain ⟨oc, hoc⟩ := hBC
    have aC : a ≠ C := fun z => by rw [z, hoc] at hBa; cases hBa
    have TC : T ≠ C := fun z => by rw [z, hoc] at hnT; cases hnT
    exact ⟨oe, vs, T, oT, ts, (sb.2 a aC).trans he, hz, hd, h1', b3 T hnT, hTe, (sb.2 T TC).trans hT, hdT, h3⟩
  unfold PySem.passOn
  have tr2' := tr2
  obtain ⟨oe, vs, T, oT, ts, he, hz, hd, h1', hnT, hTe, hT, hdT, h3⟩ := tr2'
  refine wpAny_bind (wpAny_field he hd h1' ?_)
  rw [if_neg (show ¬ ((Value.ref T == Value.none) = true) from by simp)]
  refine wpAny_bind (HandSPX.setFlight_anyZ st2 fu2 tr2 fun h4 k1 k2 k3 k4 => ?_)
  refine wpAny_throw ?_
  rw [e2, hf] at k3
  have k3 : HandSPX.TracedZ h4 B' a (Zc cls d) (rawInt X.env.locals) := k3
  refine tk _ _ ?_
  obtain ⟨G, g1, g2⟩ := restrict h4 fun b => (B'.get? b).isSome || decide (b ∈ frs X.stack)
  have gB : ∀ b o, B'.get? b = some o → G.get? b = some o := fun b o e => by
    rw [g1 b (by simp [e])]
    exact k1 b o e
  have gF : ∀ b, b ∈ frs X.stack → G.get? b = h4.get? b := fun b hb => g1 b (by simp [hb])
  have og : ∀ b o, G.get? b = some o → h4.get? b = some o ∧ ((B'.get? b).isSome = true ∨ b ∈ frs X.stack) := fun b o e => by
    cases q : ((B'.get? b).isSome || decide (b ∈ frs X.stack)) with
    | false => rw [g2 b q] at e; cases e
    | true =>
      rw [g1 b q] at e
      exact ⟨e, by simpa [Bool.or_eq_true] using q⟩
  have H'C : H' C = none := by
    obtain ⟨o, _, _, h, _⟩ := hn5
    exact ub.free C o h free5
  have hokB : HOk X.prog X.w H' B' := fun b o q => (hok b o q).stay (fun c u hc r => b1 c u (fun hm => by
    rcases hc with hc | hc
    · rw [hm] at hc; rw [← hc, H'C] at q; cases q
    · rw [hm, H'C] at hc; cases hc) r) (fun _ r => r) fun _ _ r => r
  have ltC : ∀ b o, s3.heap.get? b = some o → b ≠ C := fun b o e => by
    rw [← hC]
    exact Nat.ne_of_lt (Heap.lt_size e)
  have slot : ∀ b o, s3.heap.get? b = some o → H3 b = none → b ∈ frs X.stack → b ∉ fp → ∃ sl, G.get? b = some { o with slots := sl } := fun b o e n hb hx => by
    obtain ⟨sl, q5⟩ := I5.base.slot b o e n hb hx
    obtain ⟨sl', q'⟩ := ub.slot b _ q5 hb
    obtain ⟨_, o3, e3, hnf⟩ := I3.stack.mem hb
    rw [e] at e3; cases e3
    obtain ⟨sl1, q1⟩ := up1 b _ q' hnf
    have q2 := (sb.2 b (ltC b o e)).trans q1
    obtain ⟨sl4, q4⟩ := k4 b _ q2 hnf
    exact ⟨sl4, (gF b hb).trans q4⟩
  refine ⟨a, B', { s3 with heap := G, gens := s'.gens, drawn := s'.drawn, toks := s'.toks }, pins, σ, H', cls, d, rfl, ?_, fun b o e hb => ?_, Heap.UpToSlots.of_keeps fun b o e => (og b o e).1, .inr (.inr ⟨k1, hB'a, by rw [hs]; exact k2, k3⟩), na, os.trans I5.os, ag, hW _ _ _ hE⟩
  · refine I3.call' (ch := fp) rfl ⟨fun b o e n hb hx => ?_, slot, fun b o e n hx => ?_, fun b o e hx => ?_, fun b xs e => ub.tups b xs (I5.base.tups b xs e), fun b o u e => ub.frzs b o u (I5.base.frzs b o u e), fun b ps e => ?_⟩ (hokB.kept gB) ag fun b hb => ⟨(f3 b hb).1.2.2.2.1, (f3 b hb).1.2.1, (f3 b hb).1.2.2.2.2.1, (f3 b hb).1.2.2.2.2.2⟩
    · exact gB b o (b1 b o (ltC b o e) (ub.keep b o (I5.base.keep b o e n hb hx) (I5.base.free b o e n hx) hb))
    · obtain ⟨sl, q⟩ := I5.base.any e n hx
      exact ub.free b _ q (I5.base.free b o e n hx)
    · by_cases hb : b ∈ frs X.stack
      · obtain ⟨sl, q⟩ := slot b o e (I3.stkFree b hb) hb hx
        exact ⟨_, q⟩
      · obtain ⟨o5, q5⟩ := I5.base.there b o e hx
        obtain ⟨oB, qB⟩ := ub.there b o5 q5 hb
        exact ⟨oB, gB b oB (b1 b oB (ltC b o e) qB)⟩
    · obtain ⟨m1, q1⟩ := I5.base.tbls b ps e
      obtain ⟨m2, q2⟩ := ub.tbls b _ q1
      exact ⟨m1 ++ m2, by rw [q2]; simp⟩
  · obtain ⟨e', h⟩ := og b o e
    rcases h with h | h
    · obtain ⟨o', q⟩ := Option.isSome_iff_exists.mp h
      have z := k1 b o' q
      rw [e'] at z; cases z
      exact q
    · exact absurd h hb
end
end Lk

/-! ## CmpE2 -/
set_option Elab.async false
set_option linter.all false
set_option maxRecDepth 100000
set_option maxHeartbeats 2000000
/-! List comprehensions (one clause) whose step may let an exception out. -/
namespace Lk
open PySem PySem.Spec PyProof.Rows L2
variable [Own]
section
variable {M : Model} {A : Around} {E : Value → Shared → Prop} {s : Shared} {env : Env}
theorem comp_freeE {e : Expr} {scope : Scope} {pos : Pos} {newAcc first : Sem Value} {g : Comprehension} {gs : List Comprehension} {cl : List (Str × Addr)} {use : Option (Value → Sem Unit)} {fr : Option Addr}
    {Q : Value → Shared → Prop}
    (hcl : clausesOf e = g :: gs) (hs : ∀ x, foldedSetIterable g.iter env x = pure x) (hclos : closureFor scope env = pure cl)
    (hkind : scope.kind = .function) (hnames : ∀ x ∈ scope.names, x.2 = .local → scope.names.lookup x.1 = some .local)
    (h : wpAny M A first (fun x s₁ => wpAny M A (pyIter x) (fun it s₂ => wpAny M A newAcc (fun acc s₃ =>
      wpAny M A (newFunctionEnv scope env.globals cl [] env.qual none .none (some env)) (fun cenv s₄ =>
        cenv.frame = fr ∧ codeAny M A (.compStart e 0 it acc { cenv with scope := relabel scope env }) (compPostE M A E fr use Q acc cenv.locals) s₄) E s₃) E s₂) E s₁) E s) :
    wpAny M A (comprehension e scope env pos newAcc false first use) Q E s := by
  unfold comprehension
  rw [hclos, hcl]
  refine wpAny_bind (wpAny_mono h (fun x s₁ h₁ => wpAny_bind (wpAny_standAt (wpAny_bind (wpAny_of_eq (hs x) (wpAny_bind (wpAny_holding (wpAny_mono h₁ (fun it s₂ h₂ =>
    wpAny_standIf (wpAny_bind (wpAny_mono h₂ (fun acc s₃ h₃ => wpAny_bind (wpAny_pure (wpAny_bind (wpAny_mono h₃ (fun cenv s₄ h₄ => ?_) fun _ _ h' => h')))) fun _ _ h' => h')))
      fun _ _ h' => h'))))))) fun _ _ h' => h')
  dsimp only
  obtain ⟨hfr, h₄⟩ := h₄
  have hv : ∀ x ∈ (scope.names.filter fun x => (x.2 == .local || x.2 == .cell) && x.1 != (".0" : Str)).reverse, x.2 = .local →
      Env.kindOf { cenv with scope := relabel scope env } x.1 = some .local := fun x hx hl => lookup_relabel_local (hnames x (List.mem_filter.mp (List.mem_reverse.mp hx)).1 hl)
  have hv' : ∀ x ∈ (scope.names.filter fun x => (x.2 == .local || x.2 == .cell) && x.1 != (".0" : Str)).reverse.drop 1 ++ (scope.names.filter fun x => (x.2 == .local || x.2 == .cell) && x.1 != (".0" : Str)).reverse.take 1,
      x.2 = .local → Env.kindOf { cenv with scope := relabel scope env } x.1 = some .local := fun x hx hl => by
    rcases List.mem_append.mp hx with h1 | h1
    · exact hv x (List.mem_of_mem_drop h1) hl
    · exact hv x (List.mem_of_mem_take h1) hl
  refine wpAny_holding (wpAny_bind (wpAny_attempt (wpAny_holding (wpAny_run (codeAny_mono h₄ fun r s' hr => ?_)))))
  cases r with
  | ok f =>
    cases use with
    | none =>
      obtain ⟨m, hn, hr⟩ := hr
      exact wpAny_bind (wpAny_holding (wpAny_comp_letGo (cenv := { cenv with scope := relabel scope env }) hkind _ s' m hv hn fun h' m' _ hs' => wpAny_pure (hr h' hs')))
    | some u =>
      have hr : wpAny M A (u _) _ _ _ := hr
      refine wpAny_bind (wpAny_rule (wpAny_bind (wpAny_holding (wpAny_mono hr (fun _ s'' hr' => ?_) fun _ _ h' => h'))))
      obtain ⟨m, hn, hr'⟩ := hr'
      exact wpAny_bind (wpAny_comp_letGo (cenv := { cenv with scope := relabel scope env }) hkind _ s'' m hv' hn fun h' m' _ hs' => wpAny_pure (hr' h' hs'))
  | error x =>
    obtain ⟨m, hn, hr⟩ := hr
    exact wpAny_bind (wpAny_holding (wpAny_comp_letGo (cenv := { cenv with scope := relabel scope env }) hkind _ s' m hv hn fun h' m' _ hs' => wpAny_mono (hr h' hs' { cenv with scope := relabel scope env } rfl hfr) (fun _ _ f => f.elim) fun _ _ y => y))
end
theorem inv_xe {X : Cx} {pins : List (Addr × Obj)} {σ : L2.St} {H : Hp} {s : Shared} (xe : Value → Shared → Prop) (I : Inv X pins σ H s) : Inv { X with xe := xe } pins σ H s :=
  ⟨⟨I.ok.mod, I.ok.kind, I.ok.glob, I.ok.blt, I.ok.above, I.ok.inj, I.ok.has, I.ok.cab, I.ok.hd, I.ok.frames, I.ok.stk, I.ok.exf, I.ok.bs, I.ok.bsz, I.ok.noex, I.ok.exfs, I.ok.funs, I.ok.frf⟩, I.os, I.bare, I.base, I.loc, I.cell, I.free, I.freeC, I.pin, I.hok, I.len⟩
section
variable {X : Cx}
/-- where the block begins: what holds there, where its walk's things stand -/
structure BlkB (X : Cx) (s : Shared) (H : Hp) (fp : List Addr) : Prop where
  inv : ∃ pins σ, Inv X pins σ H s
  fps : ∀ b ∈ fp, b ∈ X.ex ∨ X.s_0.heap.objs.size ≤ b
/-- what a rule of the block's is: for every wish that takes what a callee lets out -/
abbrev BlkR (X : Cx) (scope : Scope) (E : XK) (R : Cx → Prop) : Prop :=
  ∀ (s : Shared) (H : Hp) (C : Addr) (cl : List (Str × Addr)) (fp : List Addr) (xe : Value → Shared → Prop), BlkB X s H fp → L2.Passes (L2.CX X.prog X.w) (blkE X s H scope (compEnvC scope cl C X.env) fp xe) E → R (blkE X s H scope (compEnvC scope cl C X.env) fp xe)
theorem lc_coreE {W : WX} {E : XK} {pins : List (Addr × Obj)} {s : Shared} {σ : L2.St} {H : Hp} {Q : VK} {elt tg iter : Expr} {ifs : List Expr} {scope : Scope} {own : List (Str × Nat)} {pos pos' : Pos} {wi : L2.TI} {g : TG} {tt : TT} {te : TE} {use : Option (Value → Sem Unit)} {Qf : Value → Shared → Prop}
    (tk : Takes X W) (hst : X.stack = X.env :: X.outer) (hf : X.env.frame = some X.env.locals) (hW : ∀ cls d H', E cls d H' → W cls d σ H')
    (hc : X.calm = true) (hN : X.N.Nodup) (I : Inv X pins σ H s) (hi : PI X tg iter wi) (ok : BlkOk X.N X.env.scope scope own)
    (hg : BlkR X scope E fun Y => PG Y tg g) (ht : BlkR X scope E fun Y => PTs Y ifs tt) (he : BlkR X scope E fun Y => PE Y elt te) (hs : ∀ x, foldedSetIterable iter X.env x = pure x)
    (h : tLc wi g tt te (own.map (·.2)) σ H Q)
    (hRR : ∀ D C s' m H', Inv X pins σ H' s' → Q (.ref D) H' → s'.heap.Ns C m → FpOk X pins H' C → compPost (model X.prog X.w) X.A X.xe use Qf (.ref D) C (.ok .next) s') :
    wpAny (model X.prog X.w) X.A (comprehension (.ListComp elt [⟨tg, iter, ifs, 0⟩] scope pos) scope X.env pos' (newList []) false (eval iter X.env) use) Qf X.xe s := by
  have hfree : ∀ y ∈ scope.names, y.2 = .free → ∃ c, X.env.cells.lookup y.1 = some c := fun y hy e => by
    rcases ok.free y hy e with k | k
    · exact I.ok.has _ (.inl k)
    · exact I.ok.has _ (.inr k)
  refine comp_freeE (use := use) (fr := X.env.frame) rfl hs (closure_ok hfree) ok.kind (fun y hy e => by rw [ok.uniq y hy, e])
    (thn (hi.run pins s σ H _ I h) fun xv s1 hx => thn hx fun itv s2 h2 => ?_)
  obtain ⟨it, fp, tn, J, H2, e, I2, T, st2, f2, q⟩ := h2
  subst e
  refine wpAny_newObj_type (newEnv_comp ⟨rfl, ?_⟩) (by show 0 ≤ sizeLine; decide)
  generalize hD : s2.heap.objs.size = D
  have hDn : H2 D = none := I2.hok.fresh (Nat.le_of_eq hD)
  obtain ⟨Wk, ⟨m0, w0⟩, turn⟩ := q D hDn
  generalize hs3 : ({ s2 with heap := s2.heap.push { cls := .type "list", data := .seq ([] : List Value).toArray } } : Shared) = s3
  have I3 : Inv X pins σ (upd H2 D (.lst [])) s3 := by
    rw [← hs3]
    refine I2.laid (t' := s2.toks) (fun b o e => Heap.get?_push_of_some _ e) (Nat.le_of_eq hD) ⟨Nat.zero_le _, [], 0, .nil, ?_⟩
    rw [← hD]
    exact Heap.get?_push_size _ rfl
  have h3 : s3.heap = s2.heap.push { cls := .type "list", data := .seq ([] : List Value).toArray } := by rw [← hs3]
  have sz : ∀ b ∈ fp, b < s2.heap.objs.size := fun b hb => by
    obtain ⟨o, e, _⟩ := T.obj _ _ st2 b hb
    exact Heap.lt_size e
  have f3 : ∀ b ∈ fp, FpOk X pins (upd H2 D (.lst [])) b ∧ b < s3.heap.objs.size := fun b hb => by
    have hlt := sz b hb
    refine ⟨⟨?_, (f2 b hb).2⟩, by rw [h3, Heap.size_push]; exact Nat.lt_succ_of_lt hlt⟩
    rw [upd_ne (by rw [← hD]; exact Nat.ne_of_lt hlt)]
    exact (f2 b hb).1
  have st3 : tn 0 s3.heap := T.keep _ _ _ st2 fun b _ o e => by rw [h3]; exact Heap.get?_push_of_some _ e
  have I4 := block_start I3 ok hN f3
  have bb : BlkB X s3 (upd H2 D (.lst [])) fp := ⟨⟨_, _, I3⟩, fun b hb => (f3 b hb).1.2.2.2.1⟩
  have pg := hg s3 (upd H2 D (.lst [])) s3.heap.objs.size (cellsFrom (s3.heap.objs.size + 1) scope.names (cloFrom X.env.cells scope.names [])) fp
  have pt := ht s3 (upd H2 D (.lst [])) s3.heap.objs.size (cellsFrom (s3.heap.objs.size + 1) scope.names (cloFrom X.env.cells scope.names [])) fp
  have pe := he s3 (upd H2 D (.lst [])) s3.heap.objs.size (cellsFrom (s3.heap.objs.size + 1) scope.names (cloFrom X.env.cells scope.names [])) fp
  show codeAny _ _ (.compStart (.ListComp elt [⟨tg, iter, ifs, 0⟩] scope pos) 0 (.ref it) (.ref D) (compEnvC scope (cellsFrom (s3.heap.objs.size + 1) scope.names (cloFrom X.env.cells scope.names [])) s3.heap.objs.size X.env)) (compPostE (model X.prog X.w) X.A X.xe X.env.frame use Qf (.ref D) s3.heap.objs.size) { s3 with heap := pushCells (s3.heap.push { cls := .type "dict", data := .dict #[] }) scope.names }
  have nfp : ∀ b ∈ fp, (upd H2 D (.lst [])) b = none := fun b hb => (f3 b hb).1.1
  have cF0 : (compEnvC scope (cellsFrom (s3.heap.objs.size + 1) scope.names (cloFrom X.env.cells scope.names [])) s3.heap.objs.size X.env).frame = X.env.frame := rfl
  generalize hce : compEnvC scope (cellsFrom (s3.heap.objs.size + 1) scope.names (cloFrom X.env.cells scope.names [])) s3.heap.objs.size X.env = ce at I4 pg pt pe cF0 ⊢
  have cL : ce.locals = s3.heap.objs.size := by subst hce; rfl
  generalize hH3 : upd H2 D (.lst []) = H3 at I3 I4 pg pt pe w0 nfp f3 bb
  generalize hs4 : ({ s3 with heap := pushCells (s3.heap.push { cls := .type "dict", data := .dict #[] }) scope.names } : Shared) = s4 at I4 ⊢
  have st4 : tn 0 s4.heap := T.keep _ _ _ st3 fun b _ o e => by rw [← hs4]; exact pushCells_keeps _ _ _ _ (Heap.get?_push_of_some _ e)
  generalize hxe : notedBy (model X.prog X.w) X.A ce (fun e s'' => compPostE (model X.prog X.w) X.A X.xe X.env.frame use Qf (.ref D) s3.heap.objs.size (.error e) s'') = xe
  have pas : L2.Passes (L2.CX X.prog X.w) (blkE X s3 H3 scope ce fp xe) E := fun pins' σ' H5 s5 u s' I5 c => by
    show xe u s'
    rw [← hxe]
    exact blk_err tk hst hf I3 f3 cL cF0 I5 c hW
  have pg := pg xe bb pas
  have pt := pt xe bb pas
  have pe := pe xe bb pas
  have I4 : Inv (blkE X s3 H3 scope ce fp xe) [] (wipe σ (own.map (·.2))) H3 s4 := inv_xe xe I4
  have stat : ∀ {σ' : L2.St} {H' : Hp} {s' : Shared}, Inv (blkE X s3 H3 scope ce fp xe) [] σ' H' s' → (∀ b ∈ fp, H' b = none) → ∀ b ∈ fp, FpOk (blkE X s3 H3 scope ce fp xe) [] H' b := fun {σ' H' s'} I' hn b hb =>
    ⟨hn b hb, (I'.ok.exf b hb).1, I'.ok.exfs b hb, .inl hb, fun x c e => (I'.ok.exf b hb).2 x c e, fun p hp => absurd (show p ∈ ([] : List (Addr × Obj)) ++ [] from hp) (by simp)⟩
  have loop : codeAny (model X.prog X.w) X.A (.compLoop (.ListComp elt [⟨tg, iter, ifs, 0⟩] scope pos) 0 (.ref it) (.ref D) ce) (compPostE (model X.prog X.w) X.A X.xe X.env.frame use Qf (.ref D) s3.heap.objs.size) s4 := by
    refine compLoop_any (fun n s' => ∃ i H', Inv (blkE X s3 H3 scope ce fp xe) [] (wipe σ (own.map (·.2))) H' s' ∧ tn i s'.heap ∧ (∀ b ∈ fp, H' b = none) ∧ Wk i n H') ?_ m0 ⟨0, H3, I4, st4, nfp, w0⟩
    rintro n s5 ⟨i, H5, I5, st5, n5, w5⟩
    rw [hxe]
    rcases turn i n H5 w5 with ⟨stop, qq⟩ | ⟨go, Nx, hNx, step⟩
    · have td := T.done (blkE X s3 H3 scope ce fp xe) rfl rfl rfl hc i [] s5 _ H5 (fun _ _ => False) I5 (stat I5 n5) st5 stop
      refine thnF td fun r s6 ⟨hr, I6⟩ => ?_
      subst hr
      have I7 : Inv X pins σ H5 s6 := I3.call' (ch := fp) I6.os I6.base I6.hok I6.bare fun b hb => ⟨(f3 b hb).1.2.2.2.1, (f3 b hb).1.2.1, (f3 b hb).1.2.2.2.2.1, (f3 b hb).1.2.2.2.2.2⟩
      have nC : H5 s3.heap.objs.size = none := by
        have z : H5 ce.locals = none := I6.free
        rw [cL] at z
        exact z
      obtain ⟨m, hn, _⟩ := I6.loc
      have hn : s6.heap.Ns ce.locals m := hn
      rw [cL] at hn
      exact hRR D s3.heap.objs.size s6 m H5 I7 qq hn (I3.fpOk (Nat.le_refl _) nC)
    · have ti := T.item (blkE X s3 H3 scope ce fp xe) rfl rfl rfl hc i [] s5 _ H5 (fun _ _ => False) I5 (stat I5 n5) st5 go
      refine thnF ti fun r s6 ⟨u, hr, h6⟩ => ?_
      subst hr
      refine thnF h6 fun _ s7 ⟨x, H7, I7, r7, y7, st7, n7⟩ => ?_
      have I7' := I7.pinned (stat I7 n7) (T.obj _ _ st7)
      refine thn (pg.run _ s7 _ H7 x u _ I7' r7 (step x H7 y7)) fun _ s8 ⟨σ8, H8, I8, hw8, q8⟩ => ?_
      refine thn (pt.run _ s8 σ8 H8 _ I8 q8) fun b s9 ⟨H9, I9, q9⟩ => ?_
      have fin : ∀ {s' : Shared} {H' : Hp}, Inv (blkE X s3 H3 scope ce fp xe) ([] ++ pinsAt fp s7.heap) σ8 H' s' → Nx H' → ∃ m, m < n ∧ ∃ i H', Inv (blkE X s3 H3 scope ce fp xe) [] (wipe σ (own.map (·.2))) H' s' ∧ tn i s'.heap ∧ (∀ b ∈ fp, H' b = none) ∧ Wk i m H' := fun {s' H'} I' nx => by
        obtain ⟨m', hm, w'⟩ := hNx H' nx
        have pin' : ∀ b ∈ fp, ∀ o, s7.heap.get? b = some o → s'.heap.get? b = some o ∧ H' b = none := fun b hb o e =>
          let z := I'.pin (b, o) (List.mem_append_right _ (List.mem_append_right _ (mem_pinsAt hb e)))
          ⟨z.1, z.2.1⟩
        have hl : (wipe σ (own.map (·.2))).length = σ8.length := by rw [← hw8, wipe_length]
        refine ⟨m', hm, i + 1, H', (I'.unpinned (pins := [])).weak hl (fun j v e => ?_), T.keep _ _ _ st7 fun b hb o e => (pin' b hb o e).1, fun b hb => ?_, w'⟩
        · rw [← hw8] at e
          exact (wipe_some e).1
        · obtain ⟨o, e, _⟩ := T.obj _ _ st7 b hb
          exact (pin' b hb o e).2
      cases b with
      | false =>
        simp only [Bool.false_eq_true, if_false] at q9 ⊢
        exact fin I9 q9
      | true =>
        simp only [if_true] at q9 ⊢
        refine thn (pe.run _ s9 σ8 H9 _ I9 q9) fun z s10 ⟨yv, H10, I10, r10, acc, hD10, hz10, nx⟩ => ?_
        exact app_ok (X := blkE X s3 H3 scope ce fp xe) I10 hD10 hz10 r10 fun s11 I11 => fin I11 nx
  exact codeAny_compStart_list loop (T.self X.A 0 _ _ _ st4 loop)
/-- as a value -/
theorem pe_lcE {W : WX} {E : XK} {elt tg iter : Expr} {ifs : List Expr} {scope : Scope} {own : List (Str × Nat)} {pos : Pos} {wi : L2.TI} {g : TG} {tt : TT} {te : TE}
    (tk : Takes X W) (hst : X.stack = X.env :: X.outer) (hf : X.env.frame = some X.env.locals) (hW : ∀ cls d σ H', E cls d H' → W cls d σ H')
    (hc : X.calm = true) (hN : X.N.Nodup) (hi : PI X tg iter wi) (ok : BlkOk X.N X.env.scope scope own)
    (hg : BlkR X scope E fun Y => PG Y tg g) (ht : BlkR X scope E fun Y => PTs Y ifs tt) (he : BlkR X scope E fun Y => PE Y elt te) (hs : ∀ x, foldedSetIterable iter X.env x = pure x := by intro _; rfl) :
    PE X (.ListComp elt [⟨tg, iter, ifs, 0⟩] scope pos) (tLc wi g tt te (own.map (·.2))) := by
  refine ⟨fun pins s σ H Q I h => ?_⟩
  rw [eval_ListComp]
  refine lc_coreE tk hst hf (fun cls d H' => hW cls d σ H') hc hN I hi ok hg ht he hs h fun D C s' m H' I' q hn f => ⟨m, hn, fun h'' sb => ?_⟩
  obtain ⟨f0, f1, f2, f3, f4, f5⟩ := f
  exact ⟨.ref D, H', I'.turned (t' := s'.toks) (fun b o hb e => (sb.2 b hb).trans e) f0 f1 f3 f4 f5, rfl, q⟩
end
end Lk

/-! ## ActB -/
set_option Elab.async false
set_option linter.all false
set_option maxRecDepth 100000
set_option maxHeartbeats 2000000
/-! A lambda that a def got, called in one of its comprehensions. -/
namespace Lk
open PySem PySem.Spec PyProof.Rows L2 LamX NdefX
variable [Own]
/-- cells that no walk of the frame's is about -/
theorem cells_kept {X : Cx} {pins : List (Addr × Obj)} {σ : L2.St} {H : Hp} {s : Shared} {cl : List (Str × Addr)} {fr : List Str} {ws : List (Option V)} (C : CellsAt cl fr ws X.s_0.heap X.H_0) (nx : ∀ y c, cl.lookup y = some c → c ∉ X.ex) (I : Inv X pins σ H s) : CellsAt cl fr ws s.heap H := by
  refine ⟨C.len, fun y c e => ?_, C.inj, fun i y e => ?_⟩
  · obtain ⟨n, v, o, ho, hd⟩ := C.all y c e
    refine ⟨I.base.free c o ho n (nx y c e), v, ?_⟩
    obtain ⟨sl, h1⟩ := I.base.any ho n (nx y c e)
    exact ⟨_, h1, hd⟩
  · obtain ⟨c, hc, hv⟩ := C.has i y e
    refine ⟨c, hc, fun v ev => ?_⟩
    obtain ⟨u, r, o, ho, hd⟩ := hv v ev
    obtain ⟨sl, h1⟩ := I.base.any ho (C.all y c hc).1 (nx y c hc)
    exact ⟨u, r, _, h1, hd⟩
/-- in a block of a def's: what its cells held they hold -/
theorem cells_blk {X : Cx} {pins : List (Addr × Obj)} {σ : L2.St} {H H1 : Hp} {s s1 : Shared} {scope : Scope} {cenv : Env} {fp : List Addr} {xe : Value → Shared → Prop} {cl : List (Str × Addr)} {fr : List Str} {ws : List (Option V)} (C : CellsAt cl fr ws X.s_0.heap X.H_0) (hx : X.ex = []) (bb : BlkB X s H fp)
    (I : Inv (blkE X s H scope cenv fp xe) pins σ H1 s1) : CellsAt cl fr ws s1.heap H1 := by
  obtain ⟨pins0, σ0, I0⟩ := bb.inv
  have nx : ∀ y c, cl.lookup y = some c → c ∉ fp := fun y c e hm => by
    obtain ⟨n, v, o, ho, hd⟩ := C.all y c e
    rcases bb.fps c hm with h | h
    · rw [hx] at h
      cases h
    · exact absurd (Heap.lt_size ho) (Nat.not_lt.mpr h)
  have C1 := cells_kept C (fun y c e z => by rw [hx] at z; cases z) I0
  exact cells_kept (X := blkE X s H scope cenv fp xe) C1 nx I
section
variable {Z : Cx} {k i : Nat} {mk : Addr → NF} {b : Expr} {ps fr : List Str} {sp : List (Option V) → List V → Hp → VK → Prop} {f c' : Addr} {ws : List (Option V)} {x : Str} {p pos : Pos} {e : Expr} {es : List Expr} {t : TA}
theorem pe_actC (L : LOk Z.prog Z.w Z.K Z.mg Z.base k mk b ps fr sp) (C : ∀ pins σ H s, Inv Z pins σ H s → CellsAt (mk c').cl fr ws s.heap H) (hr : Room k Z.A) (hN : Z.N[i]? = some x) (hv : Vis Z.env.scope x) (ha : PA Z (e :: es) t)
    (hd : (x == ("__debug__" : Str)) = false := by decide) (hcd : (x == ("__classdict__" : Str)) = false := by decide)
    (he : starEach (e :: es) Z.env = (false, eval e Z.env) :: starEach es Z.env := by rfl) (hpl : (backTo pos (starEach es Z.env)).any (·.1) = false := by rfl) :
    PE Z (.Call (.Name x p) (e :: es) [] pos) (tActL i f c' mk b (sp ws) t) := by
  refine ⟨fun pins s σ H Q I h => ?_⟩
  obtain ⟨hs, hf0, ht⟩ := h
  refine wpAny_Call_Name_kw (thn ((pe_var (pos := p) hN hv hd hcd).run pins s σ H (fun v H1 => v = .ref f ∧ H1 f = some (LmO f (mk c') b) ∧ t σ H1 fun vs H2 => H2 f = some (LmO f (mk c') b) ∧ H2 c' = some (CodeO c' (mk c').qual) ∧ sp ws vs H2 Q) I ⟨.ref f, hs, rfl, hf0, ht⟩) fun u s1 ⟨v, H1, I1, r1, q1⟩ => ?_)
  obtain ⟨rfl, hf1, q1⟩ := q1
  obtain rfl : u = Value.ref f := r1
  have hF : PySem.W.FnAt f s1.heap := by
    obtain ⟨pm, ctv, ho⟩ := lm_at I1.hok hf1
    exact ⟨_, _, _, _, ho⟩
  refine PySem.W.callWith_F (first := []) hF (thn (ha.run pos pins s1 σ H1 _ I1 q1) fun us s2 ⟨vs, H2, I2, r, h1, h2, q⟩ => ?_) he hpl
  obtain ⟨pm, ctv, ho⟩ := lm_at I2.hok h1
  refine ⟨⟨_, _, _, _, ho⟩, ?_⟩
  show wpAny _ _ (call (.ref f) us) _ _ _
  refine wpAny_call (codeAny_mono (L.run f c' Z.A Z.stack s2 H2 us vs ws Q hr I2.env0 h1 h2 (C _ _ _ _ I2) r q) fun r s' hq => ?_)
  cases r with
  | error e => exact (show False from hq).elim
  | ok fl =>
    cases fl with
    | ret u => exact I2.after hq
    | next => exact False.elim hq
    | brk => exact False.elim hq
    | cont => exact False.elim hq
end
end Lk

/-! ## SetLcE -/
set_option Elab.async false
set_option linter.all false
set_option maxRecDepth 100000
set_option maxHeartbeats 2000000
/-! name = [..], the step told where the block begins, and what it may let out. -/
namespace Lk
open PySem PySem.Spec PyProof.Rows L2
variable [Own]
theorem ps_setLcE {X : Cx} {W : WX} {E : XK} {j : Nat} {z : Str} {pz : Pos} {elt tg iter : Expr} {ifs : List Expr} {scope : Scope} {own : List (Str × Nat)} {pos ap : Pos} {wi : L2.TI} {g : TG} {tt : TT} {te : TE}
    (tk : Takes X W) (hst : X.stack = X.env :: X.outer) (hf : X.env.frame = some X.env.locals) (hW : ∀ cls d σ H', E cls d H' → W cls d σ H')
    (hc : X.calm = true) (hN : X.N.Nodup) (hz : X.N[j]? = some z) (hzl : X.env.scope.names.lookup z = some .local)
    (hsw : swapsWith (.ListComp elt [⟨tg, iter, ifs, 0⟩] scope pos) (some (.Name z pz)) ap.line X.env = pure true) (hi : PI X tg iter wi) (ok : BlkOk X.N X.env.scope scope own)
    (hg : BlkR X scope E fun Y => PG Y tg g) (ht : BlkR X scope E fun Y => PTs Y ifs tt) (he : BlkR X scope E fun Y => PE Y elt te) (hs : ∀ x, foldedSetIterable iter X.env x = pure x := by intro _; rfl) :
    PS X (.Assign [.Name z pz] (.ListComp elt [⟨tg, iter, ifs, 0⟩] scope pos) ap) (tAsg (tLc wi g tt te (own.map (·.2))) (gName j)) := by
  refine ⟨fun pins s σ H D I h => ?_⟩
  rw [exec_Assign_Name_used _ _ _ _ hsw]
  refine wpAny_bind (wpAny_standAt (wpAny_bind (show wpAny _ X.A (do let _ ← comprehension (.ListComp elt [⟨tg, iter, ifs, 0⟩] scope pos) scope X.env (firstIterPos [⟨tg, iter, ifs, 0⟩] pos) (newList []) false (eval iter X.env) (some (assign (.Name z pz) X.env))) _ _ s from ?_)))
  have h' : tLc wi g tt te (own.map (·.2)) σ H (fun x H1 => gName j x σ H1 D.nx) := h
  refine wpAny_bind (thn (lc_coreE (Qf := fun _ s' => SP X pins D .next s') tk hst hf (fun cls d H' => hW cls d σ H') hc hN I hi ok hg ht he hs h' fun L C s' m H' J q hn f => ?_) fun _ s' hq => wpAny_pure (wpAny_pure hq))
  obtain ⟨f0, f1, f2, f3, f4, f5⟩ := f
  refine (show wpAny _ _ (assign (.Name z pz) X.env (.ref L)) _ _ _ from wpAny_assign_Name (store_ok2 (v := V.ref L) J hN hz (.inl hzl) rfl (fun s2 I2 ⟨a, sb, ha⟩ => ?_) (.inr hzl)))
  have haC : C ≠ a := by
    rcases ha with e | e
    · exact e ▸ f1
    · exact fun e2 => f4 z a e e2.symm
  refine ⟨m, hn.sameBut sb haC, fun h3 sb3 => ⟨_, H', I2.turned (t' := s2.toks) (fun b o hb e => (sb3.2 b hb).trans e) f0 f1 f3 f4 f5, q⟩⟩
end Lk

/-! ## TryL -/
set_option Elab.async false
set_option linter.all false
set_option maxRecDepth 100000
set_option maxHeartbeats 4000000
namespace Lk
open PySem PySem.Spec PyProof.Rows L2 Gx LamX NdefX
open GxR (Tabbed TabG)
variable [Own]
/-- a try, by a name -/
def tTryN (tb : WX → TS) (K : PySem.W.Frag) (c : Value) (i : Nat) (ts : Addr → Value → Option Addr → TS) (Wout : WX) : TS := fun D σ H => tb (wAs K c i ts Wout D) D σ H
theorem ps_tryN {X : Cx} {x n : Str} {c : Value} {i : Nat} {body suite : List Stmt} {b₀ : Stmt} {np pos pos' : Pos} {tb : WX → TS} {ts : Addr → Value → Option Addr → TS} {Wout : WX} (hs : X.stack = X.env :: X.outer) (hf : X.env.frame = some X.env.locals) (hN : X.N.Nodup) (hi : X.N[i]? = some n) (hln : X.env.kindOf n = some .local) (hc : Names X x c) (tk : Takes X Wout)
    (hb : ∀ (W : WX) (pn : List (Addr × Obj)) (xe : Value → Shared → Prop), Takes (X.tr pn xe) W → PassesOwn (model X.prog X.w) X.A X.env xe → PSs (X.tr pn xe) body (tb W))
    (hsu : ∀ (a : Addr) (oe : Obj) (cls : Value) (d : Option Addr) (pn : List (Addr × Obj)), Zc cls d oe → (∃ vs, oe.data = .fields vs) → PSs (X.suite a ((a, oe) :: pn)) (b₀ :: suite) (ts a cls d)) :
    PS X (.Try body [.ExceptHandler (some (.Name x np)) (some n) (b₀ :: suite) pos'] [] [] pos) (tTryN tb X.K c i ts Wout) := ps_try_as hs hf hN hi hln hc tk hb hsu
/-- a def with lambdas of its own: its code object's address, its table's -/
structure FunL (K : PySem.W.Frag) (mg : Str → Option Value) (base : Heap) (x : Str) (st : Stmt) (f : Addr) (fd : FuncData) (T : Addr) : Prop where
  ex : ∃ (oc : Value) (od : Option Addr) (kV doc pm : Value) (an : Option Addr) (c : Addr) (ct : Value) (osl : Array (Option Value)),
    fd = PySem.W.fnOf x x (defArgs st) (defBody st) (defScope st) .none kV doc pm an (.ref c) ct ∧ K.lookup f = some ⟨oc, od, .func fd, osl⟩ ∧ PySem.W.codeIn K (.ref c) x = true ∧ LamX.TabB base mg c T
theorem FunL.ok {P : Program} {w : World} {K : PySem.W.Frag} {mg : Str → Option Value} {base : Heap} {x : Str} {st : Stmt} {f : Addr} {fd : FuncData} {T : Addr} {N ps : List Str} {k : Nat} {sp : Sp} (F : FunL K mg base x st f fd T) (S : FnScope N ps (defScope st)) (len : ∀ vs H Q E, sp vs H Q E → vs.length = ps.length)
    (hbody : ∀ (c : Addr) (A : Around) (outer : List Env) (s : Shared) (H : Hp) (vs : List V) (Q : VK) (E : XK), LamX.TabB base mg c T → Room k (A.deeper (envOfC x (defScope st) s.heap.objs.size f (.ref c))) → sp vs H Q E →
      ∃ t, PSs (cxOf CX0 P w K mg base N x (defScope st) f (.ref c) A outer s H E).nox (defBody st) t ∧ t { nx := fun _ H' => Q .non H', rt := Q } (start N vs) H) : FnOk P w K mg base CX0 (k + 1) f fd ps sp := by
  obtain ⟨oc, od, kV, doc, pm, an, c, ct, osl, rfl, lk, hcd, tb⟩ := F.ex
  refine fn_of lk hcd S len fun A outer s H vs Q E hr hsp => ?_
  obtain ⟨t, h, q⟩ := hbody c A outer s H vs Q E tb hr hsp
  exact ⟨t, h.nox, q⟩
/-- behind a lambda that was made: as seen without tables of one's own -/
theorem grownExt {T : Addr} {q : Str} {H1 H2 : Hp} (t1 : LamX.TabS H1 T q) (kp : Grown T H1 H2) (t2 : LamX.TabS H2 T q) : @Ext ⟨fun _ => False⟩ H1 H2 := by
  obtain ⟨p1, a1, b1, _⟩ := t1
  obtain ⟨p2, a2, b2, _⟩ := t2
  refine @Ext.mk ⟨fun _ => False⟩ _ _ (fun a o h q => kp.1 a o (fun z => ?_) h) (fun P h => ?_) (fun a o h => ?_) (fun _ _ z _ => z.elim)
  · rw [z, a1] at h
    cases h
    cases q
  · by_cases z : P = T
    · rw [z]
      exact ⟨p2, a2, b2⟩
    · obtain ⟨ps, e, t⟩ := h
      exact ⟨ps, kp.1 P _ z e, t⟩
  · by_cases z : a = T
    · rw [z]
      exact ⟨_, a2⟩
    · exact ⟨o, kp.1 a o z h⟩
theorem tabS_own {T : Addr} {q : Str} {H H' : Hp} (ho : Own.own T) (e : Ext H H') (t : LamX.TabS H T q) : LamX.TabS H' T q := by
  obtain ⟨ps, a1, a2, a3⟩ := t
  refine ⟨ps, e.own T ps ho a1, a2, fun pos cv hc => ?_⟩
  obtain ⟨c, e1, e2⟩ := a3 pos cv hc
  exact ⟨c, e1, e.keep _ _ e2 rfl⟩
end Lk

/-! ## Kl0 -/
set_option Elab.async false
set_option linter.all false
set_option maxRecDepth 100000
set_option maxHeartbeats 2000000
/-! A key: lambda lot: (len(lot), lot). -/
namespace Lk
open PySem PySem.Spec PyProof.Rows L2 LamX NdefX
/-- the lambda's body -/
abbrev klBody (x : Str) (p1 p2 p3 p4 : Pos) (e0 : Nat) (e1 : Pos) : Expr := .Tuple [.Call (.Name "len" p1) [.Name x p2] [] p3, .Name x p4] e0 e1
section
variable {prog : Program} {w : World} {A : Around} {E : Value → Shared → Prop} {s : Shared} {N : List Str} {q x : Str} {params : Arguments} {scope : Scope} {p1 p2 p3 p4 e1 : Pos} {e0 : Nat} {f c' t : Addr} {pm ctv : Value} {K : PySem.W.Frag} {mg : Str → Option Value}
theorem key_len {items : Array Value} {R : Result → Shared → Prop} (S : NScope N [x] [] scope) (hb : ∀ (pm ctv : Value) (c' : Addr) (us : List Value), us.length = 1 → bindArgs (PySem.W.kla_fn "<lambda>" q params (klBody x p1 p2 p3 p4 e0 e1) scope [] pm (.ref c') ctv) ⟨us, []⟩ = pure ([x].zip us))
    (hdep : A.depth < recursionLimit) (lim : s.heap.NoLimit) (ho : s.heap.get? f = some (PySem.W.kla_obj "<lambda>" q params (klBody x p1 p2 p3 p4 e0 e1) scope [] pm c' ctv)) (hcode : s.heap.CodeRec (.ref c') q)
    (hg : s.heap.Ns mainGlobals mg) (hlen : mg "len" = none) (hblt : ∃ mb, s.heap.Ns builtinsNs mb ∧ ∀ y : Str, y ≠ "__name__" → mb y = bootBuiltins y) (hx : scope.names.lookup x = some .local) (hgl : scope.names.lookup ("len" : Str) = some .globalImplicit) (hd1 : (x == ("__debug__" : Str)) = false)
    (ht : IsTup s.heap t items) (hz : items.size ≤ 1000)
    (hR : ∀ h' tk p t', (∀ b o, s.heap.get? b = some o → h'.get? b = some o) → h'.get? p = some { cls := .type "tuple", data := .seq #[.int items.size t', .ref t] } → R (.ok (.ret (.ref p))) { s with heap := h', toks := tk }) :
    codeAny (model prog w) A (.call (.ref f) ⟨[.ref t], []⟩) R s := by
  refine PySem.W.kla_callFunE hdep ho rfl S.co S.gen rfl ?_ ?_
  · exact hcode
  show wpAny _ _ (bindArgs (PySem.W.kla_fn "<lambda>" q params (klBody x p1 p2 p3 p4 e0 e1) scope [] pm (.ref c') ctv) ⟨[.ref t], []⟩) _ _ _
  rw [hb pm ctv c' [.ref t] rfl]
  refine wpAny_pure (wpAny_newFunctionEnv S.nocell (fun ⟨n, _⟩ hy => S.par n (List.of_mem_zip hy).1) (fun h₁ hns hsb => ⟨lim.fresh _ hsb, ?_⟩) S.kind)
  show codeAny _ _ (.expr (klBody x p1 p2 p3 p4 e0 e1) (envF (lamF q params scope [] c') f s.heap.objs.size)) _ _
  refine PySem.W.kla_codeExpr ?_
  have kp : ∀ a o, s.heap.get? a = some o → h₁.get? a = some o := fun a o e => hsb.extBut a o (Nat.ne_of_lt (Heap.lt_size e)) (Heap.get?_push_of_some _ e)
  obtain ⟨mb, hb1, hb2⟩ := hblt
  refine wpAny_Tuple_spliced ?_
  show wpAny _ _ (spliced ((false, eval (.Call (.Name "len" p1) [.Name x p2] [] p3) (envF (lamF q params scope [] c') f s.heap.objs.size)) :: backTo e1 ((false, eval (.Name x p4) (envF (lamF q params scope [] c') f s.heap.objs.size)) :: []))) _ _ _
  refine Calls.spliced_cons ?_
  refine wpAny_Call_Name_kw (Calls.Name_function_global S.kind hgl (Calls.loadGlobal_builtin (hg.keeps kp) hlen (hb1.keeps kp) ((hb2 _ (by decide)).trans boot_len) ?_) (by decide))
  refine PyProof.Rows.callWith_builtin1 ?_ rfl rfl
  have lk : List.lookup x ([x].zip [Value.ref t]).reverse = some (Value.ref t) := by simp
  show wpAny _ _ (spliced ((false, eval (.Name x p2) (envF (lamF q params scope [] c') f s.heap.objs.size)) :: [])) _ _ _
  refine Calls.spliced_cons (wpAny_Name (wpAny_loadName_local S.kind hx hns lk ?_) hd1)
  refine Calls.spliced_nil ?_
  have n63 : (items.size : Int) < 2 ^ 63 := by omega
  have ht1 : IsTup h₁ t items := by
    obtain ⟨o, e, r⟩ := ht
    exact ⟨o, kp _ _ e, r⟩
  refine len_tuple (s := { s with heap := h₁, toks := _ }) ht1 n63 ?_
  show wpAny _ _ (spliced ((false, eval (.Name x p4) (envF (lamF q params scope [] c') f s.heap.objs.size)) :: [])) _ _ _
  refine Calls.spliced_cons (wpAny_Name (wpAny_loadName_local S.kind hx hns lk ?_) hd1)
  refine Calls.spliced_nil ⟨(by show 2 ≤ sizeLine; rw [sizeLine_eq]; decide), ?_⟩
  exact hR _ _ _ _ (fun b o e => Heap.get?_push_of_some _ (kp b o e)) (Heap.get?_push_size _ rfl)
end
/-- how the key reads -/
def keyD (l : List Int) : PyData := .tuple [.int (l.length : Int), .tuple (l.map .int)]
/-- tuples of ints, by how many and then in order -/
def sortKL (rows : List (List Int)) : List (List Int) := rows.mergeSort (PySem.W.dataLe false keyD)
theorem reads_ints {h : Heap} : ∀ {ns : List Int} {us : List Value}, Vals (iv ns) us → ReadsAll h us (ns.map .int) []
  | [], _, .nil => .nil
  | n :: ns, _, .cons r rs => by
    obtain ⟨t, rfl⟩ := r
    exact .cons (.int n t) (reads_ints rs)
theorem reads_key {h : Heap} {p t : Addr} {t' : Tok} {ns : List Int} {us : List Value} (r : Vals (iv ns) us) (ht : IsTup h t us.toArray) (hp : h.get? p = some { cls := .type "tuple", data := .seq #[.int ns.length t', .ref t] }) : Reads h (.ref p) (keyD ns) [] := by
  obtain ⟨o, ho, hc, n, hd⟩ := ht
  refine .tuple hp rfl rfl ?_
  show ReadsAll h [.int ns.length t', .ref t] [.int (ns.length : Int), .tuple (ns.map .int)] []
  refine .cons (as := []) (bs := []) (.int _ _) (.cons (as := []) (bs := []) (.tuple ho hc hd ?_) .nil)
  exact reads_ints r
section
variable [Own] {X : Cx} {N : List Str} {q x : Str} {params : Arguments} {scope : Scope} {p1 p2 p3 p4 e1 : Pos} {e0 : Nat}
def rSortKL (q : Str) (params : Arguments) (scope : Scope) (body : Expr) : List V → List V → Hp → VK → Prop := fun vs zs H Q => ∃ (a : Addr) (ys : List V) (rows : List (List Int)) (f c' : Addr), vs = [.ref a] ∧ H a = some (.lst ys) ∧ Paired (TI H) ys rows ∧ (∀ r ∈ rows, r.length ≤ 1000) ∧ zs = [.ref f] ∧
  H f = some (LmO f (lamF q params scope [] c') body) ∧ H c' = some (CodeO c' q) ∧ ∀ p out, H p = none → Paired (TI H) out (sortKL rows) → Q (.ref p) (upd H p (.lst out))
theorem cr_sortKL {k : Nat} (hr : Room k X.A) (hu : X.A.units + 66 < cLine) (S : NScope N [x] [] scope) (hb : ∀ (pm ctv : Value) (c' : Addr) (us : List Value), us.length = 1 → bindArgs (PySem.W.kla_fn "<lambda>" q params (klBody x p1 p2 p3 p4 e0 e1) scope [] pm (.ref c') ctv) ⟨us, []⟩ = pure ([x].zip us))
    (hlen : X.mg "len" = none) (hx : scope.names.lookup x = some .local) (hgl : scope.names.lookup ("len" : Str) = some .globalImplicit) (hd1 : (x == ("__debug__" : Str)) = false) :
    CallRK X (.builtin "sorted") [("key" : Str)] (rSortKL q params scope (klBody x p1 p2 p3 p4 e0 e1)) := by
  intro pins s σ H xs zs us ws Q I r1 r2 h
  obtain ⟨a, ys, rows, f, c', rfl, ha, hp, h1000, rfl, hf, hc, hq⟩ := h
  obtain ⟨its, rv, hl, hz⟩ := I.list (SqL.of ha)
  rw [Vals.ref1 r1, Vals.ref1 r2]
  obtain ⟨bs, b1, b2, b3⟩ := both_of rv hp
  obtain ⟨pm, ctv, ho⟩ := lm_at I.hok hf
  have hmem : ∀ b ∈ bs, b.2 ∈ rows := fun b hb => by rw [← b2]; exact List.mem_map.mpr ⟨b, hb, rfl⟩
  have hcode := codeO_at I.hok hc
  show wpAny _ _ (call (.builtin "sorted") [.ref a] [(Str.ofString "key", .ref f)]) _ _ _
  refine PySem.W.sorted_key_data (b := false) (fun b : V × List Int => keyD b.2) hl.isList b3 (PySem.W.AllAlike.of fun b b' => ?_) (PySem.W.Sortable.tuples fun b => ⟨_, _, rfl⟩) (by rw [← List.length_map (f := (·.1)), b1]; exact hz) (fun b hbm => ?_) (PyProof.Rows.ksk_s1 _ _) (fun _ => PyProof.Rows.ksk_l1 _ _) (fun _ => PyProof.Rows.ksk_t1 _ _) (fun v b hR hbm h tk kp => ?_) fun out c h' tk kp fresh hD hlen ho => ?_
  · show PySem.W.alike (keyD b.2) (keyD b'.2) = true
    unfold keyD
    simp only [PySem.W.alike, PySem.W.alikeAll]
    simp [PySem.W.alike_ints]
  · show X.A.units + 2 + (keyD b.2).depth < cLine
    unfold keyD
    simp only [PyData.depth, PyData.depthAll, depth_ints]
    omega
  · obtain ⟨rv1, t, et, htp⟩ := hR
    rw [et] at rv1
    obtain rfl : v = Value.ref t := rv1
    obtain ⟨its2, rv2, pl2, hz2⟩ := I.tuple (SqT.of htp)
    have l1 := hmem b hbm
    have l2 := h1000 _ l1
    have l3 : its2.length = b.2.length := by rw [← rv2.length, iv_len]
    have pl3 : IsTup h t its2.toArray := by
      obtain ⟨o, e, r⟩ := pl2
      exact ⟨o, kp _ _ e, r⟩
    have hgl0 : s.heap.Ns mainGlobals X.mg := by
      have := I.mod.glob
      exact this.keeps I.bk
    obtain ⟨mb, m1, m2⟩ := I.mod.blt
    refine wpAny_call (key_len (s := { s with heap := h, toks := tk }) (items := its2.toArray) S hb ?dep (I.nolimit.keeps kp) (kp _ _ ho) (hcode.keeps kp) (hgl0.keeps kp) hlen ⟨mb, (m1.keeps I.bk).keeps kp, m2⟩ hx hgl hd1 pl3 (by rw [List.size_toArray]; omega) fun h2 tk2 p t' k2 hp2 => ?_)
    case dep =>
      have := hr.dp
      show X.A.depth < recursionLimit
      omega
    refine ⟨h2, tk2, rfl, k2, ?_⟩
    rw [List.size_toArray, l3] at hp2
    refine reads_key rv2 ?_ hp2
    obtain ⟨o, e, r⟩ := pl3
    exact ⟨o, k2 _ _ e, r⟩
  · obtain ⟨k1, k2⟩ := of_both ho
    have e4 : (bs.mergeSort (PySem.W.dataLe false fun b : V × List Int => keyD b.2)).map (·.2) = sortKL rows := by
      unfold sortKL
      rw [← b2]
      exact PySem.W.sort_maps _ fun _ _ _ _ => rfl
    rw [e4] at k2
    have hl2 : ((bs.mergeSort (PySem.W.dataLe false fun b : V × List Int => keyD b.2)).map (·.1)).length ≤ sizeLine := by
      rw [List.length_map, List.length_mergeSort, ← List.length_map (f := (·.1)), b1]
      exact hz
    exact ⟨.ref _, upd H (s.heap.objs.size + 1) (.lst _), I.laid (t' := tk) kp (Nat.le_succ _) ⟨hl2, out, c, k1, hD⟩, rfl, hq _ _ (I.hok.fresh (Nat.le_succ _)) k2⟩
end
end Lk

/-! ## Kl1 -/
set_option Elab.async false
set_option linter.all false
set_option maxRecDepth 100000
set_option maxHeartbeats 2000000
/-! All lots of so many things, smaller ones first, then ascending. -/
namespace Lk
open PySem PySem.Spec PyProof.Rows L2 Cb
/-- ascending, the first unlike place tells -/
def lexN : List Nat → List Nat → Prop
  | x :: a, y :: b => x < y ∨ (x = y ∧ lexN a b)
  | _, _ => False
theorem cmb_asc : ∀ d lo k, (cmb d lo k).Pairwise lexN
  | d, lo, 0 => by
    rw [cmb_zero]
    exact List.pairwise_singleton ..
  | 0, lo, k + 1 => .nil
  | d + 1, lo, k + 1 => by
    show ((cmb d (lo + 1) k).map (lo :: ·) ++ cmb d (lo + 1) (k + 1)).Pairwise lexN
    refine List.pairwise_append.mpr ⟨List.pairwise_map.mpr ((cmb_asc d (lo + 1) k).imp fun h => .inr ⟨rfl, h⟩), cmb_asc d (lo + 1) (k + 1), fun a ha b hb => ?_⟩
    obtain ⟨q, _, rfl⟩ := List.mem_map.mp ha
    have hl := cmb_len d (lo + 1) (k + 1) b hb
    match b, hl with
    | x :: r, _ =>
      have := (cmb_lt d (lo + 1) (k + 1) (x :: r) hb x (List.mem_cons_self ..)).1
      exact .inl (by omega)
theorem mem_cmb : ∀ {d lo k : Nat} {l : List Nat}, l ∈ cmb d lo k ↔ l.length = k ∧ l.Pairwise (· < ·) ∧ ∀ i ∈ l, lo ≤ i ∧ i < lo + d
  | d, lo, 0, l => by
    rw [cmb_zero, List.mem_singleton]
    constructor
    · rintro rfl
      exact ⟨rfl, .nil, fun i h => by cases h⟩
    · rintro ⟨h, _⟩
      exact List.eq_nil_of_length_eq_zero h
  | 0, lo, k + 1, l => by
    constructor
    · intro h
      cases h
    · rintro ⟨h, _, h2⟩
      match l, h with
      | x :: r, _ =>
        have := h2 x (List.mem_cons_self ..)
        omega
  | d + 1, lo, k + 1, l => by
    show l ∈ (cmb d (lo + 1) k).map (lo :: ·) ++ cmb d (lo + 1) (k + 1) ↔ _
    rw [List.mem_append, List.mem_map]
    constructor
    · rintro (⟨q, hq, rfl⟩ | h)
      · obtain ⟨h1, h2, h3⟩ := mem_cmb.mp hq
        refine ⟨by rw [List.length_cons, h1], List.pairwise_cons.mpr ⟨fun i hi => by have := h3 i hi; omega, h2⟩, fun i hi => ?_⟩
        rcases List.mem_cons.mp hi with e | hi
        · omega
        · have := h3 i hi
          omega
      · obtain ⟨h1, h2, h3⟩ := mem_cmb.mp h
        exact ⟨h1, h2, fun i hi => by have := h3 i hi; omega⟩
    · rintro ⟨h1, h2, h3⟩
      match l, h1 with
      | x :: r, h1 =>
        obtain ⟨a1, a2⟩ := List.pairwise_cons.mp h2
        have hx := h3 x (List.mem_cons_self ..)
        by_cases e : x = lo
        · subst e
          exact .inl ⟨r, mem_cmb.mpr ⟨by simpa using h1, a2, fun i hi => by have := a1 i hi; have := h3 i (List.mem_cons_of_mem _ hi); omega⟩, rfl⟩
        · refine .inr (mem_cmb.mpr ⟨h1, h2, fun i hi => ?_⟩)
          have q := h3 i hi
          rcases List.mem_cons.mp hi with e2 | hi
          · omega
          · have := a1 i hi
            omega
/-- all lots of n things -/
def allLots (n : Nat) : List (List Nat) := (List.range (n + 1)).flatMap fun k => cmb n 0 k
theorem mem_lots {n : Nat} {l : List Nat} : l ∈ allLots n ↔ l.Pairwise (· < ·) ∧ ∀ i ∈ l, i < n := by
  unfold allLots
  rw [List.mem_flatMap]
  constructor
  · rintro ⟨k, _, h⟩
    obtain ⟨_, h2, h3⟩ := mem_cmb.mp h
    exact ⟨h2, fun i hi => by have := h3 i hi; omega⟩
  · rintro ⟨h1, h2⟩
    have hm : l ∈ cmb n 0 l.length := mem_cmb.mpr ⟨rfl, h1, fun i hi => by have := h2 i hi; omega⟩
    refine ⟨l.length, List.mem_range.mpr ?_, hm⟩
    rcases Nat.lt_or_ge n l.length with h | h
    · rw [cmb_big n 0 _ h] at hm
      cases hm
    · omega
/-- smaller ones first, then ascending -/
def kltN (a b : List Nat) : Prop := a.length < b.length ∨ (a.length = b.length ∧ lexN a b)
theorem lots_asc (n : Nat) : (allLots n).Pairwise kltN := by
  unfold allLots
  refine List.pairwise_flatMap.mpr ⟨fun k _ => ?_, ?_⟩
  · refine (cmb_asc n 0 k).imp_of_mem fun {a b} ha hb h => .inr ⟨?_, h⟩
    rw [cmb_len n 0 k a ha, cmb_len n 0 k b hb]
  · refine List.pairwise_lt_range.imp fun {i j} hij a ha b hb => .inl ?_
    rw [cmb_len n 0 i a ha, cmb_len n 0 j b hb]
    exact hij
theorem lexN_irrefl : ∀ a : List Nat, ¬ lexN a a
  | [], h => h
  | x :: a, h => by
    rcases h with h | ⟨_, h⟩
    · omega
    · exact lexN_irrefl a h
theorem klt_irrefl (a : List Nat) : ¬ kltN a a := fun h => by
  rcases h with h | ⟨_, h⟩
  · omega
  · exact lexN_irrefl a h
theorem lots_nodup (n : Nat) : (allLots n).Nodup := (lots_asc n).imp fun {a b} (h : kltN a b) (e : a = b) => klt_irrefl b (by rw [e] at h; exact h)
/-- one thing more at a time -/
def subsN : Nat → List (List Nat)
  | 0 => [[]]
  | n + 1 => subsN n ++ (subsN n).map (· ++ [n])
theorem mem_subs : ∀ {n : Nat} {l : List Nat}, l ∈ subsN n ↔ l.Pairwise (· < ·) ∧ ∀ i ∈ l, i < n
  | 0, l => by
    show l ∈ [[]] ↔ _
    rw [List.mem_singleton]
    constructor
    · rintro rfl
      exact ⟨.nil, fun i h => by cases h⟩
    · rintro ⟨_, h⟩
      match l, h with
      | [], _ => rfl
      | x :: r, h =>
        have := h x (List.mem_cons_self ..)
        omega
  | n + 1, l => by
    show l ∈ subsN n ++ (subsN n).map (· ++ [n]) ↔ _
    rw [List.mem_append, List.mem_map]
    constructor
    · rintro (h | ⟨q, hq, rfl⟩)
      · obtain ⟨h1, h2⟩ := mem_subs.mp h
        exact ⟨h1, fun i hi => by have := h2 i hi; omega⟩
      · obtain ⟨h1, h2⟩ := mem_subs.mp hq
        refine ⟨List.pairwise_append.mpr ⟨h1, List.pairwise_singleton .., fun a ha b hb => ?_⟩, fun i hi => ?_⟩
        · rw [List.mem_singleton.mp hb]
          exact h2 a ha
        · rcases List.mem_append.mp hi with h | h
          · have := h2 i h
            omega
          · rw [List.mem_singleton.mp h]
            omega
    · rintro ⟨h1, h2⟩
      rcases List.eq_nil_or_concat l with e | ⟨r, x, e⟩
      · rw [e]
        exact .inl (mem_subs.mpr ⟨.nil, fun i h => by cases h⟩)
      · rw [List.concat_eq_append] at e
        subst e
        obtain ⟨a1, _, a3⟩ := List.pairwise_append.mp h1
        have hx := h2 x (by simp)
        have hr : ∀ i ∈ r, i < x := fun i hi => a3 i hi x (by simp)
        by_cases e : x = n
        · subst e
          exact .inr ⟨r, mem_subs.mpr ⟨a1, hr⟩, rfl⟩
        · refine .inl (mem_subs.mpr ⟨h1, fun i hi => ?_⟩)
          rcases List.mem_append.mp hi with h | h
          · have := hr i h
            omega
          · rw [List.mem_singleton.mp h]
            omega
theorem subs_nodup : ∀ n : Nat, (subsN n).Nodup
  | 0 => List.pairwise_singleton ..
  | n + 1 => by
    show (subsN n ++ (subsN n).map (· ++ [n])).Nodup
    refine List.nodup_append.mpr ⟨subs_nodup n, List.pairwise_map.mpr ((subs_nodup n).imp fun {a b} h e => h (List.append_cancel_right e)), fun a ha b hb e => ?_⟩
    obtain ⟨q, _, rfl⟩ := List.mem_map.mp hb
    have := (mem_subs.mp ha).2 n (by rw [e]; simp)
    omega
theorem subs_len : ∀ n : Nat, (subsN n).length = 2 ^ n
  | 0 => rfl
  | n + 1 => by
    show (subsN n ++ (subsN n).map (· ++ [n])).length = _
    rw [List.length_append, List.length_map, subs_len n, Nat.pow_succ]
    omega
theorem subs_perm (n : Nat) : (subsN n).Perm (allLots n) := (List.perm_ext_iff_of_nodup (subs_nodup n) (lots_nodup n)).mpr fun l => by rw [mem_subs, mem_lots]
theorem lots_len (n : Nat) : (allLots n).length = 2 ^ n := by rw [← (subs_perm n).length_eq, subs_len]
theorem cmb_few (n k : Nat) : (cmb n 0 k).length ≤ 2 ^ n := by
  rcases Nat.lt_or_ge n k with h | h
  · rw [cmb_big n 0 k h]
    exact Nat.zero_le _
  · rw [← lots_len n]
    unfold allLots
    have : (cmb n 0 k).Sublist ((List.range (n + 1)).flatMap fun k => cmb n 0 k) := by
      obtain ⟨a, b, e⟩ := List.append_of_mem (List.mem_range.mpr (show k < n + 1 by omega))
      rw [e, List.flatMap_append, List.flatMap_cons]
      exact (List.sublist_append_left ..).trans (List.sublist_append_right ..)
    exact this.length_le
/-- as ints -/
def lotI (l : List Nat) : List Int := l.map fun i : Nat => (i : Int)
theorem lotI_inj {a b : List Nat} (h : lotI a = lotI b) : a = b := List.map_inj_right (fun _ _ e => Int.ofNat.inj e) |>.mp h
theorem lotI_len (l : List Nat) : (lotI l).length = l.length := List.length_map ..
theorem lotI_toks : ∀ {a b : List Nat}, lexN a b → PyProof.Rows.lexLt PyProof.Rows.itemOrd (PySem.W.keyToksAll ((lotI a).map PyData.int)) (PySem.W.keyToksAll ((lotI b).map PyData.int)) = true
  | x :: a, y :: b, h => by
    show PyProof.Rows.lexLt PyProof.Rows.itemOrd (.inl 1 :: .inl (x : Int) :: PySem.W.keyToksAll ((lotI a).map PyData.int)) (.inl 1 :: .inl (y : Int) :: PySem.W.keyToksAll ((lotI b).map PyData.int)) = true
    refine PyProof.Rows.lex_true.mpr (.inr ⟨rfl, PyProof.Rows.lex_true.mpr ?_⟩)
    rcases h with h | ⟨e, h⟩
    · exact .inl (show decide ((x : Int) < y) = true from decide_eq_true (by omega))
    · exact .inr ⟨show decide ((y : Int) < x) = false from decide_eq_false (by omega), lotI_toks h⟩
  | [], _, h => h.elim
  | _ :: _, [], h => h.elim
theorem ints_inj : ∀ {a b : List Int}, PySem.W.keyToksAll (a.map PyData.int) = PySem.W.keyToksAll (b.map PyData.int) → a = b
  | [], [], _ => rfl
  | x :: a, y :: b, h => by
    have h : (Sum.inl 1 :: Sum.inl x :: PySem.W.keyToksAll (a.map PyData.int) : List (Int ⊕ List Nat)) = .inl 1 :: .inl y :: PySem.W.keyToksAll (b.map PyData.int) := h
    have h1 := (List.cons.inj (List.cons.inj h).2)
    rw [Sum.inl.inj h1.1, ints_inj h1.2]
  | [], _ :: _, h => by
    have h : (Sum.inl 0 :: [] : List (Int ⊕ List Nat)) = .inl 1 :: _ := h
    cases h
  | _ :: _, [], h => by
    have h : (Sum.inl 1 :: _ : List (Int ⊕ List Nat)) = .inl 0 :: [] := h
    cases h
variable [Own]
theorem key_lt (a b : List Int) : PySem.W.dataLt (keyD a) (keyD b) = if a.length = b.length then (if a = b then false else PySem.W.dataLt (dI a) (dI b)) else decide ((a.length : Int) < b.length) := by
  unfold keyD
  rw [PySem.W.dataLt_pair (by simp [PySem.W.alike]) (by simp only [PySem.W.alike]; exact PySem.W.alike_ints _ _), eqv_ii, PySem.W.dataLt_int]
  have e2 : PyData.eqv (.tuple (a.map .int)) (.tuple (b.map .int)) = decide (a = b) := eqv_tt a b
  rw [e2]
  by_cases h : a.length = b.length
  · rw [if_pos (decide_eq_true (by omega)), if_pos h]
    by_cases e : a = b
    · rw [if_pos (decide_eq_true e), if_pos e]
    · rw [if_neg (by rw [decide_eq_false e]; decide), if_neg e]
  · rw [if_neg (by rw [decide_eq_false (by omega)]; decide), if_neg h]
theorem key_le {a b : List Nat} (h : kltN a b) : PySem.W.dataLe false keyD (lotI a) (lotI b) = true := by
  show (!PySem.W.dataLt (keyD (lotI b)) (keyD (lotI a))) = true
  rw [key_lt, lotI_len, lotI_len]
  rcases h with h | ⟨e, h⟩
  · rw [if_neg (by omega), decide_eq_false (by omega)]
    rfl
  · rw [if_pos e.symm]
    by_cases e2 : lotI b = lotI a
    · rw [if_pos e2]
      rfl
    · rw [if_neg e2, Bool.not_eq_true', ← Bool.not_eq_true]
      intro z
      have z : PyProof.Rows.lexLt PyProof.Rows.itemOrd (PySem.W.keyToksAll ((lotI b).map PyData.int)) (PySem.W.keyToksAll ((lotI a).map PyData.int)) = true := z
      have := PyProof.Rows.lex_trans _ _ _ z (lotI_toks h)
      rw [PyProof.Rows.lex_irrefl] at this
      cases this
theorem key_anti {a b : List Int} (h1 : PySem.W.dataLe false keyD a b = true) (h2 : PySem.W.dataLe false keyD b a = true) : a = b := by
  have h1 : (!PySem.W.dataLt (keyD b) (keyD a)) = true := h1
  have h2 : (!PySem.W.dataLt (keyD a) (keyD b)) = true := h2
  rw [Bool.not_eq_true', key_lt] at h1 h2
  by_cases e : a.length = b.length
  · rw [if_pos e.symm] at h1
    rw [if_pos e] at h2
    by_cases e2 : a = b
    · exact e2
    · rw [if_neg (fun z => e2 z.symm)] at h1
      rw [if_neg e2] at h2
      have h1 : PyProof.Rows.lexLt PyProof.Rows.itemOrd (PySem.W.keyToksAll (b.map PyData.int)) (PySem.W.keyToksAll (a.map PyData.int)) = false := h1
      have h2 : PyProof.Rows.lexLt PyProof.Rows.itemOrd (PySem.W.keyToksAll (a.map PyData.int)) (PySem.W.keyToksAll (b.map PyData.int)) = false := h2
      exact ints_inj (PyProof.Rows.lex_total _ _ h2 h1)
  · rw [if_neg (fun z => e z.symm)] at h1
    rw [if_neg e] at h2
    have a1 := of_decide_eq_false h1
    have a2 := of_decide_eq_false h2
    omega
/-- the law's lots are all lots, smaller ones first, then ascending -/
theorem lots_sorted (n : Nat) : sortKL ((subsN n).map lotI) = (allLots n).map lotI := by
  unfold sortKL
  refine List.Perm.eq_of_pairwise (le := fun a b => PySem.W.dataLe false keyD a b = true) (fun a b _ _ h1 h2 => key_anti h1 h2) (PySem.W.sort_pairwise (PySem.W.sortLe_total _ _ _) _) (List.pairwise_map.mpr ((lots_asc n).imp key_le)) ?_
  exact (List.mergeSort_perm ..).trans ((subs_perm n).map _)
end Lk

/-! ## E01 -/
set_option Elab.async false
set_option linter.all false
set_option maxRecDepth 100000
set_option maxHeartbeats 2000000
namespace Lk
open PySem PySem.Spec PyProof.Rows L2 Gx
open GxR (TabG Tabbed TabB)
variable [Own]
/-- lots as they are called by lots_of -/
def cmbI (n k : Nat) : List (List Int) := (Cb.cmb n 0 k).map lotI
abbrev s_lots_of : Stmt := top 32
theorem sc_lots_of : FnScope ["many", "size"] ["many", "size"] (defScope s_lots_of) := ⟨rfl, rfl, rfl, by decide +kernel, rfl, by decide +kernel, by decide +kernel⟩
def spLotsOf : Sp := fun vs H Q _ => ∃ (n k : Nat), vs = [.int (n : Int), .int (k : Int)] ∧ n ≤ 14 ∧ k ≤ 100 ∧ ∀ H' q, Ext H H' → LT2 H' (.ref q) (cmbI n k) → Q (.ref q) H'
/-- somebody of the lot is in the group -/
def meetsB (lot g : List Int) : Bool := lot.any fun i => g.contains i
def meetsAllB (lot : List Int) (gs : List (List Int)) : Bool := gs.all fun g => meetsB lot g
/-- a tuple or a list of ints -/
def GI : Hp → V → List Int → Prop := fun H v ns => TI H v ns ∨ LI H v ns
theorem GI.ext {H H' : Hp} {v : V} {ns : List Int} (e : Ext H H') (h : GI H v ns) : GI H' v ns := h.imp (TI.ext e) (LI.ext e)
def spMeets (Ps : List Addr) : Sp := fun vs H Q _ => ∃ (lv gv : V) (lot g : List Int), vs = [lv, gv] ∧ TI H lv lot ∧ GI H gv g ∧ Tabs Ps H ∧ ∀ H', Ext H H' → Q (.bl (meetsB lot g)) H'
def spMeetsAll (Ps : List Addr) : Sp := fun vs H Q _ => ∃ (lv : V) (ga : Addr) (gvs : List V) (lot : List Int) (gs : List (List Int)), vs = [lv, .ref ga] ∧ TI H lv lot ∧ H ga = some (.lst gvs) ∧ Paired (GI H) gvs gs ∧ Tabs Ps H ∧ ∀ H', Ext H H' → Q (.bl (meetsAllB lot gs)) H'
theorem ext_all {H H' : Hp} (k : ∀ b o, H b = some o → H' b = some o) : Ext H H' := ⟨fun a o h _ => k a o h, fun P ⟨ps, e, t⟩ => ⟨ps, k _ _ e, t⟩, fun a o h => ⟨o, k a o h⟩, fun P ps _ h => k _ _ h⟩
theorem paired_ix {α β : Type} {F : α → β → Prop} : ∀ {xs : List α} {ys : List β}, xs.length = ys.length → (∀ (j : Nat) (x : α) (y : β), xs[j]? = some x → ys[j]? = some y → F x y) → Paired F xs ys
  | [], [], _, _ => .nil
  | [], _ :: _, h, _ => by cases h
  | _ :: _, [], h, _ => by cases h
  | x :: xs, y :: ys, h, k => .cons (k 0 x y rfl rfl) (paired_ix (Nat.succ.inj h) fun j a b h1 h2 => k (j + 1) a b (by simpa using h1) (by simpa using h2))
section
variable {P : Program} {w : World} {K : PySem.W.Frag} {mg : Str → Option Value} {base : Heap} {Ps : List Addr}
theorem ok_lots_of {f : Addr} {fd : FuncData} (F : Fun K "lots_of" "lots_of" s_lots_of f fd) (B : Blt mg) (hmc : mg "combinations" = some (.type "itertools.combinations")) : FnOk P w K mg base CX0 1 f fd ["many", "size"] spLotsOf := by
  refine F.ok sc_lots_of (fun vs H Q E h => ?_) (fun cdv A outer s0 H vs Q E hr h => ?_)
  · obtain ⟨n, k, rfl, _⟩ := h
    rfl
  · obtain ⟨n, k, rfl, hn, hk, q⟩ := h
    refine ⟨_, (pss_one (ps_ret (Cb.pe_combs rfl (by rfl) B.list (by rfl) hmc (by rfl) B.range (pv 0) (pv 1)))), ?_⟩
    have hfew : (Cb.cmb n 0 k).length ≤ 100000 := Nat.le_trans (cmb_few n k) (Nat.le_trans (Nat.pow_le_pow_right (by decide) hn) (by decide))
    refine ⟨_, rfl, n, rfl, by omega, _, rfl, k, rfl, by omega, hfew, fun H' S as kp hS hl hat => q H' S (ext_all kp) ⟨S, _, rfl, hS, ?_⟩⟩
    refine paired_ix (by rw [List.length_map]; unfold cmbI; rw [List.length_map, hl]) fun j x y h1 h2 => ?_
    rw [List.getElem?_map] at h1
    unfold cmbI at h2
    rw [List.getElem?_map] at h2
    cases e1 : as[j]? with
    | none => rw [e1] at h1; cases h1
    | some a =>
      cases e2 : (Cb.cmb n 0 k)[j]? with
      | none => rw [e2] at h2; cases h2
      | some l =>
        rw [e1] at h1
        rw [e2] at h2
        cases h1
        cases h2
        refine ⟨a, rfl, ?_⟩
        rw [hat j a l e1 e2]
        unfold Cb.tv iv lotI
        rw [List.map_map]
        rfl
end
end Lk


/-! ## E02 -/
set_option Elab.async false
set_option linter.all false
set_option maxRecDepth 100000
set_option maxHeartbeats 2000000
namespace Lk
open PySem PySem.Spec PyProof.Rows L2 Gx NdefX
open GxR (TabG Tabbed TabB)
variable [Own]
abbrev s_least_lots : Stmt := top 33
theorem sc_least_lots : FnScope ["many", "fits", "size", "lot", "found"] ["many", "fits"] (defScope s_least_lots) := ⟨rfl, rfl, rfl, by decide +kernel, rfl, by decide +kernel, by decide +kernel⟩
theorem tru_lstE {K : PySem.W.Frag} {H : Hp} {a : Addr} {xs : List V} (h : H a = some (.lst xs)) : TruV K (.ref a) H (!xs.isEmpty) := .inl ⟨xs, SqL.of h, rfl⟩
/-- the lots that fit, as few as can be -/
def leastL (n : Nat) (fit : List Int → Bool) : List (List Int) :=
  match (List.range (n + 1)).find? fun k => !((cmbI n k).filter fit).isEmpty with
  | some k => (cmbI n k).filter fit
  | none => []
theorem least_some {n k : Nat} {fit : List Int → Bool} (hk : k ≤ n) (h : (cmbI n k).filter fit ≠ []) (hb : ∀ j, j < k → (cmbI n j).filter fit = []) : leastL n fit = (cmbI n k).filter fit := by
  have e : (List.range (n + 1)).find? (fun k => !((cmbI n k).filter fit).isEmpty) = some k := by
    rw [List.find?_range_eq_some]
    refine ⟨?_, List.mem_range.mpr (by omega), fun j hj => ?_⟩
    · cases q : (cmbI n k).filter fit with
      | nil => exact absurd q h
      | cons a l => rfl
    · rw [hb j hj]
      rfl
  unfold leastL
  rw [e]
theorem least_none {n : Nat} {fit : List Int → Bool} (hb : ∀ j, j ≤ n → (cmbI n j).filter fit = []) : leastL n fit = [] := by
  have e : (List.range (n + 1)).find? (fun k => !((cmbI n k).filter fit).isEmpty) = none := by
    rw [List.find?_eq_none]
    intro j hj
    rw [hb j (by have := List.mem_range.mp hj; omega)]
    decide
  unfold leastL
  rw [e]
def spLeast (spF : List (Option V) → List V → Hp → VK → Prop) : List (Option V) → List V → Hp → VK → Prop := fun ws vs H Q => ∃ (n : Nat) (f : Addr) (fit : List Int → Bool), vs = [.int (n : Int), .ref f] ∧ n ≤ 14 ∧
  (∀ (H' : Hp) (lv : V) (lot : List Int) (Q' : VK), Ext H H' → TI H' lv lot → lot ∈ (allLots n).map lotI → (∀ H'', Ext H' H'' → Q' (.bl (fit lot)) H'') → spF ws [lv] H' Q') ∧ ∀ H' q, Ext H H' → TT2 H' (.ref q) (leastL n fit) → Q (.ref q) H'
theorem cmbI_all {n k : Nat} {l : List Int} (h : l ∈ cmbI n k) : l ∈ (allLots n).map lotI := by
  obtain ⟨q, hq, rfl⟩ := List.mem_map.mp h
  obtain ⟨_, h2, h3⟩ := mem_cmb.mp hq
  exact List.mem_map.mpr ⟨q, mem_lots.mpr ⟨h2, fun i hi => by have := h3 i hi; omega⟩, rfl⟩
theorem cmbI_few {n : Nat} (hn : n ≤ 14) (k : Nat) : (cmbI n k).length ≤ 16384 := by
  unfold cmbI
  rw [List.length_map]
  exact Nat.le_trans (cmb_few n k) (Nat.le_trans (Nat.pow_le_pow_right (by decide) hn) (by decide))
section
variable {P : Program} {w : World} {K : PySem.W.Frag} {mg : Str → Option Value} {base : Heap} {Ps : List Addr} {mk : Addr → NF} {le : Expr} {fr : List Str} {spF : List (Option V) → List V → Hp → VK → Prop} {kL : Nat}
theorem ok_least_lots {f : Addr} {fd : FuncData} (F : Fun K "least_lots" "least_lots" s_least_lots f fd) (B : Blt mg) (hk : 1 ≤ kL) (L : LOk P w K mg base kL mk le ["lot"] fr spF) (c_lots_of : Cal P w K mg base CX0 1 "lots_of" ["many", "size"] spLotsOf) :
    GOk P w K mg base (kL + 1) f fd ["many", "fits"] mk le fr (spLeast spF) := by
  refine gok_of F sc_least_lots (fun ws vs H Q h => ?_) (fun cdv A outer s H vs ws fl cl Q hr hgl hfl hcl C h => ?_)
  · obtain ⟨n, f, fit, rfl, _⟩ := h
    rfl
  · obtain ⟨n, ff, fit, rfl, hn, hfit, k⟩ := h
    have hff : ff = fl := by simpa using hgl
    subst hff
    refine ⟨_, (pss_cons (ps_for PassesOwn.never rfl (pi_range1 (by rfl) B.range (pa_cons (pe_op op_add (pv 0) pe_int) pa_nil)) (pg_name (i := 2) sc_least_lots.nd rfl (by first | exact Or.inl rfl | exact Or.inr rfl))
        (pss_cons (ps_setLcE (j := 4) (E := C8.E0) L2.takes0 rfl rfl (fun _ _ _ _ h => h.elim) (own := [("lot", 3)]) rfl sc_least_lots.nd rfl rfl (sw_true rfl rfl rfl (by decide +kernel)) (pi_list (pe_c0 c_lots_of (hr.mono hk) (by rfl) (pa_cons (pv 0) (pa_cons (pv 2) pa_nil)))) (blkOk_by (N := ["many", "fits", "size", "lot", "found"]) (sc := defScope s_least_lots) (by decide +kernel)) (fun _ _ _ _ _ _ bx px => (pg_name (i := 3) sc_least_lots.nd rfl (by first | exact Or.inl rfl | exact Or.inr rfl))) (fun _ _ _ _ _ _ bx px => (pts_one (pt_val (pe_actC (i := 1) (f := ff) L (fun pins σ H s I => cells_blk C rfl bx I) hr rfl (by first | exact Or.inl rfl | exact Or.inr (Or.inl rfl) | exact Or.inr (Or.inr rfl)) (pa_cons (pv 3) pa_nil))))) (fun _ _ _ _ _ _ bx px => (pv 3)))
        (pss_one (ps_if (pt_truth (pv 4) (fun _ => rfl))
          (pss_one (ps_ret (pe_tupleL (by rfl) B.tuple (pv 4)))) pss_nil))))
      (pss_one (ps_ret (pe_tup pa_nil)))), ?_⟩
    have en : ((n : Int) + 1).toNat = n + 1 := by omega
    refine ⟨_, rfl, _, _, rfl, rfl, _, rfl, by omega, by omega, ?_⟩
    rw [en]
    refine for_range (lo := 0) (n := n + 1) (fun i σ H' => ∃ (o2 o3 o4 : Option V), σ = [some (.int (n : Int)), some (.ref ff), o2, o3, o4] ∧ Ext H H' ∧ ∀ j, j < i → (cmbI n j).filter fit = []) ⟨_, _, _, rfl, Ext.refl _, fun j h => absurd h (Nat.not_lt_zero _)⟩ ?_ ?_
    · rintro i σ H1 hi ⟨o2, o3, o4, rfl, E1, hb⟩
      refine ⟨_, rfl, _, rfl, n, i, congrArg (fun z => [V.int (n : Int), V.int z]) (Int.zero_add _), hn, by omega, fun H2 q e2 hq => ?_⟩
      obtain ⟨q', us, eq, hq, hus⟩ := hq
      cases eq
      have E2 := E1.trans e2
      have lus := paired_len hus
      have few := cmbI_few hn i
      refine ⟨q, rfl, ⟨_, SqL.of hq⟩, fun D hD => ?_⟩
      refine lc_fmL (R := TI) (S := TI) stTI stTI (fun l => if fit l = true then some l else none) hD hq hus (Nat.le_trans (show us.length ≤ 16384 by omega) (by decide)) (fun x l H4 Ky Kn e4 hmem hx k1 k2 => ?_) fun H5 acc e5 hacc hp => ?_
      · have E4 := E2.trans e4
        refine ⟨rfl, rfl, E4.keep _ _ hfl rfl, _, rfl, E4.keep _ _ hfl rfl, E4.keep _ _ hcl rfl, hfit H4 x l _ E4 hx (cmbI_all hmem) fun H6 e6 => ⟨_, rfl, ?_⟩⟩
        refine ite_of (fun hc => ?_) fun hc => ?_
        · exact ⟨_, rfl, k1 _ _ _ (if_pos hc) e6 (hx.ext e6)⟩
        · exact k2 _ (if_neg (by rw [hc]; decide)) e6
      rw [fmIf] at hp
      have E5 := E2.trans e5
      refine ⟨_, rfl, _, tru_lstE hacc, ?_⟩
      have la := paired_len hp
      by_cases hemp : (cmbI n i).filter fit = []
      · rw [hemp] at la
        have ea : acc = [] := List.eq_nil_of_length_eq_zero la
        subst ea
        refine ⟨_, _, _, rfl, E5, fun j hj => ?_⟩
        by_cases h : j < i
        · exact hb j h
        · rw [show j = i by omega]
          exact hemp
      · have ea : acc ≠ [] := fun z => hemp (List.eq_nil_of_length_eq_zero (by rw [← la, z]; rfl))
        have eb : (!acc.isEmpty) = true := by
          cases acc with
          | nil => exact absurd rfl ea
          | cons a l => rfl
        rw [eb]
        refine iteT ⟨_, rfl, D, acc, rfl, hacc, fun u hu => k _ u (E5.trans (Ext.new hu _)) ⟨u, acc, rfl, upd_same, ?_⟩⟩
        rw [least_some (by omega) hemp hb]
        exact pTI.ext (Ext.new hu _) hp
    · rintro σ H1 ⟨o2, o3, o4, rfl, E1, hb⟩
      refine ⟨(by show 0 ≤ sizeLine; decide), fun u hu => k _ u (E1.trans (Ext.new hu _)) ⟨u, [], rfl, upd_same, ?_⟩⟩
      rw [least_none fun j hj => hb j (by omega)]
      exact .nil
end
end Lk


/-! ## W35 -/
set_option Elab.async false
set_option linter.all false
set_option maxRecDepth 100000
set_option maxHeartbeats 4000000
namespace Lk
open PySem PySem.Spec PyProof.Rows L2 Gx
open GxR (TabG Tabbed TabB)
variable [Own]
abbrev s_has_odd_part : Stmt := top 35
theorem sc_has_odd_part : FnScope ["lot", "group", "number"] ["lot", "group"] (defScope s_has_odd_part) := ⟨rfl, rfl, rfl, by decide +kernel, rfl, by decide +kernel, by decide +kernel⟩
abbrev s_exchanges_all : Stmt := top 36
theorem sc_exchanges_all : FnScope ["lot", "changing", "staying", "ring"] ["lot", "changing", "staying"] (defScope s_exchanges_all) := ⟨rfl, rfl, rfl, by decide +kernel, rfl, by decide +kernel, by decide +kernel⟩
abbrev s_many_through : Stmt := top 37
theorem sc_many_through : FnScope ["number", "found", "ring"] ["number", "found"] (defScope s_many_through) := ⟨rfl, rfl, rfl, by decide +kernel, rfl, by decide +kernel, by decide +kernel⟩
abbrev s_rings_through : Stmt := top 40
theorem sc_rings_through : FnScope ["web", "_", "looks", "even", "odd", "number"] ["web"] (defScope s_rings_through) := ⟨rfl, rfl, rfl, by decide +kernel, rfl, by decide +kernel, by decide +kernel⟩
abbrev s__law_spites : Stmt := top 47
theorem sc__law_spites : FnScope ["web", "ring", "k"] ["web", "ring"] (defScope s__law_spites) := ⟨rfl, rfl, rfl, by decide +kernel, rfl, by decide +kernel, by decide +kernel⟩
abbrev s__law_smallest : Stmt := top 49
theorem sc__law_smallest : FnScope ["some", "lot"] ["some"] (defScope s__law_smallest) := ⟨rfl, rfl, rfl, by decide +kernel, rfl, by decide +kernel, by decide +kernel⟩
/-- an odd part of the ring is in the lot -/
def oddB (lot g : List Int) : Bool := (lot.filter fun n => g.contains n).length % 2 == 1
def spHasOdd : Sp := fun vs H Q _ => ∃ (lv gv : V) (lot g : List Int), vs = [lv, gv] ∧ TI H lv lot ∧ TI H gv g ∧ lot.length ≤ 100 ∧ ∀ H', Ext H H' → Q (.bl (oddB lot g)) H'
def exAllB (lot : List Int) (cs ss : List (List Int)) : Bool := cs.all (oddB lot) && !ss.any (oddB lot)
def spExAll (Ps : List Addr) : Sp := fun vs H Q _ => ∃ (lv : V) (ca sa : Addr) (cvs svs : List V) (lot : List Int) (cs ss : List (List Int)), vs = [lv, .ref ca, .ref sa] ∧ TI H lv lot ∧ lot.length ≤ 100 ∧ H ca = some (.lst cvs) ∧ Paired (TI H) cvs cs ∧ H sa = some (.lst svs) ∧ Paired (TI H) svs ss ∧ Tabs Ps H ∧ ∀ H', Ext H H' → Q (.bl (exAllB lot cs ss)) H'
def throughN (n : Int) (rs : List (List Int)) : Nat := (rs.filter fun r => r.contains n).length
def spThrough : Sp := fun vs H Q _ => ∃ (n : Int) (a : Addr) (us : List V) (rs : List (List Int)), vs = [.int n, .ref a] ∧ H a = some (.lst us) ∧ Paired (TI H) us rs ∧ us.length ≤ 9000000 ∧ ∀ H', Ext H H' → Q (.int (throughN n rs : Nat)) H'
/-- by look how many even rings, how many odd ones -/
def throughs (W : Web) : List (List Int) := (nums 0 W.looks.length).map fun n => [(throughN n (kindOf W true) : Int), (throughN n (kindOf W false) : Int)]
def spRingsThrough (Ps : List Addr) : Sp := fun vs H Q _ => ∃ (v : V) (W : Web), vs = [v] ∧ WebAt H v W ∧ W.Ok ∧ Tabs Ps H ∧ ∀ H' q, Ext H H' → TT2 H' (.ref q) (throughs W) → Q (.ref q) H'
def spitesN (ls : List Look3) (p : List Int) : Nat := (p.filter fun n => lks ls n == -1).length
def spSpites : Sp := fun vs H Q _ => ∃ (v r : V) (W : Web) (ring : List Int), vs = [v, r] ∧ WebAt H v W ∧ TI H r ring ∧ ring.length ≤ 100 ∧ (∀ n ∈ ring, 0 ≤ n ∧ n < W.looks.length) ∧ ∀ H', Ext H H' → Q (.int (spitesN W.looks ring : Nat)) H'
def spSmallest : Sp := fun vs H Q _ => ∃ (a : Addr) (us : List V) (rs : List (List Int)), vs = [.ref a] ∧ H a = some (.lst us) ∧ Paired (TI H) us rs ∧ us.length ≤ 1000000 ∧ ∀ H' q, Ext H H' → TT2 H' (.ref q) (rs.filter fun r => r.length == (rs.headD []).length) → Q (.ref q) H'
section
variable {P : Program} {w : World} {K : PySem.W.Frag} {mg : Str → Option Value} {base : Heap} {Ps : List Addr}
theorem ok_has_odd_part {f : Addr} {fd : FuncData} (F : Fun K "has_odd_part" "has_odd_part" s_has_odd_part f fd) (B : Blt mg) : FnOk P w K mg base CX0 1 f fd ["lot", "group"] spHasOdd := by
  refine F.ok sc_has_odd_part (fun vs H Q E h => ?_) (fun cdv A outer s0 H vs Q E hr h => ?_)
  · obtain ⟨lv, gv, lot, g, rfl, _⟩ := h
    rfl
  · obtain ⟨lv, gv, lot, g, rfl, ⟨a, rfl, ha⟩, ⟨b, rfl, hb⟩, hl, k⟩ := h
    refine ⟨_, (pss_one (ps_ret (pe_cmpR op_eq (pe_op op_mod (pe_callB call_lenT (by rfl) B.len PySem.boot_len (pa_cons (pe_lc (own := [("number", 2)]) rfl sc_has_odd_part.nd (pi_tup (pv 0)) (blkOk_by (N := ["lot", "group", "number"]) (sc := defScope s_has_odd_part) (by decide +kernel)) (fun _ _ _ _ _ => (pg_name (i := 2) sc_has_odd_part.nd rfl (by first | exact Or.inl rfl | exact Or.inr rfl))) (fun _ _ _ _ _ => (pts_one (pt_cmpR op_inI (pv 2) (pv 1) (by with_unfolding_all rfl)))) (fun _ _ _ _ _ => (pv 2))) pa_nil)) pe_int) pe_int (nomark _)))), ?_⟩
    refine ⟨_, rfl, a, rfl, ⟨_, SqT.of ha⟩, fun D hD => ?_⟩
    refine lc_fmT (R := VI) (S := VI) stVI stVI (xs := iv lot) (bs := lot) (fun m => if g.contains m = true then some m else none) hD ha (iv_pVI lot) (by rw [iv_len]; exact Nat.le_of_lt (small1000 (by omega))) (fun y m H6 Ky2 Kn2 e6 hm hy j1 j2 => ?_) fun H6 acc2 e6 hacc2 hp2 => ?_
    · rw [show y = V.int m from hy]
      refine ⟨rfl, ?_⟩
      refine ⟨_, rfl, _, rfl, m, g, rfl, .inl ⟨b, rfl, e6.tup hb⟩, _, rfl, ?_⟩
      refine ite_of (fun hc => ?_) fun hc => ?_
      · exact ⟨_, rfl, j1 _ _ _ (if_pos hc) (Ext.refl _) rfl⟩
      · exact j2 _ (if_neg (by rw [hc]; simp)) (Ext.refl _)
    · have eacc := pVI hp2
      subst eacc
      rw [fmIf] at hacc2
      refine ⟨D, _, rfl, .inl hacc2, ?_⟩
      refine ⟨_, _, rfl, rfl, (show (0 : Int) < 2 by decide), rfl, ?_⟩
      rw [dec_int, iv_len]
      have e5 : ((((lot.filter fun m => g.contains m).length : Nat) : Int) % 2 == 1) = oddB lot g := by
        unfold oddB
        rw [Bool.eq_iff_iff, beq_iff_eq, beq_iff_eq]
        omega
      rw [e5]
      exact k H6 e6
theorem ok_exchanges_all {f T : Addr} {fd : FuncData} (F : FunT K mg base Ps "exchanges_all" s_exchanges_all f fd T) (B : Blt mg) (bany : mg "any" = none) (c_has_odd_part : Cal P w K mg base CX0 1 "has_odd_part" ["lot", "group"] spHasOdd) : FnOk P w K mg base CX0 3 f fd ["lot", "changing", "staying"] (spExAll Ps) := by
  refine F.ok sc_exchanges_all (fun vs H Q E h => ?_) (fun c A outer s0 H vs Q E TB hr h => ?_)
  · obtain ⟨lv, ca, sa, cvs, svs, lot, cs, ss, rfl, _⟩ := h
    rfl
  · obtain ⟨lv, ca, sa, cvs, svs, lot, cs, ss, rfl, hl, hll, hca, hcs, hsa, hss, hTb, k⟩ := h
    refine ⟨_, (pss_cons (ps_if (pt_not (pt_val (pe_allG (own := [("ring", 3)]) (k := 1) (hr.mono (by decide)) rfl sc_exchanges_all.nd (by rfl) B.all TB rfl (pi_list (pv 1)) ⟨(blkOk_by (N := ["lot", "changing", "staying", "ring"]) (sc := defScope s_exchanges_all) (by decide +kernel)), noCells_ok (by decide +kernel), rfl, rfl⟩ (fun _ _ _ _ _ _ => (pg_name (i := 3) sc_exchanges_all.nd rfl (by first | exact Or.inl rfl | exact Or.inr rfl))) (fun _ _ _ _ _ _ hr' => pts_nil) (fun _ _ _ _ _ _ hr' => (pe_c0 c_has_odd_part (hr'.mono (by decide)) (by rfl) (pa_cons (pv 0) (pa_cons (pv 3) pa_nil)))))))
        (pss_one (ps_ret pe_bl)) pss_nil)
      (pss_one (ps_ret (pe_not (pe_anyG (own := [("ring", 3)]) (k := 1) (hr.mono (by decide)) rfl sc_exchanges_all.nd (by rfl) bany TB rfl (pi_list (pv 2)) ⟨(blkOk_by (N := ["lot", "changing", "staying", "ring"]) (sc := defScope s_exchanges_all) (by decide +kernel)), noCells_ok (by decide +kernel), rfl, rfl⟩ (fun _ _ _ _ _ _ => (pg_name (i := 3) sc_exchanges_all.nd rfl (by first | exact Or.inl rfl | exact Or.inr rfl))) (fun _ _ _ _ _ _ hr' => pts_nil) (fun _ _ _ _ _ _ hr' => (pe_c0 c_has_odd_part (hr'.mono (by decide)) (by rfl) (pa_cons (pv 0) (pa_cons (pv 3) pa_nil))))))))), ?_⟩
    have hgT : TabG H T := hTb T F.mem
    refine ⟨_, rfl, ca, rfl, ⟨_, SqL.of hca⟩, hgT, fun H2 hT2 => ?_⟩
    have E2 : Ext H H2 := Ext.tabbed F.nown hgT hT2
    have fin : exAllB lot cs ss = false → ∀ H', Ext H H' → Q (.bl false) H' := fun h H' e => by
      have := k H' e
      rw [h] at this
      exact this
    refine quant_test (walk_list (K := K) (xs := cvs)) (fun i H' => Ext H2 H' ∧ (cs.take i).all (oddB lot) = true) ⟨Ext.refl _, rfl⟩ (fun i H' _ e => SqL.of ((E2.trans e.1).lst hca)) (fun i x H4 H5 hi ⟨E4, h4⟩ y => ?_) fun H4 ⟨E4, h4⟩ => ?_
    · obtain ⟨rfl, hx⟩ := y
      have E24 := E2.trans E4
      obtain ⟨g, hg, hgx⟩ := paired_get' hcs hx
      refine ⟨rfl, yes ⟨_, rfl, _, rfl, _, _, lot, g, rfl, hl.ext E24, hgx.ext E24, hll, fun H6 e6 => ⟨_, rfl, ?_⟩⟩⟩
      by_cases hc : oddB lot g = true
      · rw [hc]
        refine iteTF ⟨E4.trans e6, ?_⟩
        rw [take_snoc hg, List.all_append, h4]
        simpa using hc
      · have hc : oddB lot g = false := by simpa using hc
        rw [hc, if_pos rfl]
        refine ⟨_, rfl, ?_⟩
        refine fin ?_ _ (E24.trans e6)
        unfold exAllB
        rw [List.all_eq_false.mpr ⟨g, List.mem_of_getElem? hg, by rw [hc]; decide⟩]
        rfl
    · have E24 := E2.trans E4
      rw [paired_len hcs, List.take_length] at h4
      refine iteF ?_
      have hg4 := E24.tab T hgT
      refine ⟨_, rfl, sa, rfl, ⟨_, SqL.of (E24.lst hsa)⟩, hg4, fun H7 hT7 => ?_⟩
      have E7 : Ext H4 H7 := Ext.tabbed F.nown hg4 hT7
      have E27 := E24.trans E7
      refine quant_test (R := fun d H' => Q (.bl (!d)) H') (walk_list (K := K) (xs := svs)) (fun i H' => Ext H7 H' ∧ (ss.take i).any (oddB lot) = false) ⟨Ext.refl _, rfl⟩ (fun i H' _ e => SqL.of ((E27.trans e.1).lst hsa)) (fun i x H8 H9 hi ⟨E8, h8⟩ y => ?_) fun H8 ⟨E8, h8⟩ => ?_
      · obtain ⟨rfl, hx⟩ := y
        have E28 := E27.trans E8
        obtain ⟨g, hg, hgx⟩ := paired_get' hss hx
        refine ⟨rfl, yes ⟨_, rfl, _, rfl, _, _, lot, g, rfl, hl.ext E28, hgx.ext E28, hll, fun H6 e6 => ⟨_, rfl, ?_⟩⟩⟩
        by_cases hc : oddB lot g = true
        · rw [hc, if_pos rfl]
          refine ⟨_, rfl, ?_⟩
          refine fin ?_ _ (E28.trans e6)
          unfold exAllB
          rw [List.any_eq_true.mpr ⟨g, List.mem_of_getElem? hg, hc⟩, Bool.not_true, Bool.and_false]
        · have hc : oddB lot g = false := by simpa using hc
          rw [hc, if_neg (by decide)]
          refine ⟨E8.trans e6, ?_⟩
          rw [take_snoc hg, List.any_append, h8]
          simpa using hc
      · rw [paired_len hss, List.take_length] at h8
        have := k _ (E27.trans E8)
        unfold exAllB at this
        rw [h4, h8] at this
        exact this
theorem ok_many_through {f : Addr} {fd : FuncData} (F : Fun K "many_through" "many_through" s_many_through f fd) (B : Blt mg) : FnOk P w K mg base CX0 1 f fd ["number", "found"] spThrough := by
  refine F.ok sc_many_through (fun vs H Q E h => ?_) (fun cdv A outer s0 H vs Q E hr h => ?_)
  · obtain ⟨n, a, us, rs, rfl, _⟩ := h
    rfl
  · obtain ⟨n, a, us, rs, rfl, ha, hus, hl, k⟩ := h
    refine ⟨_, (pss_one (ps_ret (pe_callB call_lenT (by rfl) B.len PySem.boot_len (pa_cons (pe_lc (own := [("ring", 2)]) rfl sc_many_through.nd (pi_list (pv 1)) (blkOk_by (N := ["number", "found", "ring"]) (sc := defScope s_many_through) (by decide +kernel)) (fun _ _ _ _ _ => (pg_name (i := 2) sc_many_through.nd rfl (by first | exact Or.inl rfl | exact Or.inr rfl))) (fun _ _ _ _ _ => (pts_one (pt_cmpR op_inI (pv 0) (pv 2) (by with_unfolding_all rfl)))) (fun _ _ _ _ _ => (pv 2))) pa_nil)))), ?_⟩
    refine ⟨_, rfl, a, rfl, ⟨_, SqL.of ha⟩, fun D hD => ?_⟩
    refine lc_fmL (R := TI) (S := TI) stTI stTI (fun r => if r.contains n = true then some r else none) hD ha hus (Nat.le_trans hl (by decide)) (fun x r H5 Ky Kn e5 hmem hx k1 k2 => ?_) fun H5 acc e5 hacc hp => ?_
    · obtain ⟨z, rfl, hz⟩ := hx
      refine ⟨rfl, ?_⟩
      refine ⟨_, rfl, _, rfl, n, r, rfl, .inl ⟨z, rfl, hz⟩, _, rfl, ?_⟩
      refine ite_of (fun hc => ?_) fun hc => ?_
      · exact ⟨_, rfl, k1 _ _ _ (if_pos hc) (Ext.refl _) ⟨z, rfl, hz⟩⟩
      · exact k2 _ (if_neg (by rw [hc]; simp)) (Ext.refl _)
    · rw [fmIf] at hp
      refine ⟨D, acc, rfl, .inl hacc, ?_⟩
      have := k H5 e5
      rw [paired_len hp]
      exact this
theorem ok_law_spites {f : Addr} {fd : FuncData} (F : Fun K "_law_spites" "_law_spites" s__law_spites f fd) (B : Blt mg) : FnOk P w K mg base CX0 1 f fd ["web", "ring"] spSpites := by
  refine F.ok sc__law_spites (fun vs H Q E h => ?_) (fun cdv A outer s0 H vs Q E hr h => ?_)
  · obtain ⟨v, r, W, ring, rfl, _⟩ := h
    rfl
  · obtain ⟨v, r, W, ring, rfl, ⟨a, t, l, rfl, ha, ht, ⟨b, ls, rfl, hb, hls⟩⟩, ⟨c, rfl, hc⟩, hlen, hin, k⟩ := h
    refine ⟨_, (pss_one (ps_ret (pe_callB call_lenT (by rfl) B.len PySem.boot_len (pa_cons (pe_lc (own := [("k", 2)]) rfl sc__law_spites.nd (pi_tup (pv 1)) (blkOk_by (N := ["web", "ring", "k"]) (sc := defScope s__law_spites) (by decide +kernel)) (fun _ _ _ _ _ => (pg_name (i := 2) sc__law_spites.nd rfl (by first | exact Or.inl rfl | exact Or.inr rfl))) (fun _ _ _ _ _ => (pts_one (pt_cmpR op_eq (pe_ix ix_tT (pe_ix ix_tT (pe_ix ix_tT (pv 0) pe_int (fun _ _ => rfl)) (pv 2) (fun _ _ => rfl)) pe_int (fun _ _ => rfl)) (pe_un un_neg pe_int) (nomark _)))) (fun _ _ _ _ _ => (pv 2))) pa_nil)))), ?_⟩
    refine ⟨_, rfl, c, rfl, ⟨_, SqT.of hc⟩, fun D hD => ?_⟩
    refine lc_fmT (R := VI) (S := VI) stVI stVI (xs := iv ring) (bs := ring) (fun m => if lks W.looks m == -1 then some m else none) hD hc (iv_pVI ring) (by rw [iv_len]; exact Nat.le_of_lt (small1000 (by omega))) (fun x m H' Ky Kn e hm hx k1 k2 => ?_) fun H' acc e hacc hp => ?_
    · obtain ⟨q2, e2, h2⟩ := lookAt hls (hin m hm)
      rw [show x = V.int m from hx]
      refine ⟨rfl, ?_⟩
      refine ⟨_, rfl, a, _, _, _, rfl, rfl, e.tup ha, at_of (j := 1) rfl rfl, _, rfl, b, _, _, _, rfl, rfl, e.tup hb, e2, q2, _, _, _, rfl, rfl, e.tup h2, at_of (j := 2) rfl rfl, _, rfl, rfl, ?_⟩
      refine ⟨_, rfl, ?_⟩
      rw [dec_int]
      show if (lks W.looks m == -1) = true then _ else _
      refine ite_of (fun hc => ?_) fun hc => ?_
      · exact ⟨_, rfl, k1 _ _ _ (if_pos hc) (Ext.refl _) rfl⟩
      · exact k2 _ (if_neg (by rw [hc]; simp)) (Ext.refl _)
    · have eacc := pVI hp
      subst eacc
      have ef : (ring.filterMap fun m => if (lks W.looks m == -1) = true then some m else none) = ring.filter fun m => lks W.looks m == -1 := fmIf _ _
      rw [ef] at hacc
      refine ⟨D, _, rfl, .inl hacc, ?_⟩
      have := k H' e
      rw [iv_len]
      exact this
theorem ok_law_smallest {f : Addr} {fd : FuncData} (F : Fun K "_law_smallest" "_law_smallest" s__law_smallest f fd) (B : Blt mg) : FnOk P w K mg base CX0 1 f fd ["some"] spSmallest := by
  refine F.ok sc__law_smallest (fun vs H Q E h => ?_) (fun cdv A outer s0 H vs Q E hr h => ?_)
  · obtain ⟨a, us, rs, rfl, _⟩ := h
    rfl
  · obtain ⟨a, us, rs, rfl, ha, hus, hl, k⟩ := h
    refine ⟨_, (pss_one (ps_ret (pe_tupleL (by rfl) B.tuple (pe_lc (own := [("lot", 1)]) rfl sc__law_smallest.nd (pi_list (pv 0)) (blkOk_by (N := ["some", "lot"]) (sc := defScope s__law_smallest) (by decide +kernel)) (fun _ _ _ _ _ => (pg_name (i := 1) sc__law_smallest.nd rfl (by first | exact Or.inl rfl | exact Or.inr rfl))) (fun _ _ _ _ _ => (pts_one (pt_cmpR op_eq (pe_callB call_lenT (by rfl) B.len PySem.boot_len (pa_cons (pv 1) pa_nil)) (pe_callB call_lenT (by rfl) B.len PySem.boot_len (pa_cons (pe_ix ix_lT (pv 0) pe_int (fun _ _ => rfl)) pa_nil)) (nomark _)))) (fun _ _ _ _ _ => (pv 1)))))), ?_⟩
    refine ⟨_, rfl, a, rfl, ⟨_, SqL.of ha⟩, fun D hD => ?_⟩
    refine lc_fmL (R := TI) (S := TI) stTI stTI (fun r => if (r.length == (rs.headD []).length) = true then some r else none) hD ha hus (Nat.le_trans hl (by decide)) (fun x r H5 Ky Kn e5 hmem hx k1 k2 => ?_) fun H5 acc e5 hacc hp => ?_
    · obtain ⟨z, rfl, hz⟩ := hx
      obtain ⟨y, hy, z0, rfl, hz0⟩ : ∃ y, us[0]? = some y ∧ TI H5 y (rs.headD []) := by
        cases rs with
        | nil => cases hmem
        | cons r0 rs =>
          obtain ⟨y, h1, h2⟩ := paired_get hus (show (r0 :: rs)[0]? = some r0 from rfl)
          exact ⟨y, h1, h2.ext e5⟩
      refine ⟨rfl, ?_⟩
      refine ⟨_, rfl, z, _, rfl, .inr hz, _, rfl, a, _, _, _, rfl, rfl, e5.lst ha, at_of (j := 0) rfl hy, z0, _, rfl, .inr hz0, rfl, _, rfl, ?_⟩
      have eb : decide (V.int ((iv r).length : Int) = V.int ((iv (rs.headD [])).length : Int)) = (r.length == (rs.headD []).length) := by
        rw [iv_len, iv_len, dec_int, Bool.eq_iff_iff, beq_iff_eq, beq_iff_eq]
        omega
      rw [eb]
      refine ite_of (fun hc => ?_) fun hc => ?_
      · exact ⟨_, rfl, k1 _ _ _ (if_pos hc) (Ext.refl _) ⟨z, rfl, hz⟩⟩
      · exact k2 _ (if_neg (by rw [hc]; simp)) (Ext.refl _)
    · rw [fmIf] at hp
      refine ⟨D, acc, rfl, hacc, fun u hu => ?_⟩
      have eu := Ext.new hu (.tup acc)
      exact k _ u (e5.trans eu) ⟨u, acc, rfl, upd_same, pTI.ext eu hp⟩
theorem ok_rings_through {f : Addr} {fd : FuncData} (F : Fun K "rings_through" "rings_through" s_rings_through f fd) (B : Blt mg) (c_check_web : Cal P w K mg base CX0 6 "check_web" ["web"] (spCheckWeb Ps))
    (c_even_rings : Cal P w K mg base CX0 3 "even_rings" ["web"] (spKind true)) (c_odd_rings : Cal P w K mg base CX0 3 "odd_rings" ["web"] (spKind false)) (c_many_through : Cal P w K mg base CX0 1 "many_through" ["number", "found"] spThrough) : FnOk P w K mg base CX0 7 f fd ["web"] (spRingsThrough Ps) := by
  refine F.ok sc_rings_through (fun vs H Q E h => ?_) (fun cdv A outer s0 H vs Q E hr h => ?_)
  · obtain ⟨v, W, rfl, _⟩ := h
    rfl
  · obtain ⟨v, W, rfl, hW, ok, hTb, k⟩ := h
    refine ⟨_, (pss_cons (ps_expr (pe_c0 c_check_web (hr.mono (by decide)) (by rfl) (pa_cons (pv 0) pa_nil)))
      (pss_cons (ps_asg (pv 0) (pg_tupT (n := 2) rfl (pgs_cons (pg_name (i := 1) sc_rings_through.nd rfl (by first | exact Or.inl rfl | exact Or.inr rfl)) (pgs_cons (pg_name (i := 2) sc_rings_through.nd rfl (by first | exact Or.inl rfl | exact Or.inr rfl)) pgs_nil))))
      (pss_cons (ps_asg (pe_tup (pa_cons (pe_c0 c_even_rings (hr.mono (by decide)) (by rfl) (pa_cons (pv 0) pa_nil)) (pa_cons (pe_c0 c_odd_rings (hr.mono (by decide)) (by rfl) (pa_cons (pv 0) pa_nil)) pa_nil))) (pg_tupT (n := 2) rfl (pgs_cons (pg_name (i := 3) sc_rings_through.nd rfl (by first | exact Or.inl rfl | exact Or.inr rfl)) (pgs_cons (pg_name (i := 4) sc_rings_through.nd rfl (by first | exact Or.inl rfl | exact Or.inr rfl)) pgs_nil))))
      (pss_one (ps_ret (pe_tupleL (by rfl) B.tuple (pe_lc (own := [("number", 5)]) rfl sc_rings_through.nd (pi_range1 (by rfl) B.range (pa_cons (pe_callB call_lenT (by rfl) B.len PySem.boot_len (pa_cons (pv 2) pa_nil)) pa_nil)) (blkOk_by (N := ["web", "_", "looks", "even", "odd", "number"]) (sc := defScope s_rings_through) (by decide +kernel)) (fun _ _ _ _ _ => (pg_name (i := 5) sc_rings_through.nd rfl (by first | exact Or.inl rfl | exact Or.inr rfl))) (fun _ _ _ _ _ => pts_nil) (fun _ _ _ _ _ => (pe_tup (pa_cons (pe_c0 c_many_through (hr.mono (by decide)) (by rfl) (pa_cons (pv 5) (pa_cons (pv 3) pa_nil))) (pa_cons (pe_c0 c_many_through (hr.mono (by decide)) (by rfl) (pa_cons (pv 5) (pa_cons (pv 4) pa_nil))) pa_nil))))))))))), ?_⟩
    refine ⟨_, rfl, _, W, rfl, hW, ok, hTb, fun H1 e1 => ?_⟩
    have hW1 := hW.ext e1
    obtain ⟨a, t, l, rfl, ha, ht, ⟨b, ls, rfl, hb, hls⟩⟩ := id hW1
    have llen : ls.length = W.looks.length := by rw [paired_len hls, List.length_map]
    have l14 := ok.most
    refine ⟨_, rfl, a, _, rfl, ha, rfl, _, _, rfl, _, _, rfl, rfl, ?_⟩
    refine ⟨_, rfl, _, W, rfl, hW1, ok.fewL, fun H2 ep es e2 _ hep hes => ?_⟩
    refine ⟨_, rfl, _, W, rfl, hW1.ext e2, ok.fewL, fun H3 op os e3 _ hop hos => ?_⟩
    have ev3 := e3.lst hep
    have evs3 := pTI.ext e3 hes
    refine ⟨(by show 2 ≤ sizeLine; decide), fun u hu => ⟨u, _, rfl, upd_same, rfl, _, _, rfl, _, _, rfl, rfl, ?_⟩⟩
    have eu := Ext.new hu (.tup [.ref ep, .ref op])
    have E4 := (e2.trans e3).trans eu
    have ev4 := eu.lst ev3
    have evs4 := pTI.ext eu evs3
    have od4 := eu.lst hop
    have ods4 := pTI.ext eu hos
    generalize L2.upd H3 u (.tup [.ref ep, .ref op]) = H4 at E4 ev4 evs4 od4 ods4 ⊢
    have le : es.length ≤ 9000000 := by rw [paired_len evs4]; exact Nat.le_trans (kind_len ok.fewL _) (by decide)
    have lo : os.length ≤ 9000000 := by rw [paired_len ods4]; exact Nat.le_trans (kind_len ok.fewL _) (by decide)
    refine ⟨_, rfl, b, _, rfl, .inr (E4.tup hb), _, rfl, by omega, by omega, fun D hD => ?_⟩
    have e0 : ((ls.length : Int)).toNat = ls.length := by omega
    rw [e0]
    refine lc_fmR (lo := 0) (n := ls.length) (S := TI) stTI (fun n => some [(throughN n (kindOf W true) : Int), (throughN n (kindOf W false) : Int)]) hD (Nat.le_of_lt (small1000 (by omega))) (fun n H' Ky Kn e h1 h2 k1 k2 => ?_) fun H' acc e hacc hp => ?_
    · refine ⟨rfl, yes ⟨_, rfl, _, rfl, n, ep, es, _, rfl, e.lst ev4, pTI.ext e evs4, le, fun H5 e5 => ⟨_, rfl, _, rfl, n, op, os, _, rfl, (e.trans e5).lst od4, pTI.ext (e.trans e5) ods4, lo, fun H6 e6 => ⟨(by show 2 ≤ sizeLine; decide), fun v hv => k1 _ _ _ rfl ((e5.trans e6).trans (Ext.new hv _)) ⟨v, rfl, upd_same⟩⟩⟩⟩⟩
    · rw [List.filterMap_eq_map', llen, Int.zero_add] at hp
      refine ⟨D, acc, rfl, hacc, fun v hv => ?_⟩
      have ev := Ext.new hv (.tup acc)
      exact k _ v (((e1.trans E4).trans e).trans ev) ⟨v, acc, rfl, upd_same, pTI.ext ev hp⟩
end
end Lk


/-! ## OpLS -/
set_option Elab.async false
set_option linter.all false
set_option maxRecDepth 100000
set_option maxHeartbeats 2000000
/-! Lists of texts, tuples of rows, compared. -/
namespace Lk
open PySem PySem.Spec PyProof.Rows L2 Gx
variable [Own]
/-- a list of texts -/
def LS (H : Hp) (v : V) (ss : List Str) : Prop := ∃ a, v = .ref a ∧ H a = some (.lst (ss.map V.str))
theorem eqv_str (a b : Str) : PyData.eqv (.str a) (.str b) = decide (a = b) := by
  simp only [PyData.eqv]
  first | rfl | exact Bool.beq_eq_decide_eq .. | (by_cases h : a = b <;> simp [h])
theorem eqvAll_strs : ∀ a b : List Str, PyData.eqvAll (a.map .str) (b.map .str) = decide (a = b)
  | [], [] => by simp [PyData.eqvAll]
  | [], _ :: _ => by simp [PyData.eqvAll]
  | _ :: _, [] => by simp [PyData.eqvAll]
  | x :: xs, y :: ys => by
    rw [List.map_cons, List.map_cons]
    simp only [PyData.eqvAll]
    rw [eqv_str, eqvAll_strs xs ys]
    by_cases h1 : x = y <;> by_cases h2 : xs = ys <;> simp [h1, h2]
theorem canLay_strs : ∀ a : List Str, a.all PyData.strOk = true → PyData.canLayAll0 (a.map .str) = true
  | [], _ => by simp [PyData.canLayAll0]
  | x :: xs, h => by
    rw [List.all_cons, Bool.and_eq_true] at h
    rw [List.map_cons]
    simp only [PyData.canLayAll0, PyData.canLay0, canLay_strs xs h.2, h.1, Bool.and_self]
theorem depth_strs : ∀ a : List Str, PyData.depthAll (a.map .str) = 0
  | [] => by simp [PyData.depthAll]
  | x :: xs => by
    rw [List.map_cons]
    simp only [PyData.depthAll, PyData.depth, depth_strs xs, Nat.max_self]
theorem shaped_ls (a : List Str) (h : a.all PyData.strOk = true) : SeqAt.shaped (.list (a.map .str)) = true := by
  unfold SeqAt.shaped
  simp only [PyData.canLay0, canLay_strs a h, PyData.depth, depth_strs a, Bool.true_and]
  decide
theorem dpAll_strs {K : PySem.W.Frag} {H : Hp} : ∀ ss : List Str, DpAll K H (ss.map V.str) (ss.map .str)
  | [] => .nil
  | s :: ss => .cons (.str s) (dpAll_strs ss)
theorem LS.dp {K : PySem.W.Frag} {H : Hp} {v : V} {ss : List Str} (h : LS H v ss) : Dp K H v (.list (ss.map .str)) := by
  obtain ⟨a, rfl, h⟩ := h
  exact .lst (SqL.of h) (dpAll_strs ss)
theorem eqv_ls (a b : List Str) : PyData.eqv (.list (a.map .str)) (.list (b.map .str)) = decide (a = b) := by
  simp only [PyData.eqv]
  exact eqvAll_strs a b
def rEqLS : R2 := fun x y H Q => ∃ a b : List Str, LS H x a ∧ LS H y b ∧ a.all PyData.strOk = true ∧ b.all PyData.strOk = true ∧ Q (.bl (decide (a = b))) H
theorem op_eqLS {X : Cx} (hu : X.A.units + 64 < cLine) : OpR X (compareOp .Eq) rEqLS := by
  intro pins s σ H x y v u Q I rx ry h
  obtain ⟨a, b, h1, h2, ha, hb, q⟩ := h
  exact op_eqD hu pins s σ H x y v u Q I rx ry ⟨_, _, h1.dp, h2.dp, shaped_ls a ha, shaped_ls b hb, by rw [eqv_ls]; exact q⟩
theorem eqv_tl (a b : List (List Int)) : PyData.eqv (.tuple (a.map dI)) (.tuple (b.map dI)) = decide (a = b) := by
  simp only [PyData.eqv]
  exact eqvAll_rows a b
/-- two tuples of rows -/
def rNeTT2 : R2 := fun x y H Q => ∃ a b : List (List Int), TT2 H x a ∧ TT2 H y b ∧ Q (.bl (!decide (a = b))) H
def rEqTT2 : R2 := fun x y H Q => ∃ a b : List (List Int), TT2 H x a ∧ TT2 H y b ∧ Q (.bl (decide (a = b))) H
theorem op_neTT2 {X : Cx} (hu : X.A.units + 64 < cLine) : OpR X (compareOp .NotEq) rNeTT2 := by
  intro pins s σ H x y v u Q I rx ry h
  obtain ⟨a, b, h1, h2, q⟩ := h
  exact op_neD hu pins s σ H x y v u Q I rx ry ⟨_, _, h1.dp, h2.dp, shaped_tl a, shaped_tl b, by rw [eqv_tl]; exact q⟩
theorem op_eqTT2 {X : Cx} (hu : X.A.units + 64 < cLine) : OpR X (compareOp .Eq) rEqTT2 := by
  intro pins s σ H x y v u Q I rx ry h
  obtain ⟨a, b, h1, h2, q⟩ := h
  exact op_eqD hu pins s σ H x y v u Q I rx ry ⟨_, _, h1.dp, h2.dp, shaped_tl a, shaped_tl b, by rw [eqv_tl]; exact q⟩
end Lk

/-! ## W36 -/
set_option Elab.async false
set_option linter.all false
set_option maxRecDepth 100000
set_option maxHeartbeats 4000000
namespace Lk
open PySem PySem.Spec PyProof.Rows L2 Gx
open GxR (TabG Tabbed TabB)
variable [Own]
abbrev s_exchanged : Stmt := top 38
theorem sc_exchanged : FnScope ["web", "lot", "tops", "looks", "number", "one", "other", "sign", "found"] ["web", "lot"] (defScope s_exchanged) := ⟨rfl, rfl, rfl, by decide +kernel, rfl, by decide +kernel, by decide +kernel⟩
abbrev s__law_exchanged : Stmt := top 51
theorem sc__law_exchanged : FnScope ["web", "lot", "k", "looks"] ["web", "lot"] (defScope s__law_exchanged) := ⟨rfl, rfl, rfl, by decide +kernel, rfl, by decide +kernel, by decide +kernel⟩
/-- a look, its sign exchanged if it is in the lot -/
def exLook (L : List Int) (i : Int) (l : Look3) : Look3 := (l.1, l.2.1, if L.contains i = true then -l.2.2 else l.2.2)
def exW (W : Web) (L : List Int) : Web := ⟨W.tops, (List.range W.looks.length).map fun i : Nat => exLook L (i : Int) (lookN W.looks (i : Int))⟩
def spExchangedX (Ps : List Addr) (C : Addr) : Sp := fun vs H Q E => ∃ (v l : V) (W : Web), vs = [v, l] ∧ WebAt H v W ∧ W.Ok ∧ Tabs Ps H ∧ ((∃ L, TI H l L ∧ LotOk W.looks.length L ∧ ∀ H' q, Ext H H' → WebAt H' q (exW W L) → Q q H') ∨ (BadL H W.looks.length l ∧ ∀ H', Ext H H' → E (.ref C) none H'))
def spLawExchanged : Sp := fun vs H Q _ => ∃ (v l : V) (W : Web) (L : List Int), vs = [v, l] ∧ WebAt H v W ∧ W.Ok ∧ TI H l L ∧ ∀ H' q, Ext H H' → WebAt H' q (exW W L) → Q q H'
theorem nums_range {α : Type} (f : Int → α) (n : Nat) : (nums 0 (n : Int)).map f = (List.range n).map fun i : Nat => f (i : Int) := by
  unfold nums
  rw [List.map_map, show ((n : Int) - 0).toNat = n by omega]
  refine List.map_congr_left fun i _ => ?_
  show f (0 + (i : Int)) = f (i : Int)
  rw [Int.zero_add]
section
variable {P : Program} {w : World} {K : PySem.W.Frag} {mg : Str → Option Value} {base : Heap} {Ps : List Addr} {C : Addr}
theorem ok_exchangedX {f : Addr} {fd : FuncData} (F : Fun K "exchanged" "exchanged" s_exchanged f fd) (B : Blt mg)
    (c_check_web : Cal P w K mg base CX0 6 "check_web" ["web"] (spCheckWeb Ps)) (c_check_lot : Cal P w K mg base (L2.CX P w) 3 "check_lot" ["many", "lot"] (spCheckLotX Ps C)) : FnOk P w K mg base (L2.CX P w) 7 f fd ["web", "lot"] (spExchangedX Ps C) := by
  refine F.okX sc_exchanged (fun vs H Q E h => ?_) (fun cdv A outer s0 H vs Q E hr h => ?_)
  · obtain ⟨v, l, W, rfl, _⟩ := h
    rfl
  · obtain ⟨v, l, W, rfl, hW, ok, hTb, h⟩ := h
    refine ⟨_, (pss_cons (ps_expr (pe_c0 c_check_web (hr.mono (by decide)) (by rfl) (pa_cons (pv 0) pa_nil)))
      (pss_cons (ps_asg (pv 0) (pg_tupT (n := 2) rfl (pgs_cons (pg_name (i := 2) sc_exchanged.nd rfl (by first | exact Or.inl rfl | exact Or.inr rfl)) (pgs_cons (pg_name (i := 3) sc_exchanged.nd rfl (by first | exact Or.inl rfl | exact Or.inr rfl)) pgs_nil))))
      (pss_cons (ps_expr (pe_cal c_check_lot (hr.mono (by decide)) (by rfl) (E := E) (passes_call (takes_of rfl rfl rfl rfl) fun _ _ _ _ h => h) (pa_cons (pe_callB call_lenT (by rfl) B.len PySem.boot_len (pa_cons (pv 3) pa_nil)) (pa_cons (pv 1) pa_nil))))
      (pss_cons (ps_setLc (i := 8) (own := [("number", 4), ("one", 5), ("other", 6), ("sign", 7)]) rfl sc_exchanged.nd rfl rfl (sw_true rfl rfl rfl (by decide +kernel)) (pi_enumT (by rfl) B.enum (pa_cons (pv 3) pa_nil)) (blkOk_by (N := ["web", "lot", "tops", "looks", "number", "one", "other", "sign", "found"]) (sc := defScope s_exchanged) (by decide +kernel)) (fun _ _ _ _ _ => (pg_tupT (n := 2) rfl (pgs_cons (pg_name (i := 4) sc_exchanged.nd rfl (by first | exact Or.inl rfl | exact Or.inr rfl)) (pgs_cons (pg_tupT (n := 3) rfl (pgs_cons (pg_name (i := 5) sc_exchanged.nd rfl (by first | exact Or.inl rfl | exact Or.inr rfl)) (pgs_cons (pg_name (i := 6) sc_exchanged.nd rfl (by first | exact Or.inl rfl | exact Or.inr rfl)) (pgs_cons (pg_name (i := 7) sc_exchanged.nd rfl (by first | exact Or.inl rfl | exact Or.inr rfl)) pgs_nil)))) pgs_nil)))) (fun _ _ _ _ _ => pts_nil) (fun _ _ _ _ _ => (pe_tup (pa_cons (pv 5) (pa_cons (pv 6) (pa_cons (pe_ifExp (pt_cmpR op_inI (pv 4) (pv 1) (by with_unfolding_all rfl)) (pe_un un_neg (pv 7)) (pv 7)) pa_nil))))))
      (pss_one (ps_ret (pe_tup (pa_cons (pv 2) (pa_cons (pe_tupleL (by rfl) B.tuple (pv 8)) pa_nil))))))))), ?_⟩
    refine ⟨_, rfl, _, W, rfl, hW, ok, hTb, fun H1 e1 => ?_⟩
    have hW1 := hW.ext e1
    obtain ⟨a, t, lk, rfl, ha, ht, ⟨b, ls, rfl, hb, hls⟩⟩ := id hW1
    have llen : ls.length = W.looks.length := by rw [paired_len hls, List.length_map]
    have l14 := ok.most
    refine ⟨_, rfl, a, _, rfl, ha, rfl, _, _, rfl, _, _, rfl, rfl, ?_⟩
    refine ⟨_, rfl, b, _, rfl, .inr hb, _, rfl, _, _, (by rw [llen] <;> rfl), hTb.ext e1, ?_⟩
    rcases h with ⟨L, hL, lo, k⟩ | ⟨hbad, k⟩
    · refine .inl ⟨L, hL.ext e1, lo, fun H3 e3 => ?_⟩
      have E3 := e1.trans e3
      obtain ⟨la, rfl, hla⟩ := hL.ext E3
      refine ⟨_, rfl, b, ls, rfl, e3.tup hb, fun D hD => ?_⟩
      refine lc_walk (walk_enumT (a := b) (xs := ls)) (fun i H' => ∃ acc, H' D = some (.lst acc) ∧ Ext H3 H' ∧ acc.length = i ∧ Paired (TI H') acc (((List.range i).map fun j : Nat => exLook L (j : Int) (lookN W.looks (j : Int))).map row3)) ⟨[], upd_same, Ext.new hD _, rfl, .nil⟩ (fun i H' _ ⟨_, _, e, _⟩ => (e3.trans e).tup hb) (fun i x H4 H5 hi ⟨acc, h1, e, hl, hp⟩ y => ?_) fun H4 ⟨acc, h4, e4, hl, hp⟩ => ?_
      · obtain ⟨T, y1, rfl, hT, rfl, hy⟩ := y
        obtain ⟨r0, hr0, z, rfl, hz⟩ := paired_get' (pTI.ext (e3.trans e) hls) hy
        have hr1 : r0 = row3 (lookN W.looks (i : Int)) := by
          have h2 := lookN_get (ls := W.looks) (n := (i : Int)) (by omega) (by omega)
          rw [Int.toNat_natCast] at h2
          rw [List.getElem?_map, h2] at hr0
          exact (Option.some.inj hr0).symm
        subst hr1
        have eT := Ext.new hT (.tup [V.int (i : Nat), V.ref z])
        refine ⟨T, _, rfl, upd_same, rfl, _, _, rfl, _, _, rfl, z, _, rfl, eT.tup hz, rfl, _, _, rfl, _, _, rfl, _, _, rfl, rfl, rfl, rfl, yes ?_⟩
        have fin : ∀ (sg : Int), sg = (exLook L (i : Int) (lookN W.looks (i : Int))).2.2 → ∀ u, (L2.upd H4 T (.tup [V.int (i : Nat), V.ref z])) u = none → ∃ acc', (L2.upd (L2.upd H4 T (.tup [V.int (i : Nat), V.ref z])) u (.tup [.int (lookN W.looks (i : Int)).1, .int (lookN W.looks (i : Int)).2.1, .int sg])) D = some (.lst acc') ∧ acc'.length < sizeLine ∧
            ∃ acc2, (L2.upd (L2.upd (L2.upd H4 T (.tup [V.int (i : Nat), V.ref z])) u (.tup [.int (lookN W.looks (i : Int)).1, .int (lookN W.looks (i : Int)).2.1, .int sg])) D (.lst (acc' ++ [.ref u]))) D = some (.lst acc2) ∧ Ext H3 (L2.upd (L2.upd (L2.upd H4 T (.tup [V.int (i : Nat), V.ref z])) u (.tup [.int (lookN W.looks (i : Int)).1, .int (lookN W.looks (i : Int)).2.1, .int sg])) D (.lst (acc' ++ [.ref u]))) ∧ acc2.length = i + 1 ∧ Paired (TI (L2.upd (L2.upd (L2.upd H4 T (.tup [V.int (i : Nat), V.ref z])) u (.tup [.int (lookN W.looks (i : Int)).1, .int (lookN W.looks (i : Int)).2.1, .int sg])) D (.lst (acc' ++ [.ref u])))) acc2 (((List.range (i + 1)).map fun j : Nat => exLook L (j : Int) (lookN W.looks (j : Int))).map row3) := by
          intro sg hsg u hu
          have eu := Ext.new hu (.tup [.int (lookN W.looks (i : Int)).1, .int (lookN W.looks (i : Int)).2.1, .int sg])
          have h5 := eu.lst (eT.lst h1)
          refine ⟨acc, h5, Nat.lt_of_lt_of_le (show acc.length < 100 by omega) (by decide), acc ++ [.ref u], upd_same, ((e.trans eT).trans eu).put hD _, by rw [List.length_append, hl]; rfl, ?_⟩
          rw [List.range_succ, List.map_append, List.map_append]
          refine paired_app (paired_mono (fun _ _ h => stTI.put h5 h) (pTI.ext (eT.trans eu) hp)) (.cons (stTI.put h5 ⟨u, rfl, ?_⟩) .nil)
          rw [upd_same, hsg]
          rfl
        refine ⟨_, rfl, _, rfl, _, rfl, _, rfl, (i : Int), L, rfl, .inl ⟨la, rfl, (e.trans eT).tup hla⟩, _, rfl, ?_⟩
        refine ite_of (fun hc => ?_) fun hc => ?_
        · exact ⟨_, rfl, _, rfl, (by show 3 ≤ sizeLine; decide), fun u hu => fin _ (by unfold exLook; rw [if_pos hc] <;> rfl) u hu⟩
        · exact ⟨_, rfl, (by show 3 ≤ sizeLine; decide), fun u hu => fin _ (by unfold exLook; rw [if_neg (by rw [hc]; decide)] <;> rfl) u hu⟩
      · refine ⟨_, rfl, _, rfl, D, _, rfl, h4, fun u hu => ⟨(by show 2 ≤ sizeLine; decide), fun q hq => ?_⟩⟩
        have eu := Ext.new hu (.tup acc)
        have eq := Ext.new hq (.tup [t, .ref u])
        have E4 := E3.trans (e4.trans (eu.trans eq))
        rw [llen] at hp
        exact k _ _ E4 ⟨q, t, .ref u, rfl, upd_same, ht.ext (e3.trans (e4.trans (eu.trans eq))), u, acc, rfl, eq.tup upd_same, pTI.ext (eu.trans eq) hp⟩
    · exact .inr ⟨hbad.ext e1, fun H3 e3 => k _ (e1.trans e3)⟩
theorem ok_law_exchanged {f : Addr} {fd : FuncData} (F : Fun K "_law_exchanged" "_law_exchanged" s__law_exchanged f fd) (B : Blt mg) : FnOk P w K mg base CX0 1 f fd ["web", "lot"] spLawExchanged := by
  refine F.ok sc__law_exchanged (fun vs H Q E h => ?_) (fun cdv A outer s0 H vs Q E hr h => ?_)
  · obtain ⟨v, l, W, L, rfl, _⟩ := h
    rfl
  · obtain ⟨v, l, W, L, rfl, hW, ok, hL, k⟩ := h
    refine ⟨_, (pss_cons (ps_setLc (i := 3) (own := [("k", 2)]) rfl sc__law_exchanged.nd rfl rfl (sw_true rfl rfl rfl (by decide +kernel)) (pi_range1 (by rfl) B.range (pa_cons (pe_callB call_lenT (by rfl) B.len PySem.boot_len (pa_cons (pe_ix ix_tT (pv 0) pe_int (fun _ _ => rfl)) pa_nil)) pa_nil)) (blkOk_by (N := ["web", "lot", "k", "looks"]) (sc := defScope s__law_exchanged) (by decide +kernel)) (fun _ _ _ _ _ => (pg_name (i := 2) sc__law_exchanged.nd rfl (by first | exact Or.inl rfl | exact Or.inr rfl))) (fun _ _ _ _ _ => pts_nil) (fun _ _ _ _ _ => (pe_op op_catTT (pe_slice sl_tU (pe_ix ix_tT (pe_ix ix_tT (pv 0) pe_int (fun _ _ => rfl)) (pv 2) (fun _ _ => rfl)) po_none (po_some pe_int)) (pe_tup (pa_cons (pe_ifExp (pt_cmpR op_inI (pv 2) (pv 1) (by with_unfolding_all rfl)) (pe_op op_sub pe_int (pe_ix ix_tT (pe_ix ix_tT (pe_ix ix_tT (pv 0) pe_int (fun _ _ => rfl)) (pv 2) (fun _ _ => rfl)) pe_int (fun _ _ => rfl))) (pe_ix ix_tT (pe_ix ix_tT (pe_ix ix_tT (pv 0) pe_int (fun _ _ => rfl)) (pv 2) (fun _ _ => rfl)) pe_int (fun _ _ => rfl))) pa_nil)))))
      (pss_one (ps_ret (pe_tup (pa_cons (pe_ix ix_tT (pv 0) pe_int (fun _ _ => rfl)) (pa_cons (pe_tupleL (by rfl) B.tuple (pv 3)) pa_nil)))))), ?_⟩
    obtain ⟨a, t, lk, rfl, ha, ht, ⟨b, ls, rfl, hb, hls⟩⟩ := id hW
    have llen : ls.length = W.looks.length := by rw [paired_len hls, List.length_map]
    have l14 := ok.most
    obtain ⟨la, rfl, hla⟩ := hL
    refine ⟨_, rfl, a, _, _, _, rfl, rfl, ha, at_of (j := 1) rfl rfl, b, _, rfl, .inr hb, _, rfl, by omega, by omega, fun D hD => ?_⟩
    have e0 : ((ls.length : Int)).toNat = ls.length := by omega
    rw [e0]
    refine lc_fmR (lo := 0) (n := ls.length) (S := TI) stTI (fun n => some (row3 (exLook L n (lookN W.looks n)))) hD (Nat.le_of_lt (small1000 (by omega))) (fun n H' Ky Kn e h1 h2 k1 k2 => ?_) fun H' acc e hacc hp => ?_
    · obtain ⟨q2, h2e, h2⟩ := lookAt hls (n := n) ⟨by omega, by omega⟩
      refine ⟨rfl, yes ?_⟩
      refine ⟨_, rfl, a, _, _, _, rfl, rfl, e.tup ha, at_of (j := 1) rfl rfl, _, rfl, b, _, _, _, rfl, rfl, e.tup hb, h2e, 2, rfl, q2, _, rfl, e.tup h2, fun H3 p e3 hp3 => ?_⟩
      have hp4 : H3 p = some (.tup [.int (lookN W.looks n).1, .int (lookN W.looks n).2.1]) := hp3
      clear hp3
      have e13 := e.trans e3
      have fin : ∀ (sg : Int), sg = (exLook L n (lookN W.looks n)).2.2 → ∀ u, H3 u = none → rCatT (.ref p) (.ref u) (L2.upd H3 u (.tup [.int sg])) Ky := by
        intro sg hsg u hu
        have hpu := ne_of_none hp4 hu
        refine ⟨p, u, [.int (lookN W.looks n).1, .int (lookN W.looks n).2.1], [.int sg], rfl, rfl, by rw [upd_ne hpu]; exact hp4, upd_same, (by show 3 ≤ sizeLine; decide), (fun z => by cases z), (fun _ z => by cases z), fun _ _ v hv => ?_⟩
        refine k1 _ _ _ rfl ((e3.trans (Ext.new hu _)).trans (Ext.new hv _)) ⟨v, rfl, ?_⟩
        rw [upd_same, hsg]
        rfl
      refine ⟨_, rfl, _, rfl, n, L, rfl, .inl ⟨la, rfl, e13.tup hla⟩, _, rfl, ?_⟩
      refine ite_of (fun hc => ?_) fun hc => ?_
      · refine ⟨_, rfl, a, _, _, _, rfl, rfl, e13.tup ha, at_of (j := 1) rfl rfl, _, rfl, b, _, _, _, rfl, rfl, e13.tup hb, h2e, q2, _, _, _, rfl, rfl, e13.tup h2, at_of (j := 2) rfl rfl, _, _, rfl, rfl, (by show 1 ≤ sizeLine; decide), fun u hu => fin _ ?_ u hu⟩
        unfold exLook
        rw [if_pos hc, Int.zero_sub] <;> rfl
      · refine ⟨_, rfl, a, _, _, _, rfl, rfl, e13.tup ha, at_of (j := 1) rfl rfl, _, rfl, b, _, _, _, rfl, rfl, e13.tup hb, h2e, q2, _, _, _, rfl, rfl, e13.tup h2, at_of (j := 2) rfl rfl, (by show 1 ≤ sizeLine; decide), fun u hu => fin _ ?_ u hu⟩
        unfold exLook
        rw [if_neg (by rw [hc]; decide)] <;> rfl
    · rw [List.filterMap_eq_map', llen, Int.zero_add, nums_range (fun n => row3 (exLook L n (lookN W.looks n)))] at hp
      refine ⟨_, rfl, a, _, _, _, rfl, rfl, e.tup ha, at_of (j := 0) rfl rfl, _, rfl, D, _, rfl, hacc, fun u hu => ⟨(by show 2 ≤ sizeLine; decide), fun q hq => ?_⟩⟩
      have eu := Ext.new hu (.tup acc)
      have eq := Ext.new hq (.tup [t, .ref u])
      refine k _ _ (e.trans (eu.trans eq)) ⟨q, t, .ref u, rfl, upd_same, ht.ext (e.trans (eu.trans eq)), u, acc, rfl, eq.tup upd_same, pTI.ext (eu.trans eq) ?_⟩
      unfold exW
      rw [List.map_map]
      exact hp
end
end Lk


/-! ## W37 -/
set_option Elab.async false
set_option linter.all false
set_option maxRecDepth 100000
set_option maxHeartbeats 4000000
namespace Lk
open PySem PySem.Spec PyProof.Rows L2 Gx NdefX LamX
open GxR (TabG Tabbed)
variable [Own]
abbrev s_exchanges : Stmt := top 39
theorem sc_exchanges : FnScope ["web", "word", "_", "looks", "odd", "even", "changing", "staying"] ["web", "word"] (defScope s_exchanges) := ⟨rfl, rfl, rfl, by decide +kernel, rfl, by decide +kernel, by decide +kernel⟩
/-- a lambda's parts; what a call is given at a place -/
def exP : Expr → Arguments
  | .Lambda p _ _ _ => p
  | _ => defArgs s_exchanges
def exB : Expr → Expr
  | .Lambda _ b _ _ => b
  | e => e
def exSc : Expr → Scope
  | .Lambda _ _ sc _ => sc
  | _ => defScope s_exchanges
def retArg (i : Nat) : Stmt → Expr
  | .Return (some (.Call _ as _ _)) _ => as.getD i (.Constant .none 0 ⟨0, 0, 0, 0⟩)
  | _ => .Constant .none 0 ⟨0, 0, 0, 0⟩
abbrev lamEx : Expr := retArg 1 ((defBody s_exchanges).getD 5 (.Pass ⟨0, 0, 0, 0⟩))
abbrev exQ : Str := ("exchanges" : Str) ++ ".<locals>." ++ "<lambda>"
/-- as seen without tables of one's own -/
abbrev ExtF (H H' : Hp) : Prop := @Ext ⟨fun _ => False⟩ H H'
theorem weak {H H' : Hp} (e : Ext H H') : ExtF H H' := @Ext.mk ⟨fun _ => False⟩ _ _ e.keep e.tab e.tb (fun _ _ z _ => z.elim)
/-- only the table at T, of all one's own, may have grown -/
structure Gt (T : Addr) (H H' : Hp) : Prop where
  ext : ExtF H H'
  own : ∀ P ps, Own.own P → P ≠ T → H P = some (.tbl ps) → H' P = some (.tbl ps)
theorem Gt.refl {T : Addr} (H : Hp) : Gt T H H := ⟨@Ext.refl ⟨fun _ => False⟩ H, fun _ _ _ _ h => h⟩
theorem Gt.trans {T : Addr} {H H1 H2 : Hp} (a : Gt T H H1) (b : Gt T H1 H2) : Gt T H H2 := ⟨@Ext.trans ⟨fun _ => False⟩ _ _ _ a.ext b.ext, fun P ps o n h => b.own P ps o n (a.own P ps o n h)⟩
theorem Ext.gt {T : Addr} {H H' : Hp} (e : Ext H H') : Gt T H H' := ⟨weak e, fun P ps o _ h => e.own P ps o h⟩
/-- a def, as it is called -/
structure GCal (K : PySem.W.Frag) (mg : Str → Option Value) (x : Str) (st : Stmt) (ps : List Str) : Prop where
  ex : ∃ g fd, mg x = some (.ref g) ∧ PySem.W.keepIn K (.ref g) = true ∧ Binds K fd ps [] ∧ Fun K x x st g fd
theorem lamGt {T : Addr} {q : Str} {H1 H2 : Hp} (t1 : TabS H1 T q) (kp : ∀ b o, b ≠ T → H1 b = some o → H2 b = some o) (t2 : TabS H2 T q) : Gt T H1 H2 := by
  refine ⟨?_, fun P ps _ n h => kp P _ n h⟩
  obtain ⟨p1, a1, b1, _⟩ := t1
  obtain ⟨p2, a2, b2, _⟩ := t2
  refine @Ext.mk ⟨fun _ => False⟩ _ _ (fun a o h q => kp a o (fun z => ?_) h) (fun P h => ?_) (fun a o h => ?_) (fun _ _ z _ => z.elim)
  · rw [z, a1] at h
    cases h
    cases q
  · by_cases z : P = T
    · rw [z]
      exact ⟨p2, a2, b2⟩
    · obtain ⟨ps, e, t⟩ := h
      exact ⟨ps, kp P _ z e, t⟩
  · by_cases z : a = T
    · rw [z]
      exact ⟨_, a2⟩
    · exact ⟨o, kp a o z h⟩
/-- the lots asked for: rings to change, rings to stay -/
def exFit (W : Web) (wd : Str) (lot : List Int) : Bool := if wd = "odd" then exAllB lot (kindOf W true) (kindOf W false) else exAllB lot (kindOf W false) (kindOf W true)
/-- no word of the two -/
def BadW (K : PySem.W.Frag) (H : Hp) (x : V) : Prop := ∃ d, (∀ H', Ext H H' → Dp K H' x d) ∧ SeqAt.shaped d = true ∧ PyData.eqv (.str "odd") d = false ∧ PyData.eqv (.str "even") d = false
def rNotInTD (K : PySem.W.Frag) : R2 := fun x y H Q => ∃ d ds, Dp K H x d ∧ Dp K H y (.tuple ds) ∧ SeqAt.shaped d = true ∧ PyData.canLayAll0 ds = true ∧ PyData.depthAll ds ≤ 60 ∧ Q (.bl (!ds.any fun z => PyData.eqv z d)) H
theorem op_notInTD {X : Cx} (hu : X.A.units + 65 < cLine) : OpR X (compareOp .NotIn) (rNotInTD X.K) := by
  intro pins s σ H x y v u Q I rx ry h
  obtain ⟨d, ds, hd, he, sd, hc, hdp, q⟩ := h
  obtain ⟨as, r1⟩ := Dp.reads I _ x v hd rx
  obtain ⟨bs, r2⟩ := Dp.reads I _ y u he ry
  refine SeqAt.notIn_tuple_reads r2 r1 hc (SeqAt.canLay_of_shaped sd) ?_ ⟨.bl _, H, I, rfl, q⟩
  omega
def spExchangesX (K : PySem.W.Frag) (Ps : List Addr) (T C : Addr) : Sp := fun vs H Q E => ∃ (v wv : V) (W : Web), vs = [v, wv] ∧ WebAt H v W ∧ W.Ok ∧ Lk.Tabs Ps H ∧
  ((TabS H T exQ ∧ ∃ wd : Str, wv = .str wd ∧ wd ∈ (["odd", "even"] : List Str) ∧ ∀ H' q, Gt T H H' → TabS H' T exQ → TT2 H' (.ref q) (leastL W.looks.length (exFit W wd)) → Q (.ref q) H') ∨ (BadW K H wv ∧ ∀ H', Ext H H' → E (.ref C) none H'))
def spFx (Ps : List Addr) : List (Option V) → List V → Hp → VK → Prop := fun ws vs H Q => ∃ cv sv lv : V, ws = [some cv, some sv] ∧ vs = [lv] ∧ spExAll Ps [lv, cv, sv] H Q C8.E0
theorem nd_ex : ndefB (defScope s_exchanges) (exSc lamEx) ["changing", "staying"] = true := by decide +kernel
theorem lot_len {n : Nat} {l : List Int} (hn : n ≤ 14) (h : l ∈ (allLots n).map lotI) : l.length ≤ 100 := by
  obtain ⟨q, hq, rfl⟩ := List.mem_map.mp h
  have h1 := mem_lots.mp hq
  have h2 : q ∈ Cb.cmb n 0 q.length := mem_cmb.mpr ⟨rfl, h1.1, fun j hj => by have := h1.2 j hj; omega⟩
  rw [lotI_len]
  rcases Nat.lt_or_ge n q.length with z | z
  · rw [Cb.cmb_big _ 0 _ z] at h2
    cases h2
  · omega
theorem dec_strE {a b : Str} (h : decide (V.str a = V.str b) = true) : a = b := by
  have := of_decide_eq_true h
  cases this
  rfl
section
variable {P : Program} {w : World} {K : PySem.W.Frag} {mg : Str → Option Value} {base : Heap} {Ps : List Addr} {T C : Addr}
theorem FunL.okX {x : Str} {st : Stmt} {f : Addr} {fd : FuncData} {T : Addr} {N ps : List Str} {k : Nat} {sp : Sp} (F : FunL K mg base x st f fd T) (S : FnScope N ps (defScope st)) (len : ∀ vs H Q E, sp vs H Q E → vs.length = ps.length)
    (hbody : ∀ (c : Addr) (A : Around) (outer : List Env) (s : Shared) (H : Hp) (vs : List V) (Q : VK) (E : XK), LamX.TabB base mg c T → Room k (A.deeper (envOfC x (defScope st) s.heap.objs.size f (.ref c))) → sp vs H Q E →
      ∃ t, PSs (cxOf (L2.CX P w) P w K mg base N x (defScope st) f (.ref c) A outer s H E) (defBody st) t ∧ t { nx := fun _ H' => Q .non H', rt := Q } (start N vs) H) : FnOk P w K mg base (L2.CX P w) (k + 1) f fd ps sp := by
  obtain ⟨oc, od, kV, doc, pm, an, c, ct, osl, rfl, lk, hcd, tb⟩ := F.ex
  exact fn_of lk hcd S len fun A outer s H vs Q E hr hsp => hbody c A outer s H vs Q E tb hr hsp
theorem lok_ex {q : Str} {cl : List (Str × Addr)} (c_exchanges_all : Cal P w K mg base CX0 3 "exchanges_all" ["lot", "changing", "staying"] (spExAll Ps)) : LOk P w K mg base 4 (lamF q (exP lamEx) (exSc lamEx) cl) (exB lamEx) ["lot"] ["changing", "staying"] (spFx Ps) := by
  refine lok_of (N := ["lot", "changing", "staying"]) (nscope_by (by decide +kernel)) (fun pm ctv c' us hl => match us, hl with | [_], _ => rfl) (fun ws vs H Q h => ?_) (fun f c' A outer s H vs ws Q hr hl h => ?_)
  · obtain ⟨cv, sv, lv, _, rfl, _⟩ := h
    rfl
  · obtain ⟨cv, sv, lv, rfl, rfl, h⟩ := h
    exact ⟨_, (pe_c0 c_exchanges_all (hr.mono (by decide)) (by rfl) (pa_cons (pv 0) (pa_cons (pv 1) (pa_cons (pv 2) pa_nil)))), _, rfl, _, rfl, _, rfl, h⟩
theorem ok_exchangesX {f : Addr} {fd : FuncData} (F : FunL K mg base "exchanges" s_exchanges f fd T) (own : Own.own T) (O : Own0 K mg "BadWord" C) (B : Blt mg) (G : GCal K mg "least_lots" s_least_lots ["many", "fits"])
    (c_check_web : Cal P w K mg base CX0 6 "check_web" ["web"] (spCheckWeb Ps)) (c_odd_rings : Cal P w K mg base CX0 3 "odd_rings" ["web"] (spKind false)) (c_even_rings : Cal P w K mg base CX0 3 "even_rings" ["web"] (spKind true))
    (c_lots_of : Cal P w K mg base CX0 1 "lots_of" ["many", "size"] spLotsOf) (c_exchanges_all : Cal P w K mg base CX0 3 "exchanges_all" ["lot", "changing", "staying"] (spExAll Ps)) : FnOk P w K mg base (L2.CX P w) 7 f fd ["web", "word"] (spExchangesX K Ps T C) := by
  refine F.okX sc_exchanges (fun vs H Q E h => ?_) (fun cT A outer s0 H vs Q E TB hr h => ?_)
  · obtain ⟨v, wv, W, rfl, _⟩ := h
    rfl
  · obtain ⟨v, wv, W, rfl, hW, ok, hTb, h⟩ := h
    obtain ⟨gG, fdG, mG, kG, bG, FG⟩ := G.ex
    refine ⟨_, (pss_cons (ps_expr (pe_c0 c_check_web (hr.mono (by decide)) (by rfl) (pa_cons (pv 0) pa_nil)))
      (pss_cons (ps_if (pt_cmpR (op_notInTD (un1 hr)) (pv 1) (pe_tup (pa_cons pe_str (pa_cons pe_str pa_nil))) (by with_unfolding_all rfl))
        (pss_one (ps_raise0 rfl O (takes_of rfl rfl rfl rfl) (by rfl))) pss_nil)
      (pss_cons (ps_asg (pv 0) (pg_tupT (n := 2) rfl (pgs_cons (pg_name (i := 2) sc_exchanges.nd rfl (by first | exact Or.inl rfl | exact Or.inr rfl)) (pgs_cons (pg_name (i := 3) sc_exchanges.nd rfl (by first | exact Or.inl rfl | exact Or.inr rfl)) pgs_nil))))
      (pss_cons (ps_par (i := 4) (j := 5) rfl sc_exchanges.nd rfl rfl (by decide) rfl rfl (pa_cons (pe_c0 c_odd_rings (hr.mono (by decide)) (by rfl) (pa_cons (pv 0) pa_nil)) (pa_cons (pe_c0 c_even_rings (hr.mono (by decide)) (by rfl) (pa_cons (pv 0) pa_nil)) pa_nil)) (by rfl))
      (pss_cons (ps_asg (pe_ifExp (pt_cmpR op_eq (pv 1) pe_str (nomark _)) (pe_tup (pa_cons (pv 5) (pa_cons (pv 4) pa_nil))) (pe_tup (pa_cons (pv 4) (pa_cons (pv 5) pa_nil)))) (pg_tupT (n := 2) rfl (pgs_cons (pg_name (i := 6) sc_exchanges.nd rfl (by first | exact Or.inl rfl | exact Or.inr rfl)) (pgs_cons (pg_name (i := 7) sc_exchanges.nd rfl (by first | exact Or.inl rfl | exact Or.inr rfl)) pgs_nil))))
      (pss_one (ps_ret (pe_callG (js := [6, 7]) (ok_least_lots FG B (by decide) (lok_ex (q := exQ) c_exchanges_all) c_lots_of) (fun _ => rfl) (fun ok => Caps.made ok (ndef_free nd_ex) (ndef_fr nd_ex) rfl) (hr.mono (by decide)) (by rfl) mG kG bG (pa_cons (pe_callB call_lenT (by rfl) B.len PySem.boot_len (pa_cons (pv 3) pa_nil)) (pa_cons (pe_lam1 (q := exQ) TB rfl rfl (by rfl) (ndef_free nd_ex)) pa_nil)))))))))), ?_⟩
    refine ⟨_, rfl, _, W, rfl, hW, ok, hTb, fun H1 e1 => ?_⟩
    have hdp : ∃ d, (∀ H', Ext H H' → Dp K H' wv d) ∧ SeqAt.shaped d = true ∧ ((∃ wd : Str, wv = .str wd ∧ d = .str wd ∧ wd ∈ (["odd", "even"] : List Str) ∧ TabS H T exQ ∧ ∀ H' q, Gt T H H' → TabS H' T exQ → TT2 H' (.ref q) (leastL W.looks.length (exFit W wd)) → Q (.ref q) H') ∨ (PyData.eqv (.str "odd") d = false ∧ PyData.eqv (.str "even") d = false ∧ ∀ H', Ext H H' → E (.ref C) none H')) := by
      rcases h with ⟨hTS, wd, rfl, hm, k⟩ | ⟨⟨d, h1, h2, h3, h4⟩, k⟩
      · exact ⟨_, fun _ _ => .str wd, (by
          simp only [List.mem_cons, List.not_mem_nil, or_false] at hm
          rcases hm with e | e <;> (subst e; decide +kernel)), .inl ⟨wd, rfl, rfl, hm, hTS, k⟩⟩
      · exact ⟨d, h1, h2, .inr ⟨h3, h4, k⟩⟩
    obtain ⟨d, hd, hsh, hk⟩ := hdp
    refine ⟨_, rfl, (by show 2 ≤ sizeLine; decide), fun u hu => ?_⟩
    have eu := Ext.new hu (.tup [.str "odd", .str "even"])
    refine ⟨d, [.str "odd", .str "even"], hd _ (e1.trans eu), .tup (SqT.of upd_same) (.cons (.str _) (.cons (.str _) .nil)), hsh, by decide +kernel, by simp [PyData.depthAll, PyData.depth], _, rfl, ?_⟩
    have e2 := e1.trans eu
    generalize L2.upd H1 u (.tup [.str "odd", .str "even"]) = H2 at eu e2 ⊢
    rcases hk with ⟨wd, rfl, rfl, hwd, hTS, k⟩ | ⟨h3, h4, k⟩
    · have hin : (!([PyData.str "odd", .str "even"].any fun z => PyData.eqv z (.str wd))) = false := by
        simp only [List.mem_cons, List.not_mem_nil, or_false] at hwd
        rcases hwd with e | e <;> (subst e; decide +kernel)
      rw [hin]
      refine iteF ?_
      have hW2 := hW.ext e2
      obtain ⟨a, t, l, rfl, ha, ht, ⟨b, ls, rfl, hb, hls⟩⟩ := id hW2
      have llen : ls.length = W.looks.length := by rw [paired_len hls, List.length_map]
      refine ⟨_, rfl, a, _, rfl, ha, rfl, _, _, rfl, _, _, rfl, rfl, ?_⟩
      refine ⟨_, rfl, _, W, rfl, hW2, ok.fewL, fun H3 op os e3 _ hop hos => ?_⟩
      refine ⟨_, rfl, _, W, rfl, hW2.ext e3, ok.fewL, fun H4 ep es e4 _ hep hes => ⟨_, _, rfl, ?_⟩⟩
      have hop4 := e4.lst hop
      have hos4 := pTI.ext e4 hos
      have E4 := e2.trans (e3.trans e4)
      have hb4 := (e3.trans e4).tup hb
      -- which change, which stay
      refine ⟨_, rfl, rfl, _, rfl, ?_⟩
      by_cases hw : wd = "odd"
      · refine ite2 (fun _ => ?_) (fun h => absurd (decide_eq_true (congrArg V.str hw)) h)
        refine ⟨_, rfl, _, rfl, (by show 2 ≤ sizeLine; decide), fun v hv => ⟨v, _, rfl, upd_same, rfl, _, _, rfl, _, _, rfl, rfl, ?_⟩⟩
        have ev := Ext.new hv (.tup [.ref ep, .ref op])
        have hf : exFit W wd = fun l => exAllB l (kindOf W true) (kindOf W false) := by funext l; unfold exFit; rw [if_pos hw]
        rw [hf] at k
        refine ⟨_, rfl, b, _, rfl, .inr (ev.tup hb4), tabS_own own (E4.trans ev) hTS, fun fl c' H5 kp tS5 nn hfl hc => ?_⟩
        have hTS4 := tabS_own own (E4.trans ev) hTS
        have g12 := lamGt hTS4 kp tS5
        have g2 := ((E4.trans ev).gt).trans g12
        have hc5 := @Ext.lst ⟨fun _ => False⟩ _ _ g12.ext _ _ (ev.lst hep)
        have hcs5 := @pTI.ext ⟨fun _ => False⟩ _ _ _ _ g12.ext (pTI.ext ev hes)
        have hs5 := @Ext.lst ⟨fun _ => False⟩ _ _ g12.ext _ _ (ev.lst hop4)
        have hss5 := @pTI.ext ⟨fun _ => False⟩ _ _ _ _ g12.ext (pTI.ext ev hos4)
        have hTb5 := @Lk.Tabs.ext ⟨fun _ => False⟩ _ _ _ hTb g2.ext
        refine ⟨fl, c', rfl, hfl, hc, W.looks.length, fl, _, by rw [llen] <;> rfl, ok.most, fun H' lv lot Q' e hl hm hq => ?_, fun H' q e hq => k H' q (g2.trans e.gt) (tabS_own own e tS5) hq⟩
        exact ⟨.ref ep, .ref op, lv, rfl, rfl, lv, ep, op, _, _, lot, _, _, rfl, hl, lot_len ok.most hm, e.lst hc5, pTI.ext e hcs5, e.lst hs5, pTI.ext e hss5, hTb5.ext e, hq⟩
      · refine ite2 (fun h => absurd (dec_strE h) hw) (fun _ => ?_)
        refine ⟨_, rfl, _, rfl, (by show 2 ≤ sizeLine; decide), fun v hv => ⟨v, _, rfl, upd_same, rfl, _, _, rfl, _, _, rfl, rfl, ?_⟩⟩
        have ev := Ext.new hv (.tup [.ref op, .ref ep])
        have hf : exFit W wd = fun l => exAllB l (kindOf W false) (kindOf W true) := by funext l; unfold exFit; rw [if_neg hw]
        rw [hf] at k
        refine ⟨_, rfl, b, _, rfl, .inr (ev.tup hb4), tabS_own own (E4.trans ev) hTS, fun fl c' H5 kp tS5 nn hfl hc => ?_⟩
        have hTS4 := tabS_own own (E4.trans ev) hTS
        have g12 := lamGt hTS4 kp tS5
        have g2 := ((E4.trans ev).gt).trans g12
        have hc5 := @Ext.lst ⟨fun _ => False⟩ _ _ g12.ext _ _ (ev.lst hop4)
        have hcs5 := @pTI.ext ⟨fun _ => False⟩ _ _ _ _ g12.ext (pTI.ext ev hos4)
        have hs5 := @Ext.lst ⟨fun _ => False⟩ _ _ g12.ext _ _ (ev.lst hep)
        have hss5 := @pTI.ext ⟨fun _ => False⟩ _ _ _ _ g12.ext (pTI.ext ev hes)
        have hTb5 := @Lk.Tabs.ext ⟨fun _ => False⟩ _ _ _ hTb g2.ext
        refine ⟨fl, c', rfl, hfl, hc, W.looks.length, fl, _, by rw [llen] <;> rfl, ok.most, fun H' lv lot Q' e hl hm hq => ?_, fun H' q e hq => k H' q (g2.trans e.gt) (tabS_own own e tS5) hq⟩
        exact ⟨.ref op, .ref ep, lv, rfl, rfl, lv, op, ep, _, _, lot, _, _, rfl, hl, lot_len ok.most hm, e.lst hc5, pTI.ext e hcs5, e.lst hs5, pTI.ext e hss5, hTb5.ext e, hq⟩
    · have hin : (!([PyData.str "odd", .str "even"].any fun z => PyData.eqv z d)) = true := by
        rw [List.any_cons, List.any_cons, h3, h4]
        rfl
      rw [hin]
      exact iteT (k _ e2)
end
end Lk


/-! ## W33 -/
set_option Elab.async false
set_option linter.all false
set_option maxRecDepth 100000
set_option maxHeartbeats 4000000
namespace Lk
open PySem PySem.Spec PyProof.Rows L2 Gx LamX NdefX
open GxR (TabG Tabbed TabB)
variable [Own]
abbrev s__law_word : Stmt := top 50
theorem sc__law_word : FnScope ["work", "e", "known", "words"] ["work"] (defScope s__law_word) := ⟨rfl, rfl, rfl, by decide +kernel, rfl, by decide +kernel, by decide +kernel⟩
/-- the errors that the law tells apart by a word -/
def errN8 (k : Nat) : Str := (["BadRules", "BadState", "BadLot", "BadRing", "BadWord", "BadHeld", "NoEven", "BadLine"] : List Str).getD k ""
def wordN8 (k : Nat) : Str := (["rules", "state", "lot", "ring", "word", "held", "even", "line"] : List Str).getD k ""
/-- what the written part says of the error at C, the i-th of these -/
structure WordG (K : PySem.W.Frag) (mg : Str → Option Value) (CF C : Addr) (Ad : Str → Addr) (i : Nat) : Prop where
  gF : mg "FolkError" = some (.ref CF)
  te : PySem.W.exmOne K (.ref C) (.ref CF) = some true
  ec : ExcC K C
  kW : mg "BadWeb" = some (.ref (Ad "BadWeb")) ∧ PySem.W.kitOne K (.ref C) (.ref (Ad "BadWeb")) = some false
  kN : ∀ k, k < 8 → mg (errN8 k) = some (.ref (Ad (errN8 k))) ∧ PySem.W.kitOne K (.ref C) (.ref (Ad (errN8 k))) = some (k == i)
  i8 : i < 8
/-- the suite of the except clause -/
def suiteOf8 : List Stmt → List Stmt
  | .Try _ [.ExceptHandler _ _ b _] _ _ _ :: _ => b
  | _ => []
abbrev wordSuite : List Stmt := suiteOf8 (defBody s__law_word)
section
variable {P : Program} {w : World} {K : PySem.W.Frag} {mg : Str → Option Value} {base : Heap} {Ps : List Addr} {CF C : Addr} {Ad : Str → Addr} {i : Nat}
theorem suite_ok8 {f a : Addr} {cdv cls : Value} {d : Option Addr} {A : Around} {outer : List Env} {s : Shared} {H : Hp} {oe : Obj} {pn : List (Addr × Obj)} (T : WordG K mg CF C Ad i) (B : Blt mg) (hz : Zc cls d oe) (hf : ∃ vs, oe.data = .fields vs) :
    PSs ((cxOf CX0 P w K mg base ["work", "e", "known", "words"] "_law_word" (defScope s__law_word) f cdv A outer s H C8.E0).nox.suite a ((a, oe) :: pn)) wordSuite
      (fun D σ H' => cls = .ref C ∧ d = none ∧ (∃ τ : L2.St, σ = τ.set 1 (some (.ref a))) ∧ ∀ H'', Ext H' H'' → D.rt (.str (wordN8 i)) H'') := by
  refine ⟨fun pins s' σ H' D I h => ?_⟩
  obtain ⟨rfl, rfl, ⟨τ, rfl⟩, k⟩ := h
  have h2 : (τ.set 1 (some (.ref a))).length = 4 := I.len
  have h1 : (τ.set 1 (some (.ref a)))[1]? = some (some (.ref a)) := List.getElem?_set_self (by rw [List.length_set] at h2; omega)
  generalize τ.set 1 (some (.ref a)) = σ at I h1 h2
  obtain ⟨o0, o1, o2, o3, rfl⟩ : ∃ o0 o1 o2 o3, σ = [o0, o1, o2, o3] := by
    match σ, h2 with
    | [o0, o1, o2, o3], _ => exact ⟨o0, o1, o2, o3, rfl⟩
  obtain rfl : o1 = some (.ref a) := Option.some.inj h1
  have key : ∃ t, PSs ((cxOf CX0 P w K mg base ["work", "e", "known", "words"] "_law_word" (defScope s__law_word) f cdv A outer s H C8.E0).nox.suite a ((a, oe) :: pn)) wordSuite t ∧ t D [o0, some (.ref a), o2, o3] H' := by
    refine ⟨_, (pss_cons (ps_if (pt_val (pe_callB (call_isE T.ec hz hf) (by rfl) B.isi boot_isinstance (pa_cons (pv 1) (pa_cons (pe_glob (v := .ref (Ad "BadWeb")) (by rfl) T.kW.1 rfl) pa_nil))))
        (pss_one ps_never) pss_nil)
      (pss_cons (ps_set (i := 2) sc__law_word.nd rfl (by first | exact Or.inl rfl | exact Or.inr rfl) (pe_lst (pa_cons (pe_callB (call_isE T.ec hz hf) (by rfl) B.isi boot_isinstance (pa_cons (pv 1) (pa_cons (pe_glob (v := .ref (Ad "BadRules")) (by rfl) (T.kN 0 (by decide)).1 rfl) pa_nil))) (pa_cons (pe_callB (call_isE T.ec hz hf) (by rfl) B.isi boot_isinstance (pa_cons (pv 1) (pa_cons (pe_glob (v := .ref (Ad "BadState")) (by rfl) (T.kN 1 (by decide)).1 rfl) pa_nil))) (pa_cons (pe_callB (call_isE T.ec hz hf) (by rfl) B.isi boot_isinstance (pa_cons (pv 1) (pa_cons (pe_glob (v := .ref (Ad "BadLot")) (by rfl) (T.kN 2 (by decide)).1 rfl) pa_nil))) (pa_cons (pe_callB (call_isE T.ec hz hf) (by rfl) B.isi boot_isinstance (pa_cons (pv 1) (pa_cons (pe_glob (v := .ref (Ad "BadRing")) (by rfl) (T.kN 3 (by decide)).1 rfl) pa_nil))) pa_nil))))))
      (pss_cons (ps_set (i := 2) sc__law_word.nd rfl (by first | exact Or.inl rfl | exact Or.inr rfl) (pe_op op_cat (pv 2) (pe_lst (pa_cons (pe_callB (call_isE T.ec hz hf) (by rfl) B.isi boot_isinstance (pa_cons (pv 1) (pa_cons (pe_glob (v := .ref (Ad "BadWord")) (by rfl) (T.kN 4 (by decide)).1 rfl) pa_nil))) (pa_cons (pe_callB (call_isE T.ec hz hf) (by rfl) B.isi boot_isinstance (pa_cons (pv 1) (pa_cons (pe_glob (v := .ref (Ad "BadHeld")) (by rfl) (T.kN 5 (by decide)).1 rfl) pa_nil))) (pa_cons (pe_callB (call_isE T.ec hz hf) (by rfl) B.isi boot_isinstance (pa_cons (pv 1) (pa_cons (pe_glob (v := .ref (Ad "NoEven")) (by rfl) (T.kN 6 (by decide)).1 rfl) pa_nil))) (pa_cons (pe_callB (call_isE T.ec hz hf) (by rfl) B.isi boot_isinstance (pa_cons (pv 1) (pa_cons (pe_glob (v := .ref (Ad "BadLine")) (by rfl) (T.kN 7 (by decide)).1 rfl) pa_nil))) pa_nil)))))))
      (pss_cons (ps_set (i := 3) sc__law_word.nd rfl (by first | exact Or.inl rfl | exact Or.inr rfl) (pe_lst (pa_cons pe_str (pa_cons pe_str (pa_cons pe_str (pa_cons pe_str (pa_cons pe_str (pa_cons pe_str (pa_cons pe_str (pa_cons pe_str pa_nil))))))))))
      (pss_one (ps_ret (pe_ifExp (pt_cmpR op_eq (pe_bmL PySem.F.plainAttrs_list PySem.F.slot_list_count PySem.F.type_list_count mt_cntF (pv 2) (pa_cons pe_bl pa_nil)) pe_int (nomark _)) (pe_ix ix_lT (pv 3) (pe_bmL PySem.F.plainAttrs_list PySem.F.slot_list_index PySem.F.type_list_index mt_index (pv 2) (pa_cons pe_bl pa_nil)) (fun _ _ => rfl)) pe_str))))))), ?_⟩
    refine ⟨_, rfl, _, _, false, rfl, fun _ h => h, T.kW.2, _, rfl, iteF ?_⟩
    refine ⟨_, rfl, _, _, _, rfl, fun _ h => h, (T.kN 0 (by decide)).2, _, rfl, _, _, _, rfl, fun _ h => h, (T.kN 1 (by decide)).2, _, rfl, _, _, _, rfl, fun _ h => h, (T.kN 2 (by decide)).2, _, rfl, _, _, _, rfl, fun _ h => h, (T.kN 3 (by decide)).2, (by show 4 ≤ sizeLine; decide), fun L1 hL1 => ?_⟩
    have X1 := Ext.new hL1 (.lst [V.bl (0 == i), .bl (1 == i), .bl (2 == i), .bl (3 == i)])
    refine ⟨_, rfl, _, rfl, _, _, _, rfl, fun _ h => h, (T.kN 4 (by decide)).2, _, rfl, _, _, _, rfl, fun _ h => h, (T.kN 5 (by decide)).2, _, rfl, _, _, _, rfl, fun _ h => h, (T.kN 6 (by decide)).2, _, rfl, _, _, _, rfl, fun _ h => h, (T.kN 7 (by decide)).2, (by show 4 ≤ sizeLine; decide), fun L2 hL2 => ?_⟩
    have X2 := Ext.new hL2 (.lst [V.bl (4 == i), .bl (5 == i), .bl (6 == i), .bl (7 == i)])
    refine ⟨L1, L2, _, _, rfl, rfl, X2.lst upd_same, upd_same, (by show 8 ≤ sizeLine; decide), fun L5 hL5 => ?_⟩
    have X5 := Ext.new hL5 (.lst ([V.bl (0 == i), .bl (1 == i), .bl (2 == i), .bl (3 == i)] ++ [V.bl (4 == i), .bl (5 == i), .bl (6 == i), .bl (7 == i)]))
    refine ⟨(by show 8 ≤ sizeLine; decide), fun L6 hL6 => ?_⟩
    have X6 := Ext.new hL6 (.lst [V.str "rules", .str "state", .str "lot", .str "ring", .str "word", .str "held", .str "even", .str "line"])
    have E6 := ((X1.trans X2).trans X5).trans X6
    have hS := X6.lst (upd_same (a := L5))
    have i11 := T.i8
    have eS : ([V.bl (0 == i), .bl (1 == i), .bl (2 == i), .bl (3 == i)] ++ [V.bl (4 == i), .bl (5 == i), .bl (6 == i), .bl (7 == i)]) = (List.range 8).map fun k => V.bl (k == i) := rfl
    have i12 : i = 0 ∨ i = 1 ∨ i = 2 ∨ i = 3 ∨ i = 4 ∨ i = 5 ∨ i = 6 ∨ i = 7 := by omega
    refine ⟨_, rfl, ⟨L5, _, rfl, hS⟩, L5, _, .bl true, rfl, rfl, SqL.of hS, rfl, rfl, rfl, _, rfl, ?_⟩
    refine ite2 (fun _ => ?_) (fun hc => absurd ?_ hc)
    · refine ⟨_, rfl, _, rfl, ⟨L5, _, rfl, hS⟩, L5, _, .bl true, i, .bl true, rfl, rfl, SqL.of hS, rfl, rfl, ?_, rfl, fun m z' hm hz => ?_, L6, _, _, .str (wordN8 i), rfl, rfl, upd_same, at_of (j := i) rfl ?_, k _ E6⟩
      · rw [eS, List.getElem?_map, List.getElem?_range i11]
        show some (V.bl (i == i)) = _
        rw [beq_self_eq_true]
      · rw [eS, List.getElem?_map, List.getElem?_range (by omega)] at hz
        cases hz
        have e : (m == i) = false := by
          rw [beq_eq_false_iff_ne]
          omega
        show _ = false
        simp only [e]
        rfl
      · rcases i12 with e | e | e | e | e | e | e | e <;> (subst e; rfl)
    · rcases i12 with e | e | e | e | e | e | e | e <;> (subst e; decide +kernel)
  obtain ⟨t, ht, hq⟩ := key
  exact ht.run pins s' _ H' D I hq
end
/-- a try, by a name -/
def tTryN8 (tb : WX → TS) (K : PySem.W.Frag) (c : Value) (i : Nat) (ts : Addr → Value → Option Addr → TS) (Wout : WX) : TS := fun D σ H => tb (wAs K c i ts Wout D) D σ H
theorem ps_tryN8 {X : Cx} {x n : Str} {c : Value} {i : Nat} {body suite : List Stmt} {b₀ : Stmt} {np pos pos' : Pos} {tb : WX → TS} {ts : Addr → Value → Option Addr → TS} {Wout : WX} (hs : X.stack = X.env :: X.outer) (hf : X.env.frame = some X.env.locals) (hN : X.N.Nodup) (hi : X.N[i]? = some n) (hln : X.env.kindOf n = some .local) (hc : Names X x c) (tk : Takes X Wout)
    (hb : ∀ (W : WX) (pn : List (Addr × Obj)) (xe : Value → Shared → Prop), Takes (X.tr pn xe) W → PassesOwn (model X.prog X.w) X.A X.env xe → PSs (X.tr pn xe) body (tb W))
    (hsu : ∀ (a : Addr) (oe : Obj) (cls : Value) (d : Option Addr) (pn : List (Addr × Obj)), Zc cls d oe → (∃ vs, oe.data = .fields vs) → PSs (X.suite a ((a, oe) :: pn)) (b₀ :: suite) (ts a cls d)) :
    PS X (.Try body [.ExceptHandler (some (.Name x np)) (some n) (b₀ :: suite) pos'] [] [] pos) (tTryN8 tb X.K c i ts Wout) := ps_try_as hs hf hN hi hln hc tk hb hsu
/-- what the def that tells errors makes of a lambda that raises the one at C -/
def TTref8 (C : Addr) (wd : Str) : (XK → Hp → VK → Prop) → Hp → VK → Prop := fun tl H Q => ∀ Qx, tl (fun cls d H' => cls = .ref C ∧ d = none ∧ ∀ H'', Ext H' H'' → Q (.str wd) H'') H Qx
theorem word_gives {X : Cx} {CF C g : Addr} {Ad : Str → Addr} {i : Nat} {cdv : Value} {q : Str} (T : WordG X.K X.mg CF C Ad i) (B : Blt X.mg) :
    GivesTo X ["work", "e", "known", "words"] "_law_word" (defScope s__law_word) g cdv (defBody s__law_word) "work" q (TTref8 C (wordN8 i)) := by
  intro f c' s H Q tl act hc h
  refine ⟨_, pss_cons (ps_tryN8 (X := (cxOf C8.CX0 X.prog X.w X.K X.mg X.base ["work", "e", "known", "words"] "_law_word" (defScope s__law_word) g cdv X.A X.stack s H C8.E0).nox) (c := .ref CF) (i := 1)
    (tb := fun W D σ H => ∃ Ech : XK, (∀ cls d σ' H', Ech cls d H' → W cls d σ' H') ∧ σ[0]? = some (some (.ref f)) ∧ H c' = some (CodeO c' q) ∧ tl Ech H (fun _ H1 => D.nx σ H1)) (Wout := fun _ _ _ _ => False)
    rfl rfl sc__law_word.nd rfl rfl ⟨rfl, by decide, .inl T.gF⟩ L2.takes0 (fun W pn xe tk _ => ?_) (fun a oe cls d pn hz hf => suite_ok8 T B hz hf)) (pss_one (ps_ret pe_str)), ?_⟩
  · refine ⟨fun pins s' σ H' D I h' => ?_⟩
    obtain ⟨Ech, hW, h1, h2, h3⟩ := h'
    have hp := fun p1 p2 => act W pn xe Ech p1 p2 tk hW
    exact (pss_one (ps_expr (hp _ _))).run pins s' σ H' D I ⟨h1, h2, h3⟩
  · exact ⟨fun cls d H' => cls = .ref C ∧ d = none ∧ ∀ H'', Ext H' H'' → Q (.str (wordN8 i)) H'', fun cls d σ' H' ⟨e1, e2, e3⟩ => ⟨true, by rw [e1]; exact T.te, fun _ a _ => ⟨e1, e2, ⟨σ', rfl⟩, e3⟩, fun z => by cases z⟩, rfl, hc, h _⟩
end Lk


/-! ## EndW -/
set_option Elab.async false
set_option linter.all false
set_option maxRecDepth 100000
set_option maxHeartbeats 4000000
/-! The end of a law whose helpers make lambdas and that tells errors by a word. -/
namespace Lk
open PySem PySem.Spec PyProof.Rows L2 Gx
def addrOf (mg : Str → Option Value) (x : Str) : Addr := match mg x with
  | some (.ref a) => a
  | _ => 0
theorem addr_of {mg : Str → Option Value} {x : Str} {A : Addr} (h : mg x = some (.ref A)) : addrOf mg x = A := by
  unfold addrOf
  rw [h]
/-- an error class of the module: whether the one at CE is of it -/
structure ErrG (K : PySem.W.Frag) (x : Str) (CE : Addr) (b : Bool) (A : Addr) : Prop where
  n : PySem.W.nsIn K mainGlobals x = some (some (.ref A))
  e : PySem.W.kitOne K (.ref CE) (.ref A) = some b
/-- the class of them all -/
structure FolkG (K : PySem.W.Frag) (CF CE : Addr) : Prop where
  n : PySem.W.nsIn K mainGlobals "FolkError" = some (some (.ref CF))
  s : PySem.W.subIn K (.ref CF) (.type "BaseException") = some true
  d : PySem.W.hasDictIn K CF = true
  t : PySem.W.typeIn K (.ref CF) = some (.type "type")
  e : PySem.W.subIn K (.ref CE) (.ref CF) = some true
theorem wordG {K : PySem.W.Frag} {h : Heap} {mg : Str → Option Value} {CF CE : Addr} {i : Nat} (X : K.In h) (G : h.Ns mainGlobals mg) (F : FolkG K CF CE) (EE : ExcC K CE) (i8 : i < 8)
    (xw : ∃ a, ErrG K "BadWeb" CE false a) (xn : ∀ k, k < 8 → ∃ a, ErrG K (errN8 k) CE (k == i) a) : WordG K mg CF CE (addrOf mg) i := by
  refine ⟨PySem.W.mg_of X G F.n, PySem.W.exm_ref F.s F.d F.t F.e, EE, ?_, fun k hk => ?_, i8⟩
  · obtain ⟨a, z⟩ := xw
    have hm := PySem.W.mg_of X G z.n
    rw [addr_of hm]
    exact ⟨hm, z.e⟩
  · obtain ⟨a, z⟩ := xn k hk
    have hm := PySem.W.mg_of X G z.n
    rw [addr_of hm]
    exact ⟨hm, z.e⟩
section
variable {P : Program} {w : World} {K : PySem.W.Frag} {mg : Str → Option Value} {base h : Heap} {x : Str} {st : Stmt} {q : Program} {CX : CXT} {k : Nat} {ps : List Str} {sp : Sp}
theorem TabAt.calL [Own] {c T : Addr} (A : TabAt K mg h x st c T) (tb : LamX.TabB base mg c T)
    (hb : ∀ (kV doc pm : Value) (an : Option Addr) (cdv ct : Value) (us : List Value), us.length = ps.length → bindArgs (PySem.W.fnOf x x (defArgs st) (defBody st) (defScope st) .none kV doc pm an cdv ct) ⟨us, []⟩ = pure (ps.zip us))
    (ok : ∀ f fd, FunL K mg base x st f fd T → FnOk P w K mg base CX k f fd ps sp) : Cal P w K mg base CX k x ps sp := by
  obtain ⟨f, fd, hm, F, oc, od, kV, doc, pm, an, ct, osl, e, lk, hcd⟩ := A.fn
  exact ⟨f, fd, hm, F.kp, F.binds hb, ok f fd ⟨⟨oc, od, kV, doc, pm, an, c, ct, osl, e, lk, hcd, tb⟩⟩⟩
theorem FnAt.gcalE (A : FnAt K x st) (X : K.In h) (G : h.Ns mainGlobals mg)
    (hb : ∀ (kV doc pm : Value) (an : Option Addr) (cdv ct : Value) (us : List Value), us.length = ps.length → bindArgs (PySem.W.fnOf x x (defArgs st) (defBody st) (defScope st) .none kV doc pm an cdv ct) ⟨us, []⟩ = pure (ps.zip us)) : GCal K mg x st ps := by
  obtain ⟨f, fd, n, F⟩ := A.ex
  exact ⟨f, fd, PySem.W.mg_of X G n, F.kp, F.binds hb, F⟩
end
end Lk

/-! ## MinD -/
set_option Elab.async false
set_option linter.all false
set_option maxRecDepth 100000
set_option maxHeartbeats 2000000
/-! min of a list of (a number, a number, a tuple of numbers). -/
namespace Lk
open PySem PySem.Spec PyProof.Rows L2 Gx
/-- such a triple, as data -/
def key3 (r : Int × Int × List Int) : PyData := .tuple [.int r.1, .int r.2.1, .tuple (r.2.2.map .int)]
theorem lt3_irrefl (x : PyData) : PySem.W.dataLt x x = false := PyProof.Rows.lex_irrefl _
theorem minD_least : ∀ (xs : List PyData) (x : PyData), PySem.W.minD x xs ∈ x :: xs ∧ ∀ y ∈ x :: xs, PySem.W.dataLt y (PySem.W.minD x xs) = false := by
  suffices h : ∀ (xs seen : List PyData) (a : PyData), a ∈ seen → (∀ y ∈ seen, PySem.W.dataLt y a = false) → PySem.W.minD a xs ∈ seen ++ xs ∧ ∀ y ∈ seen ++ xs, PySem.W.dataLt y (PySem.W.minD a xs) = false by
    intro xs x
    exact h xs [x] x (List.mem_singleton.mpr rfl) fun y hy => by rw [List.mem_singleton.mp hy]; exact lt3_irrefl _
  intro xs
  induction xs with
  | nil =>
    intro seen a ha hs
    rw [List.append_nil]
    exact ⟨ha, hs⟩
  | cons y xs ih =>
    intro seen a ha hs
    have e : seen ++ y :: xs = (seen ++ [y]) ++ xs := by rw [List.append_assoc] <;> rfl
    rw [e]
    show PySem.W.minD (if PySem.W.dataLt y a = true then y else a) xs ∈ _ ∧ ∀ z ∈ _, PySem.W.dataLt z (PySem.W.minD (if PySem.W.dataLt y a = true then y else a) xs) = false
    refine ih (seen ++ [y]) _ ?_ ?_
    · by_cases h : PySem.W.dataLt y a = true
      · rw [if_pos h]
        exact List.mem_append_right _ (List.mem_singleton.mpr rfl)
      · rw [if_neg h]
        exact List.mem_append_left _ ha
    · intro z hz
      by_cases h : PySem.W.dataLt y a = true
      · rw [if_pos h]
        rcases List.mem_append.mp hz with q | q
        · have := hs z q
          rw [← Bool.not_eq_true]
          intro w
          have t := PyProof.Rows.lex_trans _ _ _ w h
          unfold PySem.W.dataLt at this
          rw [t] at this
          cases this
        · rw [List.mem_singleton.mp q]
          exact lt3_irrefl _
      · rw [if_neg h]
        rcases List.mem_append.mp hz with q | q
        · exact hs z q
        · rw [List.mem_singleton.mp q]
          simpa using h
variable [Own]
theorem lt3 (x y : Int × Int × List Int) : PySem.W.dataLt (key3 x) (key3 y) = if x.1 = y.1 then (if x.2.1 = y.2.1 then PySem.W.dataLt (.tuple [.tuple (x.2.2.map .int)]) (.tuple [.tuple (y.2.2.map .int)]) else decide (x.2.1 < y.2.1)) else decide (x.1 < y.1) := by
  unfold key3
  rw [PySem.W.dataLt_tuple, PySem.W.dataLt_cons (by simp [PySem.W.alike]), PySem.W.dataLt_cons (by simp [PySem.W.alike]), PySem.W.dataLt_int, PySem.W.dataLt_int, eqv_ii, eqv_ii, PySem.W.dataLt_tuple]
  by_cases h1 : x.1 = y.1
  · rw [if_pos (decide_eq_true h1), if_pos h1]
    by_cases h2 : x.2.1 = y.2.1
    · rw [if_pos (decide_eq_true h2), if_pos h2]
    · rw [if_neg (by rw [decide_eq_false h2]; decide), if_neg h2]
  · rw [if_neg (by rw [decide_eq_false h1]; decide), if_neg h1]
/-- the number first, then how many, then the order -/
def trip (g : List Int → Int) (l : List Nat) : Int × Int × List Int := (g (lotI l), (l.length : Int), lotI l)
theorem trip_lt {g : List Int → Int} {a b : List Nat} (e : g (lotI a) = g (lotI b)) (h : kltN a b) : PySem.W.dataLt (key3 (trip g a)) (key3 (trip g b)) = true := by
  rw [lt3]
  unfold trip
  rw [if_pos e]
  rcases h with h | ⟨e2, h⟩
  · rw [if_neg (by show ¬ ((a.length : Int) = b.length); omega)]
    exact decide_eq_true (by show (a.length : Int) < b.length; omega)
  · rw [if_pos (by show (a.length : Int) = b.length; omega), PySem.W.dataLt_tuple, PySem.W.dataLt_cons (by simp only [PySem.W.alike]; exact PySem.W.alike_ints _ _)]
    have z := lotI_toks h
    have ne : PyData.eqv (.tuple ((lotI a).map .int)) (.tuple ((lotI b).map .int)) = false := by
      rw [show PyData.eqv (.tuple ((lotI a).map .int)) (.tuple ((lotI b).map .int)) = decide (lotI a = lotI b) from eqv_tt _ _]
      refine decide_eq_false fun q => ?_
      rw [q, PyProof.Rows.lex_irrefl] at z
      cases z
    show (if PyData.eqv (.tuple ((lotI a).map .int)) (.tuple ((lotI b).map .int)) = true then _ else PySem.W.dataLt (.tuple ((lotI a).map .int)) (.tuple ((lotI b).map .int))) = true
    rw [ne, if_neg (by decide), PySem.W.dataLt_tuple]
    exact z
/-- the least triple: the least number, the first lot that has it -/
theorem trip_least {g : List Int → Int} {L : List (List Nat)} (hL : L.Pairwise kltN) {l : List Nat} (hl : l ∈ L) (hm : ∀ k ∈ L, PySem.W.dataLt (key3 (trip g k)) (key3 (trip g l)) = false) : (∀ k ∈ L, g (lotI l) ≤ g (lotI k)) ∧ (L.filter fun k => g (lotI k) == g (lotI l)).head? = some l := by
  constructor
  · intro k hk
    have := hm k hk
    rw [lt3] at this
    by_cases e : (trip g k).1 = (trip g l).1
    · have e : g (lotI k) = g (lotI l) := e
      omega
    · rw [if_neg e] at this
      have : ¬ (g (lotI k) < g (lotI l)) := of_decide_eq_false this
      omega
  · have hmem : l ∈ L.filter fun k => g (lotI k) == g (lotI l) := List.mem_filter.mpr ⟨hl, beq_self_eq_true _⟩
    have hp : (L.filter fun k => g (lotI k) == g (lotI l)).Pairwise kltN := hL.filter _
    cases e : L.filter fun k => g (lotI k) == g (lotI l) with
    | nil => rw [e] at hmem; cases hmem
    | cons k r =>
      rw [e] at hmem hp
      rcases List.mem_cons.mp hmem with q | q
      · rw [q] <;> rfl
      · have hk : k ∈ L.filter fun k => g (lotI k) == g (lotI l) := by rw [e]; exact List.mem_cons_self ..
        obtain ⟨h1, h2⟩ := List.mem_filter.mp hk
        have z := trip_lt (beq_iff_eq.mp h2) ((List.pairwise_cons.mp hp).1 l q)
        rw [hm k h1] at z
        cases z
/-- such a triple in the heap -/
def TrI : Hp → V → Int × Int × List Int → Prop := fun H v r => ∃ p q, v = .ref p ∧ H p = some (.tup [.int r.1, .int r.2.1, .ref q]) ∧ H q = some (.tup (iv r.2.2))
theorem TrI.dp {K : PySem.W.Frag} {H : Hp} {v : V} {r : Int × Int × List Int} (h : TrI H v r) : Dp K H v (key3 r) := by
  obtain ⟨p, q, rfl, h1, h2⟩ := h
  exact .tup (SqT.of h1) (.cons (.int _) (.cons (.int _) (.cons (Lk.TI.dp ⟨q, rfl, h2⟩) .nil)))
theorem triple_dps {K : PySem.W.Frag} {H : Hp} : ∀ {xs : List V} {rows : List (Int × Int × List Int)}, Paired (TrI H) xs rows → DpAll K H xs (rows.map key3)
  | _, _, .nil => .nil
  | _, _, .cons h t => .cons h.dp (triple_dps t)
theorem depth3 : ∀ rows : List (Int × Int × List Int), PyData.depthAll (rows.map key3) ≤ 3
  | [] => Nat.zero_le _
  | r :: rows => by
    show max (key3 r).depth (PyData.depthAll (rows.map key3)) ≤ 3
    refine Nat.max_le.mpr ⟨?_, depth3 rows⟩
    unfold key3
    simp only [PyData.depth, PyData.depthAll, depth_ints]
    decide
def rMinM : List V → Hp → VK → Prop := fun vs H Q => ∃ (a : Addr) (xs : List V) (rows : List (Int × Int × List Int)), vs = [.ref a] ∧ H a = some (.lst xs) ∧ Paired (TrI H) xs rows ∧ rows ≠ [] ∧
  ∀ v r, r ∈ rows → TrI H v r → (∀ y ∈ rows, PySem.W.dataLt (key3 y) (key3 r) = false) → Q v H
theorem key3_inj {x y : Int × Int × List Int} (h : key3 x = key3 y) : x = y := by
  obtain ⟨a, b, c⟩ := x
  obtain ⟨a', b', c'⟩ := y
  unfold key3 at h
  injection h with h
  injection h with h1 h
  injection h with h2 h
  injection h with h3 h
  injection h1 with h1
  injection h2 with h2
  injection h3 with h3
  have : c = c' := (List.map_inj_right (f := PyData.int) fun x y e => by injection e).mp h3
  rw [show a = a' from h1, show b = b' from h2, this]
theorem triple_reads {X : Cx} {pins : List (Addr × Obj)} {σ : L2.St} {H : Hp} {s : Shared} (I : Inv X pins σ H s) : ∀ {xs : List V} {its : List Value} {rows : List (Int × Int × List Int)}, Paired (TrI H) xs rows → Vals xs its → ∃ as, ReadsAll s.heap its (rows.map key3) as
  | _, _, _, .nil, .nil => ⟨_, .nil⟩
  | _, _, _, .cons h t, .cons r rs => by
    obtain ⟨as, h1⟩ := Dp.reads I _ _ _ h.dp r
    obtain ⟨bs, h2⟩ := triple_reads I t rs
    exact ⟨_, .cons h1 h2⟩
theorem cr_minM {X : Cx} (hc : X.calm = true) (hu : X.A.units + 64 < cLine) : CallR X (.builtin "min") rMinM := by
  intro pins s σ H vs us Q I r h
  obtain ⟨a, xs, rows, rfl, ha, hp, hne, q⟩ := h
  obtain ⟨its, rv, hl, hz⟩ := I.list (SqL.of ha)
  rw [Vals.ref1 r]
  obtain ⟨as, hr⟩ := triple_reads I hp rv
  have hk3 : ∀ x ∈ rows.map key3, ∃ y, x = key3 y := fun x hx => by
    obtain ⟨y, _, e⟩ := List.mem_map.mp hx
    exact ⟨y, e.symm⟩
  cases rows with
  | nil => exact absurd rfl hne
  | cons r0 rows =>
    refine PySem.W.min_list_data (I.ok.hd hc) hl.isList (x := key3 r0) (xs := rows.map key3) hr ⟨fun x hx y hy => ?_, fun x hx => ?_⟩ ?_ fun i v h' tk bs hv hrd hk => ?_
    · obtain ⟨x, rfl⟩ := hk3 x hx
      obtain ⟨y, rfl⟩ := hk3 y hy
      unfold key3
      simp only [PySem.W.alike, PySem.W.alikeAll, Bool.true_and, Bool.and_true]
      exact PySem.W.alike_ints _ _
    · obtain ⟨x, rfl⟩ := hk3 x hx
      intro z
      cases z
    · have := depth3 (r0 :: rows)
      rw [List.map_cons] at this
      omega
    · have hv' : its[i]? = some v := by simpa using hv
      have hi := (List.getElem?_eq_some_iff.mp hv').1
      have hlen := rv.length
      have hx : xs[i]? = some xs[i] := List.getElem?_eq_getElem (by omega)
      obtain ⟨u, hu, ru⟩ := rv.get hx
      rw [hv'] at hu
      cases hu
      obtain ⟨row, hrow, ht⟩ := paired_get' hp hx
      obtain ⟨bs2, hrd2⟩ := Dp.reads I _ _ _ ht.dp ru
      have ek := (PyProof.Rows.reads_det (fun b o e _ => hk b o e) hrd2 hrd).1
      obtain ⟨m1, m2⟩ := minD_least (rows.map key3) (key3 r0)
      rw [ek] at m2
      refine ⟨xs[i], H, I.kept (t' := tk) fun b u e => hk b u e, ru, q _ row (List.mem_of_getElem? hrow) ht fun y hy => ?_⟩
      refine m2 _ ?_
      rw [← List.map_cons]
      exact List.mem_map.mpr ⟨y, hy, rfl⟩
end Lk

/-! ## SortP -/
set_option Elab.async false
set_option linter.all false
set_option maxRecDepth 100000
set_option maxHeartbeats 2000000
/-! sorted of a list of (how many, a tuple of ints). -/
namespace Lk
open PySem PySem.Spec PyProof.Rows L2 Gx
variable [Own]
/-- such a pair -/
def PrI : Hp → V → List Int → Prop := fun H v l => ∃ p q, v = .ref p ∧ H p = some (.tup [.int (l.length : Int), .ref q]) ∧ H q = some (.tup (iv l))
theorem PrI.dp {K : PySem.W.Frag} {H : Hp} {v : V} {l : List Int} (h : PrI H v l) : Dp K H v (keyD l) := by
  obtain ⟨p, q, rfl, h1, h2⟩ := h
  exact .tup (SqT.of h1) (.cons (.int _) (.cons (Lk.TI.dp ⟨q, rfl, h2⟩) .nil))
def rSortP : List V → Hp → VK → Prop := fun vs H Q => ∃ (a : Addr) (xs : List V) (rows : List (List Int)), vs = [.ref a] ∧ H a = some (.lst xs) ∧ Paired (PrI H) xs rows ∧
  ∀ p ys, H p = none → Paired (PrI H) ys (sortKL rows) → Q (.ref p) (upd H p (.lst ys))
theorem both_ofP {H : Hp} : ∀ {xs : List V} {its : List Value} {rows : List (List Int)}, Vals xs its → Paired (PrI H) xs rows → ∃ bs : List (V × List Int), bs.map (·.1) = xs ∧ bs.map (·.2) = rows ∧ PySem.W.EachIs (fun v (b : V × List Int) => RelV b.1 v ∧ PrI H b.1 b.2) its bs
  | _, _, _, .nil, .nil => ⟨[], rfl, rfl, .nil⟩
  | x :: _, _, r :: _, .cons h1 t1, .cons h2 t2 => by
    obtain ⟨bs, e1, e2, e3⟩ := both_ofP t1 t2
    exact ⟨(x, r) :: bs, by rw [List.map_cons, e1], by rw [List.map_cons, e2], .cons ⟨h1, h2⟩ e3⟩
theorem of_bothP {H : Hp} : ∀ {its : List Value} {bs : List (V × List Int)}, PySem.W.EachIs (fun v (b : V × List Int) => RelV b.1 v ∧ PrI H b.1 b.2) its bs → Vals (bs.map (·.1)) its ∧ Paired (PrI H) (bs.map (·.1)) (bs.map (·.2))
  | _, _, .nil => ⟨.nil, .nil⟩
  | _, _, .cons h t => by
    obtain ⟨a, b⟩ := of_bothP t
    exact ⟨.cons h.1 a, .cons h.2 b⟩
theorem cr_sortP {X : Cx} (hu : X.A.units + 64 < cLine) : CallR X (.builtin "sorted") rSortP := by
  intro pins s σ H vs us Q I r h
  obtain ⟨a, xs, rows, rfl, ha, hp, q⟩ := h
  obtain ⟨its, rv, hl, hz⟩ := I.list (SqL.of ha)
  rw [Vals.ref1 r]
  obtain ⟨bs, e1, e2, e3⟩ := both_ofP rv hp
  refine PySem.W.sorted_data (enc := fun b : V × List Int => keyD b.2) hl.isList e3 (e3.mono fun v b hb => ?_) (PySem.W.AllAlike.of fun b b' => ?_) (.inl fun d hd => ?_) (by rw [← List.length_map (f := (·.1)), e1]; exact hz) (fun b hb => ?_) fun out hlen ho => ?_
  · exact Dp.reads I _ _ _ hb.2.dp hb.1
  · unfold keyD
    simp only [PySem.W.alike, PySem.W.alikeAll, Bool.true_and, Bool.and_true]
    exact PySem.W.alike_ints _ _
  · obtain ⟨b, hb, rfl⟩ := List.mem_map.mp hd
    exact ⟨_, _, rfl⟩
  · show X.A.units + 2 + (keyD b.2).depth < cLine
    unfold keyD
    simp only [PyData.depth, PyData.depthAll, depth_ints]
    omega
  · obtain ⟨ep, he'⟩ := PyProof.Rows.sortedAll_at s.heap its out.toArray
    obtain ⟨k1, k2⟩ := of_bothP ho
    have e4 : (bs.mergeSort (PySem.W.dataLe false fun b : V × List Int => keyD b.2)).map (·.2) = sortKL rows := by
      unfold sortKL
      rw [← e2]
      exact PySem.W.sort_maps _ fun _ _ _ _ => rfl
    rw [e4] at k2
    have hl2 : ((bs.mergeSort (PySem.W.dataLe false fun b : V × List Int => keyD b.2)).map (·.1)).length ≤ sizeLine := by
      rw [List.length_map, List.length_mergeSort, ← List.length_map (f := (·.1)), e1]
      exact hz
    exact ⟨.ref _, upd H (s.heap.objs.size + 1) (.lst _), I.laid (t' := s.toks) (fun _ _ => PyProof.Rows.sortedAll_old) (Nat.le_succ _) ⟨hl2, out, ep, k1, he'⟩, rfl, q _ _ (I.hok.fresh (Nat.le_succ _)) k2⟩
end Lk

/-! ## W31 -/
set_option Elab.async false
set_option linter.all false
set_option maxRecDepth 100000
set_option maxHeartbeats 4000000
namespace Lk
open PySem PySem.Spec PyProof.Rows L2 Gx
open GxR (TabG Tabbed)
variable [Own]
abbrev s__law_lots : Stmt := top 48
theorem sc__law_lots : FnScope ["many", "found", "one", "lot", "size"] ["many"] (defScope s__law_lots) := ⟨rfl, rfl, rfl, by decide +kernel, rfl, by decide +kernel, by decide +kernel⟩
theorem ll_cat {H : Hp} {z u : Addr} {xs : List V} {y : V} {Q : VK} (hz : H z = some (.tup xs)) (hu : H u = none) (hl : xs.length ≤ 10000) (k : ∀ H7 r, Ext H H7 → H7 r = some (.tup (xs ++ [y])) → Q (.ref r) H7) :
    rCatT (.ref z) (.ref u) (upd H u (.tup [y])) Q := by
  have hzu : z ≠ u := ne_of_none hz hu
  refine ⟨z, u, xs, _, rfl, rfl, by rw [upd_ne hzu]; exact hz, upd_same, by show xs.length + 1 ≤ sizeLine; exact Nat.le_trans (show xs.length + 1 ≤ 10001 by omega) (by decide), fun e0 => ?_, (fun _ e0 => by cases e0), fun e0 _ v hv => ?_⟩
  · refine k _ _ (Ext.new hu _) ?_
    subst e0
    exact upd_same
  · exact k _ _ ((Ext.new hu _).trans (Ext.new hv _)) upd_same
def lotsI (n : Nat) : List (List Int) := (allLots n).map lotI
theorem stPr : Stays PrI := ⟨fun e h => by
  obtain ⟨p, q, e1, h1, h2⟩ := h
  exact ⟨p, q, e1, e.tup h1, e.tup h2⟩, fun {H D acc o v a} hD h => by
  obtain ⟨p, q, e1, h1, h2⟩ := h
  exact ⟨p, q, e1, by rw [upd_ne (ne_of hD h1 (by intro z; cases z)).symm]; exact h1, by rw [upd_ne (ne_of hD h2 (by intro z; cases z)).symm]; exact h2⟩⟩
def spLawLots2 : Sp := fun vs H Q _ => ∃ n : Nat, vs = [.int (n : Int)] ∧ n ≤ 14 ∧ ∀ H' q us, Ext H H' → H q = none → H' q = some (.lst us) → Paired (TI H') us (lotsI n) → Q (.ref q) H'
section
variable {P : Program} {w : World} {K : PySem.W.Frag} {mg : Str → Option Value} {base : Heap} {Ps : List Addr} {T : Addr}
theorem ok_law_lots2 {f : Addr} {fd : FuncData} (F : Fun K "_law_lots" "_law_lots" s__law_lots f fd) (B : Blt mg) : FnOk P w K mg base CX0 1 f fd ["many"] spLawLots2 := by
  refine F.ok sc__law_lots (fun vs H Q E h => ?_) (fun cdv A outer s0 H vs Q E hr h => ?_)
  · obtain ⟨n, rfl, _⟩ := h
    rfl
  · obtain ⟨n, rfl, hn, k⟩ := h
    refine ⟨_, (pss_cons (ps_set (i := 1) sc__law_lots.nd rfl (by first | exact Or.inl rfl | exact Or.inr rfl) (pe_lst (pa_cons (pe_tup pa_nil) pa_nil)))
      (pss_cons (ps_for PassesOwn.never rfl (pi_range1 (by rfl) B.range (pa_cons (pv 0) pa_nil)) (pg_name (i := 2) sc__law_lots.nd rfl (by first | exact Or.inl rfl | exact Or.inr rfl))
        (pss_one (ps_set (i := 1) sc__law_lots.nd rfl (by first | exact Or.inl rfl | exact Or.inr rfl) (pe_op op_cat (pv 1) (pe_lc (own := [("lot", 3)]) rfl sc__law_lots.nd (pi_list (pv 1)) (blkOk_by (N := ["many", "found", "one", "lot", "size"]) (sc := defScope s__law_lots) (by decide +kernel)) (fun _ _ _ _ _ => (pg_name (i := 3) sc__law_lots.nd rfl (by first | exact Or.inl rfl | exact Or.inr rfl))) (fun _ _ _ _ _ => pts_nil) (fun _ _ _ _ _ => (pe_op op_catTT (pv 3) (pe_tup (pa_cons (pv 2) pa_nil)))))))))
      (pss_one (ps_ret (pe_lc (own := [("size", 4), ("lot", 3)]) rfl sc__law_lots.nd (pi_list (pe_callB (cr_sortP hr.units) (by rfl) B.sorted boot_sorted (pa_cons (pe_lc (own := [("lot", 3)]) rfl sc__law_lots.nd (pi_list (pv 1)) (blkOk_by (N := ["many", "found", "one", "lot", "size"]) (sc := defScope s__law_lots) (by decide +kernel)) (fun _ _ _ _ _ => (pg_name (i := 3) sc__law_lots.nd rfl (by first | exact Or.inl rfl | exact Or.inr rfl))) (fun _ _ _ _ _ => pts_nil) (fun _ _ _ _ _ => (pe_tup (pa_cons (pe_callB call_lenT (by rfl) B.len PySem.boot_len (pa_cons (pv 3) pa_nil)) (pa_cons (pv 3) pa_nil))))) pa_nil))) (blkOk_by (N := ["many", "found", "one", "lot", "size"]) (sc := defScope s__law_lots) (by decide +kernel)) (fun _ _ _ _ _ => (pg_tupT (n := 2) rfl (pgs_cons (pg_name (i := 4) sc__law_lots.nd rfl (by first | exact Or.inl rfl | exact Or.inr rfl)) (pgs_cons (pg_name (i := 3) sc__law_lots.nd rfl (by first | exact Or.inl rfl | exact Or.inr rfl)) pgs_nil)))) (fun _ _ _ _ _ => pts_nil) (fun _ _ _ _ _ => (pv 3))))))), ?_⟩
    refine ⟨(by show 0 ≤ sizeLine; decide), fun q0 hq0 => ⟨(by show 1 ≤ sizeLine; decide), fun L0 hL0 => ?_⟩⟩
    have eq0 := Ext.new hq0 (.tup [])
    have eL0 := Ext.new hL0 (.lst [.ref q0])
    have hqx := eL0.tup (show (upd H q0 (.tup [])) q0 = some (.tup []) from upd_same)
    have hLx : (upd (upd H q0 (.tup [])) L0 (.lst [.ref q0])) L0 = some (.lst [.ref q0]) := upd_same
    have Eb := eq0.trans eL0
    generalize upd (upd H q0 (.tup [])) L0 (.lst [.ref q0]) = Hb at Eb hqx hLx ⊢
    have en : ((n : Int)).toNat = n := by omega
    refine ⟨_, rfl, _, rfl, by omega, by omega, ?_⟩
    rw [en]
    have pow : ∀ i, i ≤ 14 → 2 ^ i ≤ 16384 := fun i h => Nat.le_trans (Nat.pow_le_pow_right (by decide) h) (by decide)
    refine for_range (lo := 0) (n := n) (fun i σ H' => ∃ (Lf : Addr) (fv : List V) (o2 o3 o4 : Option V), σ = [some (.int (n : Int)), some (.ref Lf), o2, o3, o4] ∧ Ext Hb H' ∧ H' Lf = some (.lst fv) ∧ Paired (TI H') fv ((subsN i).map lotI))
      ⟨L0, _, _, _, _, rfl, Ext.refl _, hLx, .cons ⟨q0, rfl, hqx⟩ .nil⟩ ?_ ?_
    · rintro i σ H1 hi ⟨Lf, fv, o2, o3, o4, rfl, E1, hLf, hfv⟩
      have lfv : fv.length = 2 ^ i := by rw [paired_len hfv, List.length_map, subs_len]
      have p1 := pow i (by omega)
      have ei : (0 : Int) + (i : Int) = (i : Int) := Int.zero_add _
      refine ⟨_, rfl, _, rfl, Lf, rfl, ⟨_, SqL.of hLf⟩, fun D hD => ?_⟩
      refine lc_fmL (R := TI) (S := TI) stTI stTI (fun l => some (l ++ [(i : Int)])) hD hLf hfv (Nat.le_trans (show fv.length ≤ 16384 by omega) (by decide)) (fun x l H2 Ky Kn e2 hmem hx k1 k2 => ?_) fun H2 acc e2 hacc hp => ?_
      · obtain ⟨z, rfl, hz⟩ := hx
        obtain ⟨l0, hl0, rfl⟩ := List.mem_map.mp hmem
        have hlen : l0.length ≤ 14 := by
          have hm := mem_subs.mp hl0
          have hm2 : l0 ∈ Cb.cmb i 0 l0.length := mem_cmb.mpr ⟨rfl, hm.1, fun j hj => by have := hm.2 j hj; omega⟩
          rcases Nat.lt_or_ge i l0.length with h | h
          · rw [Cb.cmb_big i 0 _ h] at hm2
            cases hm2
          · omega
        refine ⟨rfl, yes ⟨_, rfl, _, rfl, (by show 1 ≤ sizeLine; decide), fun u hu => ?_⟩⟩
        refine ll_cat hz hu (by rw [iv_len, lotI_len]; omega) fun Hc r ec hr => ?_
        refine k1 _ _ _ rfl ec ⟨r, rfl, ?_⟩
        rw [hr, ei]
        unfold iv
        rw [List.map_append]
        rfl
      · rw [List.filterMap_eq_map'] at hp
        have lacc : acc.length = 2 ^ i := by rw [paired_len hp, List.length_map, List.length_map, subs_len]
        refine ⟨Lf, D, fv, acc, rfl, rfl, e2.lst hLf, hacc, Nat.le_trans (show fv.length + acc.length ≤ 40000 by omega) (by decide), fun L2 hL2 => ?_⟩
        have eL2 := Ext.new hL2 (.lst (fv ++ acc))
        refine ⟨L2, fv ++ acc, _, _, _, rfl, (E1.trans e2).trans eL2, upd_same, ?_⟩
        have es : (subsN (i + 1)).map lotI = (subsN i).map lotI ++ ((subsN i).map lotI).map fun l => l ++ [(i : Int)] := by
          show (subsN i ++ (subsN i).map (· ++ [i])).map lotI = _
          rw [List.map_append, List.map_map, List.map_map]
          congr 1
          refine List.map_congr_left fun l _ => ?_
          show (l ++ [i]).map _ = l.map _ ++ _
          rw [List.map_append]
          rfl
        rw [es]
        exact paired_app (pTI.ext (e2.trans eL2) hfv) (pTI.ext eL2 hp)
    · rintro σ H1 ⟨Lf, fv, o2, o3, o4, rfl, E1, hLf, hfv⟩
      have E01 := Eb.trans E1
      have lfv : fv.length ≤ 16384 := by
        rw [paired_len hfv, List.length_map, subs_len]
        exact pow n hn
      have few : fv.length ≤ sizeLine := Nat.le_trans lfv (by decide)
      have hsz : ∀ r ∈ (subsN n).map lotI, r.length ≤ 14 := fun r hr => by
        obtain ⟨l0, hl0, rfl⟩ := List.mem_map.mp hr
        have hm := mem_subs.mp hl0
        have hm2 : l0 ∈ Cb.cmb n 0 l0.length := mem_cmb.mpr ⟨rfl, hm.1, fun j hj => by have := hm.2 j hj; omega⟩
        rw [lotI_len]
        rcases Nat.lt_or_ge n l0.length with h | h
        · rw [Cb.cmb_big n 0 _ h] at hm2
          cases hm2
        · omega
      refine ⟨_, rfl, Lf, rfl, ⟨_, SqL.of hLf⟩, fun D hD => ?_⟩
      refine lc_fmL (R := TI) (S := PrI) stTI stPr (fun l => some l) hD hLf hfv few (fun x l H2 Ky Kn e2 hmem hx k1 k2 => ?_) fun H2 acc e2 hacc hp => ?_
      · obtain ⟨z, rfl, hz⟩ := hx
        refine ⟨rfl, yes ⟨_, rfl, z, _, rfl, .inr hz, _, rfl, (by show 2 ≤ sizeLine; decide), fun u hu => k1 _ _ _ rfl (Ext.new hu _) ⟨u, z, rfl, ?_, (Ext.new hu _).tup hz⟩⟩⟩
        rw [upd_same, iv_len]
      rw [List.filterMap_some] at hp
      refine ⟨D, acc, _, rfl, hacc, hp, fun p ys hp0 hys => ?_⟩
      rw [lots_sorted] at hys
      have ep := Ext.new hp0 (.lst ys)
      refine ⟨p, rfl, ⟨_, SqL.of upd_same⟩, fun D2 hD2 => ?_⟩
      have hys2 : Paired (PrI (L2.upd H2 p (.lst ys))) ys (lotsI n) := paired_mono (fun _ _ h => stPr.ext ep h) hys
      have few2 : ys.length ≤ sizeLine := by
        rw [paired_len hys, List.length_map, lots_len]
        exact Nat.le_trans (pow n hn) (by decide)
      refine lc_fmL (R := PrI) (S := TI) stPr stTI (fun l => some l) hD2 upd_same hys2 few2 (fun x l H3 Ky Kn e3 hmem hx k1 k2 => ?_) fun H3 acc3 e3 hacc3 hp3 => ?_
      · obtain ⟨a, z, rfl, h1, h2⟩ := hx
        exact ⟨a, _, rfl, h1, rfl, _, _, rfl, _, _, rfl, rfl, rfl, yes ⟨_, rfl, k1 _ _ _ rfl (Ext.refl _) ⟨z, rfl, h2⟩⟩⟩
      · rw [List.filterMap_some] at hp3
        have e4 := (E01.trans e2).trans ep
        exact k H3 D2 acc3 (e4.trans e3) (e4.free hD2) hacc3 hp3
end
end Lk


/-! ## RC -/
set_option Elab.async false
set_option linter.all false
set_option maxRecDepth 100000
set_option maxHeartbeats 2000000
/-! What is a ring, said without walks; rounds of looks; two settled states want an even ring. -/
namespace Lk
open PySem PySem.Spec PyProof.Rows L2 Gx
variable [Own]
section
variable {ls : List Look3}
theorem path_snoc {q : List Int} {n : Int} (hq : q ≠ []) (pk : PathOk ls (q ++ [n])) : PathOk ls q ∧ goesOnP ls q n = true ∧ q.headD 0 + 1 ≤ n ∧ n < ls.length := by
  have hh : (q ++ [n]).headD 0 = q.headD 0 := headD_app hq
  have nd : (q.map (lkr ls) ++ [lkr ls n]).Nodup := by
    have := pk.nd
    rw [List.map_append] at this
    exact this
  have hnot : lkr ls n ∉ q.map (lkr ls) := fun h => by
    have := List.nodup_append.mp nd
    exact this.2.2 _ h _ (List.mem_singleton.mpr rfl) rfl
  have hn := pk.num n (by simp)
  have hl := pk.least n (by simp)
  rw [hh] at hl
  have hne : n ≠ q.headD 0 := fun z => hnot (by rw [z]; exact List.mem_map.mpr ⟨_, headD_mem hq, rfl⟩)
  refine ⟨⟨hq, fun m hm => pk.num m (List.mem_append_left _ hm), (List.nodup_append.mp nd).1, fun m hm => by rw [← hh]; exact pk.least m (List.mem_append_left _ hm), fun i a b h1 h2 => ?_⟩, ?_, by omega, hn.2⟩
  · have i2 := (List.getElem?_eq_some_iff.mp h2).1
    exact pk.chain i a b (by rw [List.getElem?_append_left (by omega)]; exact h1) (by rw [List.getElem?_append_left (by omega)]; exact h2)
  · have hlen : 0 < q.length := List.length_pos_iff.mpr hq
    have c := pk.chain (q.length - 1) (q.getLastD 0) n (by rw [List.getElem?_append_left (by omega)]; exact getLastD_get hq) (by
      rw [List.getElem?_append_right (by omega), show q.length - 1 + 1 - q.length = 0 by omega]
      rfl)
    unfold goesOnP
    rw [Bool.and_eq_true]
    refine ⟨beq_iff_eq.mpr c.symm, ?_⟩
    rw [Bool.not_eq_true', ← Bool.not_eq_true]
    intro h
    exact hnot (List.contains_iff_mem.mp h)
theorem level_has : ∀ (k : Nat) {p : List Int}, PathOk ls p → p.length = k + 1 → (∀ j, j < k → closesP ls (p.take (j + 1)) = false) → p ∈ level ls k
  | 0, p, pk, hl, _ => by
    match p, hl with
    | [n], _ =>
      have := pk.num n (by simp)
      exact List.mem_map.mpr ⟨n, mem_nums.mpr this, rfl⟩
  | k + 1, p, pk, hl, hc => by
    obtain ⟨q, n, rfl⟩ : ∃ q n, p = q ++ [n] := ⟨p.dropLast, p.getLast pk.ne, (List.dropLast_concat_getLast pk.ne).symm⟩
    have lq : q.length = k + 1 := by simpa using hl
    have hq : q ≠ [] := by
      intro z
      rw [z] at lq
      cases lq
    obtain ⟨pq, g, g1, g2⟩ := path_snoc hq pk
    have tk : ∀ j, j ≤ k → (q ++ [n]).take (j + 1) = q.take (j + 1) := fun j hj => List.take_append_of_le_length (by omega)
    have ih := level_has k pq lq fun j hj => by rw [← tk j (by omega)]; exact hc j (by omega)
    have hcl := hc k (by omega)
    rw [tk k (Nat.le_refl _), List.take_of_length_le (by omega)] at hcl
    refine List.mem_flatMap.mpr ⟨q, ih, ?_⟩
    unfold longer
    rw [if_neg (by rw [hcl]; decide)]
    exact List.mem_map.mpr ⟨n, List.mem_filter.mpr ⟨mem_nums.mpr ⟨g1, g2⟩, g⟩, rfl⟩
theorem found_has {k j : Nat} {p : List Int} (hj : j < k) (h : p ∈ level ls j) (hc : closesP ls p = true) : p ∈ foundN ls k := by
  induction k with
  | zero => omega
  | succ k ih =>
    show p ∈ foundN ls k ++ (level ls k).filter (closesP ls)
    by_cases e : j = k
    · rw [← e]
      exact List.mem_append_right _ (List.mem_filter.mpr ⟨h, hc⟩)
    · exact List.mem_append_left _ (ih (by omega))
/-- lookers of six folk, all unlike -/
theorem few_lookers (six : ∀ l ∈ ls, 0 ≤ l.2.1 ∧ l.2.1 < (6 : Int)) {c : List Int} (num : ∀ n ∈ c, 0 ≤ n ∧ n < ls.length) (nd : (c.map (lkr ls)).Nodup) : c.length ≤ 6 := by
  have := nodup_le (c.map (lkr ls)) (nums 0 6) nd fun x hx => by
    obtain ⟨n, hn, rfl⟩ := List.mem_map.mp hx
    have h := num n hn
    exact mem_nums.mpr (six _ (lookN_mem h.1 h.2))
  rw [List.length_map, nums_len] at this
  exact this
theorem ring_has (six : ∀ l ∈ ls, 0 ≤ l.2.1 ∧ l.2.1 < (6 : Int)) {p : List Int} (pk : PathOk ls p) (hc : closesP ls p = true) : p ∈ ringsRaw ls := by
  have l6 := few_lookers six pk.num pk.nd
  have l0 : 0 < p.length := List.length_pos_iff.mpr pk.ne
  refine found_has (j := p.length - 1) (by omega) (level_has _ pk (by omega) fun j hj => ?_) hc
  rw [← Bool.not_eq_true]
  intro h
  -- the prefix's last looker were the ring's last
  have hjl : j < p.length := by omega
  have t1 : (p.take (j + 1)).headD 0 = p.headD 0 := by
    cases p with
    | nil => rfl
    | cons a b => rfl
  have t2 : (p.take (j + 1)).getLastD 0 = p[j] := by
    rw [List.take_add_one, List.getElem?_eq_getElem hjl]
    exact getLastD_app
  have e1 : lkr ls ((p.take (j + 1)).getLastD 0) = lkd ls ((p.take (j + 1)).headD 0) := beq_iff_eq.mp h
  have e2 : lkr ls (p.getLastD 0) = lkd ls (p.headD 0) := beq_iff_eq.mp hc
  rw [t1, t2, ← e2] at e1
  have hlast := getLastD_get pk.ne
  obtain ⟨hL, hLe⟩ := List.getElem?_eq_some_iff.mp hlast
  have i1 := pk.nd.idxOf_getElem j (by rw [List.length_map]; exact hjl)
  have i2 := pk.nd.idxOf_getElem (p.length - 1) (by rw [List.length_map]; exact hL)
  rw [List.getElem_map] at i1 i2
  rw [hLe] at i2
  rw [e1] at i1
  omega
end
/-- what a ring is -/
theorem mem_rings {W : Web} (ok : W.Ok) {p : List Int} : p ∈ ringsOf W ↔ PathOk W.looks p ∧ closesP W.looks p = true :=
  ⟨fun h => ⟨(raw_ok (sortT_mem.mp h)).1, (raw_ok (sortT_mem.mp h)).2.1⟩, fun h => sortT_mem.mpr (ring_has ok.fewL.six h.1 h.2)⟩
/-- a round: looks one behind the other, through unlike folk, and back; wherever it begins -/
structure Round (ls : List Look3) (c : List Int) : Prop where
  ne : c ≠ []
  num : ∀ n ∈ c, 0 ≤ n ∧ n < ls.length
  nd : (c.map (lkr ls)).Nodup
  chain : ∀ (i : Nat) (a b : Int), c[i]? = some a → c[i + 1]? = some b → lkr ls a = lkd ls b
  close : lkr ls (c.getLastD 0) = lkd ls (c.headD 0)
section
variable {ls : List Look3}
theorem round_turn {a : Int} {r : List Int} (R : Round ls (a :: r)) : Round ls (r ++ [a]) := by
  cases r with
  | nil => exact R
  | cons b r =>
    have hl : ((a :: b :: r) : List Int).getLastD 0 = (b :: r).getLastD 0 := by simp [List.getLastD]
    refine ⟨by simp, fun n hn => R.num n (by
      rcases List.mem_append.mp hn with h | h
      · exact List.mem_cons_of_mem _ h
      · rw [List.mem_singleton.mp h]; exact List.mem_cons_self ..), ?_, fun i x y h1 h2 => ?_, ?_⟩
    · have := R.nd
      rw [List.map_append]
      exact (List.perm_append_comm (l₁ := [lkr ls a]) (l₂ := (b :: r).map (lkr ls))).nodup_iff.mp this
    · by_cases hi : i + 1 < (b :: r).length
      · rw [List.getElem?_append_left (by omega)] at h1 h2
        exact R.chain (i + 1) x y (by simpa using h1) (by simpa using h2)
      · have hi2 : i + 1 = (b :: r).length := by
          have := (List.getElem?_eq_some_iff.mp h2).1
          simp at this hi ⊢
          omega
        rw [List.getElem?_append_right (by omega), show i + 1 - (b :: r).length = 0 by omega] at h2
        rw [List.getElem?_append_left (by omega)] at h1
        have e1 := getLastD_get (p := b :: r) (by simp)
        rw [show (b :: r).length - 1 = i by omega, h1] at e1
        have hy : a = y := by simpa using h2
        have hx := Option.some.inj e1
        rw [hx, ← hy, ← hl]
        exact R.close
    · rw [getLastD_app]
      exact R.chain 0 a b rfl rfl
theorem round_ring : ∀ (k : Nat) {c : List Int} {m : Int}, Round ls c → c[k]? = some m → (∀ n ∈ c, m ≤ n) → ∃ p, PathOk ls p ∧ closesP ls p = true ∧ p.Perm c
  | 0, c, m, R, h, hm => by
    refine ⟨c, ⟨R.ne, R.num, R.nd, fun n hn => ?_, R.chain⟩, beq_iff_eq.mpr R.close, .refl _⟩
    cases c with
    | nil => cases h
    | cons a r =>
      have e : a = m := by simpa using h
      show a ≤ n
      rw [e]
      exact hm n hn
  | k + 1, c, m, R, h, hm => by
    cases c with
    | nil => cases h
    | cons a r =>
      have h' : r[k]? = some m := by simpa using h
      obtain ⟨p, h1, h2, h3⟩ := round_ring k (round_turn R) (by rw [List.getElem?_append_left (List.getElem?_eq_some_iff.mp h').1]; exact h') fun n hn => hm n (by
        rcases List.mem_append.mp hn with h | h
        · exact List.mem_cons_of_mem _ h
        · rw [List.mem_singleton.mp h]; exact List.mem_cons_self ..)
      exact ⟨p, h1, h2, h3.trans (List.perm_append_comm (l₁ := r) (l₂ := [a]))⟩
theorem least_in : ∀ {c : List Int}, c ≠ [] → ∃ m ∈ c, ∀ n ∈ c, m ≤ n
  | [a], _ => ⟨a, List.mem_cons_self .., fun n hn => by rw [List.mem_singleton.mp hn]; exact Int.le_refl _⟩
  | a :: b :: r, _ => by
    obtain ⟨m, h1, h2⟩ := least_in (c := b :: r) (by simp)
    by_cases h : a ≤ m
    · refine ⟨a, List.mem_cons_self .., fun n hn => ?_⟩
      rcases List.mem_cons.mp hn with e | hn
      · rw [e]; exact Int.le_refl _
      · exact Int.le_trans h (h2 n hn)
    · refine ⟨m, List.mem_cons_of_mem _ h1, fun n hn => ?_⟩
      rcases List.mem_cons.mp hn with e | hn
      · rw [e]; omega
      · exact h2 n hn
theorem even_perm {p c : List Int} (h : p.Perm c) : evenP ls p = evenP ls c := by
  unfold evenP
  rw [(h.filter _).length_eq]
end
/-- a round's ring -/
theorem round_has {W : Web} (ok : W.Ok) {c : List Int} (R : Round W.looks c) : ∃ p ∈ ringsOf W, p.Perm c ∧ evenP W.looks p = evenP W.looks c := by
  obtain ⟨m, hm, hl⟩ := least_in R.ne
  obtain ⟨k, hk⟩ := List.getElem?_of_mem hm
  obtain ⟨p, h1, h2, h3⟩ := round_ring k R hk hl
  exact ⟨p, (mem_rings ok).mpr ⟨h1, h2⟩, h3, even_perm h3⟩
end Lk

/-! ## RK0 -/
set_option Elab.async false
set_option linter.all false
set_option maxRecDepth 100000
set_option maxHeartbeats 1000000
/-! Lots by a walk through all of them. -/
namespace Lk
variable [Own]
theorem meets_some {lot g : List Int} : meetsB lot g = true ↔ ∃ n ∈ g, n ∈ lot := by
  unfold meetsB
  rw [List.any_eq_true]
  constructor
  · rintro ⟨n, h1, h2⟩
    exact ⟨n, List.contains_iff_mem.mp h2, h1⟩
  · rintro ⟨n, h1, h2⟩
    exact ⟨n, h2, List.contains_iff_mem.mpr h1⟩
/-! ### the smallest lots by a walk through all -/
def goodStep (fit : List Int → Bool) (good : List (List Int)) (lot : List Int) : List (List Int) := if ((good.isEmpty || lot.length == (good.headD []).length) && fit lot) = true then good ++ [lot] else good
theorem good_block {fit : List Int → Bool} {k : Nat} : ∀ (b : List (List Int)) (good : List (List Int)), (∀ l ∈ b, l.length = k) → (good = [] ∨ (good.headD []).length = k) → b.foldl (goodStep fit) good = good ++ b.filter fit
  | [], good, _, _ => (List.append_nil _).symm
  | l :: b, good, hb, hg => by
    have hl := hb l (List.mem_cons_self ..)
    have hc : (good.isEmpty || l.length == (good.headD []).length) = true := by
      rcases hg with e | e
      · rw [e] <;> rfl
      · rw [e, hl, beq_self_eq_true, Bool.or_true]
    rw [List.foldl_cons]
    unfold goodStep
    rw [hc, Bool.true_and]
    by_cases hf : fit l = true
    · rw [if_pos hf, List.filter_cons_of_pos hf]
      have := good_block (fit := fit) b (good ++ [l]) (fun x hx => hb x (List.mem_cons_of_mem _ hx)) (.inr ?_)
      · unfold goodStep at this
        rw [this, List.append_assoc] <;> rfl
      · rcases hg with e | e
        · rw [e]
          exact hl
        · cases good with
          | nil => exact hl
          | cons a r => exact e
    · rw [if_neg hf, List.filter_cons_of_neg hf]
      have := good_block (fit := fit) b good (fun x hx => hb x (List.mem_cons_of_mem _ hx)) hg
      unfold goodStep at this
      exact this
theorem good_stay {fit : List Int → Bool} {k : Nat} {good : List (List Int)} (hg : good ≠ []) (hk : (good.headD []).length < k) : ∀ (b : List (List Int)), (∀ l ∈ b, l.length = k) → b.foldl (goodStep fit) good = good
  | [], _ => rfl
  | l :: b, hb => by
    have hl := hb l (List.mem_cons_self ..)
    have hc : (good.isEmpty || l.length == (good.headD []).length) = false := by
      rw [hl]
      cases good with
      | nil => exact absurd rfl hg
      | cons a r =>
        have hk : a.length < k := hk
        show (false || k == a.length) = false
        rw [Bool.false_or, beq_eq_false_iff_ne]
        omega
    have e : goodStep fit good l = good := by
      unfold goodStep
      rw [hc] <;> rfl
    rw [List.foldl_cons, e]
    exact good_stay hg hk b fun x hx => hb x (List.mem_cons_of_mem _ hx)
theorem cmbI_len {n k : Nat} : ∀ l ∈ cmbI n k, l.length = k := fun l hl => by
  obtain ⟨q, hq, rfl⟩ := List.mem_map.mp hl
  rw [lotI_len]
  exact (mem_cmb.mp hq).1
theorem good_range (fit : List Int → Bool) (n : Nat) : ∀ m : Nat, ((∀ j, j < m → (cmbI n j).filter fit = []) ∧ ((List.range m).flatMap (cmbI n)).foldl (goodStep fit) [] = []) ∨ ∃ k, k < m ∧ (cmbI n k).filter fit ≠ [] ∧ (∀ j, j < k → (cmbI n j).filter fit = []) ∧ ((List.range m).flatMap (cmbI n)).foldl (goodStep fit) [] = (cmbI n k).filter fit
  | 0 => .inl ⟨fun j h => absurd h (Nat.not_lt_zero _), rfl⟩
  | m + 1 => by
    have er : (List.range (m + 1)).flatMap (cmbI n) = (List.range m).flatMap (cmbI n) ++ cmbI n m := by
      rw [List.range_succ, List.flatMap_append]
      simp
    rw [er, List.foldl_append]
    rcases good_range fit n m with ⟨h1, h2⟩ | ⟨k, h1, h2, h3, h4⟩
    · rw [h2, good_block (k := m) _ [] cmbI_len (.inl rfl), List.nil_append]
      by_cases e : (cmbI n m).filter fit = []
      · refine .inl ⟨fun j hj => ?_, e⟩
        rcases Nat.lt_or_ge j m with q | q
        · exact h1 j q
        · rw [show j = m by omega]
          exact e
      · exact .inr ⟨m, by omega, e, h1, rfl⟩
    · refine .inr ⟨k, by omega, h2, h3, ?_⟩
      rw [h4]
      refine good_stay (k := m) h2 ?_ _ cmbI_len
      have : ((cmbI n k).filter fit).headD [] ∈ (cmbI n k).filter fit := by
        cases e : (cmbI n k).filter fit with
        | nil => exact absurd e h2
        | cons a r => exact List.mem_cons_self ..
      rw [cmbI_len _ (List.mem_filter.mp this).1]
      exact h1
theorem lotsI_flat (n : Nat) : (allLots n).map lotI = (List.range (n + 1)).flatMap (cmbI n) := by
  unfold allLots
  rw [List.map_flatMap] <;> rfl
theorem good_least (fit : List Int → Bool) (n : Nat) : ((allLots n).map lotI).foldl (goodStep fit) [] = leastL n fit := by
  rw [lotsI_flat]
  rcases good_range fit n (n + 1) with ⟨h1, h2⟩ | ⟨k, h1, h2, h3, h4⟩
  · rw [h2, least_none fun j hj => h1 j (by omega)]
  · rw [h4, least_some (by omega) h2 h3]
theorem least_fit {n : Nat} {fit : List Int → Bool} {l : List Int} (h : l ∈ leastL n fit) : fit l = true ∧ l ∈ (allLots n).map lotI := by
  unfold leastL at h
  split at h
  · obtain ⟨h1, h2⟩ := List.mem_filter.mp h
    exact ⟨h2, cmbI_all h1⟩
  · cases h
theorem least_len {n : Nat} {fit : List Int → Bool} (hn : n ≤ 14) : (leastL n fit).length ≤ 16384 := by
  unfold leastL
  split
  · exact Nat.le_trans (List.length_filter_le _ _) (cmbI_few hn _)
  · exact Nat.zero_le _
end Lk

/-! ## XM -/
set_option Elab.async false
set_option linter.all false
set_option maxRecDepth 100000
set_option maxHeartbeats 1000000
/-! Signs exchanged: what becomes of rings; the smallest lots that do it. -/
namespace Lk
variable [Own]
theorem look_ex {W : Web} {L : List Int} {n : Int} (h : 0 ≤ n ∧ n < W.looks.length) : lookN (exW W L).looks n = exLook L n (lookN W.looks n) := by
  have hl : (exW W L).looks.length = W.looks.length := by unfold exW; rw [List.length_map, List.length_range]
  have e := lookN_get (ls := (exW W L).looks) (n := n) h.1 (by rw [hl]; exact h.2)
  unfold exW at e
  rw [List.getElem?_map, List.getElem?_range (by omega)] at e
  have e2 : exLook L ((n.toNat : Nat) : Int) (lookN W.looks ((n.toNat : Nat) : Int)) = lookN (exW W L).looks n := Option.some.inj e
  rw [show ((n.toNat : Nat) : Int) = n by omega] at e2
  exact e2.symm
theorem ex_len (W : Web) (L : List Int) : (exW W L).looks.length = W.looks.length := by unfold exW; rw [List.length_map, List.length_range]
theorem lks_ex {W : Web} {L : List Int} {n : Int} (h : 0 ≤ n ∧ n < W.looks.length) : lks (exW W L).looks n = if L.contains n = true then -lks W.looks n else lks W.looks n := by
  unfold lks
  rw [look_ex h]
  rfl
theorem spites_ex {W : Web} {L : List Int} : ∀ {ring : List Int}, (∀ n ∈ ring, 0 ≤ n ∧ n < W.looks.length) → (∀ n ∈ ring, lks W.looks n = 1 ∨ lks W.looks n = -1) → spitesN (exW W L).looks ring % 2 = (spitesN W.looks ring + (ring.filter fun n => L.contains n).length) % 2
  | [], _, _ => rfl
  | n :: ring, h, hs => by
    have ih := spites_ex (L := L) (ring := ring) (fun m hm => h m (List.mem_cons_of_mem _ hm)) fun m hm => hs m (List.mem_cons_of_mem _ hm)
    have e := lks_ex (L := L) (h n (List.mem_cons_self ..))
    have e2 := hs n (List.mem_cons_self ..)
    unfold spitesN at ih ⊢
    rw [List.filter_cons, List.filter_cons, List.filter_cons, e]
    have c1 : ((1 : Int) == -1) = false := by decide
    have c2 : ((-1 : Int) == -1) = true := by decide
    have c3 : (-(-1) : Int) = 1 := by decide
    rcases e2 with e2 | e2 <;> rw [e2] <;> cases L.contains n <;> simp only [c1, c2, c3, Bool.false_eq_true, if_false, if_true, List.length_cons] <;> omega
theorem oddB_swap {lot ring : List Int} (h1 : lot.Nodup) (h2 : ring.Nodup) : oddB lot ring = ((ring.filter fun n => lot.contains n).length % 2 == 1) := by
  unfold oddB
  have hp : (lot.filter fun n => ring.contains n).Perm (ring.filter fun n => lot.contains n) := by
    refine (List.perm_ext_iff_of_nodup (h1.filter _) (h2.filter _)).mpr fun x => ?_
    rw [List.mem_filter, List.mem_filter, List.contains_iff_mem, List.contains_iff_mem]
    exact And.comm
  rw [hp.length_eq]
theorem ring_nodup {ls : List Look3} {p : List Int} (pk : PathOk ls p) : p.Nodup := (List.pairwise_map.mp pk.nd).imp fun {a b} h e => h (by rw [e])
theorem even_spites (ls : List Look3) (p : List Int) : evenP ls p = (spitesN ls p % 2 == 0) := rfl
/-- how many spites a ring is to have, but for twos -/
def wantN (wd : PySem.Str) : Nat := if wd = "odd" then 1 else 0
theorem ex_fit {W : Web} (ok : W.Ok) {wd : PySem.Str} {lot : List Int} (nd : lot.Nodup) (exFit : Bool) (hE : exFit = if wd = "odd" then exAllB lot (kindOf W true) (kindOf W false) else exAllB lot (kindOf W false) (kindOf W true)) : exFit = (ringsOf W).all fun p => spitesN (exW W lot).looks p % 2 == wantN wd := by
  have par : ∀ p ∈ ringsOf W, spitesN (exW W lot).looks p % 2 = (spitesN W.looks p + (if oddB lot p = true then 1 else 0)) % 2 := fun p hp => by
    obtain ⟨pk, _⟩ := (mem_rings ok).mp hp
    rw [spites_ex pk.num (signs_in ok pk), oddB_swap nd (ring_nodup pk)]
    by_cases h : (p.filter fun n => lot.contains n).length % 2 = 1
    · rw [if_pos (beq_iff_eq.mpr h)]
      omega
    · rw [if_neg (fun z => h (beq_iff_eq.mp z))]
      omega
  have key : ∀ b : Bool, exAllB lot (kindOf W b) (kindOf W (!b)) = true ↔ ∀ p ∈ ringsOf W, (evenP W.looks p = b → oddB lot p = true) ∧ (evenP W.looks p = !b → oddB lot p = false) := by
    intro b
    unfold exAllB kindOf
    rw [Bool.and_eq_true, List.all_eq_true, Bool.not_eq_true', List.any_eq_false]
    constructor
    · rintro ⟨h1, h2⟩ p hp
      refine ⟨fun e => h1 p (List.mem_filter.mpr ⟨hp, beq_iff_eq.mpr e⟩), fun e => ?_⟩
      have := h2 p (List.mem_filter.mpr ⟨hp, beq_iff_eq.mpr e⟩)
      simpa using this
    · intro h
      refine ⟨fun p hp => (h p (List.mem_filter.mp hp).1).1 (beq_iff_eq.mp (List.mem_filter.mp hp).2), fun p hp => ?_⟩
      rw [(h p (List.mem_filter.mp hp).1).2 (beq_iff_eq.mp (List.mem_filter.mp hp).2)]
      decide
  rw [hE, Bool.eq_iff_iff, List.all_eq_true]
  unfold wantN
  by_cases hw : wd = "odd"
  · rw [if_pos hw, if_pos hw]
    refine (key true).trans ⟨fun h p hp => ?_, fun h p hp => ?_⟩
    · have h1 := par p hp
      have h2 := h p hp
      rw [beq_iff_eq, h1]
      rw [even_spites] at h2
      cases ho : oddB lot p with
      | true =>
        rw [if_pos rfl]
        have : spitesN W.looks p % 2 = 0 := by
          by_cases z : spitesN W.looks p % 2 = 0
          · exact z
          · have := h2.2 (by rw [beq_eq_false_iff_ne.mpr z]; rfl)
            rw [ho] at this
            cases this
        omega
      | false =>
        rw [if_neg (by decide)]
        have : ¬ spitesN W.looks p % 2 = 0 := fun z => by
          have := h2.1 (beq_iff_eq.mpr z)
          rw [ho] at this
          cases this
        omega
    · have h1 := par p hp
      have h2 := beq_iff_eq.mp (h p hp)
      rw [h1] at h2
      rw [even_spites]
      cases ho : oddB lot p with
      | true =>
        rw [ho, if_pos rfl] at h2
        exact ⟨fun _ => rfl, fun z => by have z := beq_eq_false_iff_ne.mp (show (spitesN W.looks p % 2 == 0) = false from z); omega⟩
      | false =>
        rw [ho, if_neg (by decide)] at h2
        exact ⟨fun z => by have z := beq_iff_eq.mp z; omega, fun _ => rfl⟩
  · rw [if_neg hw, if_neg hw]
    refine (key false).trans ⟨fun h p hp => ?_, fun h p hp => ?_⟩
    · have h1 := par p hp
      have h2 := h p hp
      rw [beq_iff_eq, h1]
      rw [even_spites] at h2
      cases ho : oddB lot p with
      | true =>
        rw [if_pos rfl]
        have : ¬ spitesN W.looks p % 2 = 0 := fun z => by
          have := h2.2 (show (spitesN W.looks p % 2 == 0) = !false from beq_iff_eq.mpr z)
          rw [ho] at this
          cases this
        omega
      | false =>
        rw [if_neg (by decide)]
        have : spitesN W.looks p % 2 = 0 := by
          by_cases z : spitesN W.looks p % 2 = 0
          · exact z
          · have := h2.1 (beq_eq_false_iff_ne.mpr z)
            rw [ho] at this
            cases this
        omega
    · have h1 := par p hp
      have h2 := beq_iff_eq.mp (h p hp)
      rw [h1] at h2
      rw [even_spites]
      cases ho : oddB lot p with
      | true =>
        rw [ho, if_pos rfl] at h2
        exact ⟨fun _ => rfl, fun z => by have z := beq_iff_eq.mp (show (spitesN W.looks p % 2 == 0) = true from z); omega⟩
      | false =>
        rw [ho, if_neg (by decide)] at h2
        exact ⟨fun z => by have z := beq_eq_false_iff_ne.mp z; omega, fun _ => rfl⟩
/-- of all lots of a size those of the size -/
theorem flat_size (n k : Nat) : ∀ m : Nat, ((List.range m).flatMap (cmbI n)).filter (fun l => l.length == k) = if k < m then cmbI n k else []
  | 0 => rfl
  | m + 1 => by
    have er : (List.range (m + 1)).flatMap (cmbI n) = (List.range m).flatMap (cmbI n) ++ cmbI n m := by
      rw [List.range_succ, List.flatMap_append]
      simp
    rw [er, List.filter_append, flat_size n k m]
    by_cases h : k = m
    · subst h
      rw [if_neg (Nat.lt_irrefl _), if_pos (Nat.lt_succ_self _), List.nil_append]
      exact List.filter_eq_self.mpr fun l hl => beq_iff_eq.mpr (cmbI_len l hl)
    · have e : (cmbI n m).filter (fun l => l.length == k) = [] := by
        rw [List.filter_eq_nil_iff]
        intro l hl z
        exact h (by rw [← beq_iff_eq.mp z]; exact cmbI_len l hl)
      rw [e, List.append_nil]
      by_cases h2 : k < m
      · rw [if_pos h2, if_pos (by omega)]
      · rw [if_neg h2, if_neg (by omega)]
/-- the smallest ones of all that fit -/
theorem least_filter {n k : Nat} {fit : List Int → Bool} (hk : ∃ l ∈ ((allLots n).map lotI).filter fit, l.length = k) (hle : ∀ l ∈ ((allLots n).map lotI).filter fit, k ≤ l.length) : (((allLots n).map lotI).filter fit).filter (fun l => l.length == k) = leastL n fit := by
  have e0 : (((allLots n).map lotI).filter fit).filter (fun l => l.length == k) = (((List.range (n + 1)).flatMap (cmbI n)).filter fun l => l.length == k).filter fit := by
    rw [lotsI_flat, List.filter_filter, List.filter_filter]
    refine List.filter_congr fun l _ => ?_
    rw [Bool.and_comm]
  obtain ⟨l, hl, e⟩ := hk
  have hkn : k < n + 1 := by
    obtain ⟨q, hq, rfl⟩ := List.mem_map.mp (List.mem_filter.mp hl).1
    rw [lotI_len] at e
    have h1 := mem_lots.mp hq
    have h2 : q ∈ Cb.cmb n 0 q.length := mem_cmb.mpr ⟨rfl, h1.1, fun j hj => by have := h1.2 j hj; omega⟩
    rcases Nat.lt_or_ge n q.length with z | z
    · rw [Cb.cmb_big _ 0 _ z] at h2
      cases h2
    · omega
  rw [e0, flat_size, if_pos hkn]
  refine (least_some (by omega) (fun z => ?_) fun j hj => ?_).symm
  · have h1 : l ∈ (((allLots n).map lotI).filter fit).filter fun l => l.length == k := List.mem_filter.mpr ⟨hl, beq_iff_eq.mpr e⟩
    rw [e0, flat_size, if_pos hkn, z] at h1
    cases h1
  · refine List.eq_nil_iff_forall_not_mem.mpr fun x hx => ?_
    obtain ⟨h1, h2⟩ := List.mem_filter.mp hx
    have := hle x (List.mem_filter.mpr ⟨cmbI_all h1, h2⟩)
    rw [cmbI_len x h1] at this
    omega
/-- those as small as the first -/
theorem smallest_least (n : Nat) (fit : List Int → Bool) : (((allLots n).map lotI).filter fit).filter (fun r => r.length == ((((allLots n).map lotI).filter fit).headD []).length) = leastL n fit := by
  cases e : ((allLots n).map lotI).filter fit with
  | nil =>
    refine (least_none fun j hj => ?_).symm
    refine List.eq_nil_iff_forall_not_mem.mpr fun x hx => ?_
    obtain ⟨h1, h2⟩ := List.mem_filter.mp hx
    have : x ∈ ((allLots n).map lotI).filter fit := List.mem_filter.mpr ⟨cmbI_all h1, h2⟩
    rw [e] at this
    cases this
  | cons a l =>
    rw [← e]
    refine least_filter ⟨a, by rw [e]; exact List.mem_cons_self .., by rw [e] <;> rfl⟩ fun x hx => ?_
    have hp : (((allLots n).map lotI).filter fit).Pairwise fun a b => a.length ≤ b.length := by
      refine List.Pairwise.filter _ (List.pairwise_map.mpr ((lots_asc n).imp fun {a b} h => ?_))
      rw [lotI_len, lotI_len]
      rcases h with h | ⟨h, _⟩ <;> omega
    rw [e] at hp hx ⊢
    rcases List.mem_cons.mp hx with z | z
    · rw [z]
      exact Nat.le_refl _
    · exact (List.pairwise_cons.mp hp).1 x z
end Lk

/-! ## W30 -/
set_option Elab.async false
set_option linter.all false
set_option maxRecDepth 100000
set_option maxHeartbeats 2000000
namespace Lk
open PySem PySem.Spec PyProof.Rows L2 Gx
open GxR (TabG Tabbed TabB)
variable [Own]
abbrev s__law_web : Stmt := top 45
theorem sc__law_web : FnScope ["row", "folk", "top", "most", "one", "tops", "some", "seen", "turn", "other", "pair"] ["row", "folk", "top", "most"] (defScope s__law_web) := ⟨rfl, rfl, rfl, by decide +kernel, rfl, by decide +kernel, by decide +kernel⟩
def spLawWeb2 (K : PySem.W.Frag) : Sp := fun vs H Q _ => ∃ (r sc : Addr) (ns : List Int) (n most looks : Nat), vs = [.ref r, .int n, .int most, .int looks] ∧ Rw K H r sc ns ∧ (1 ≤ n ∧ n ≤ 6) ∧ (1 ≤ most ∧ most ≤ 3) ∧ looks ≤ 14 ∧
  ∀ H' v W, ExtB r H H' → Rw K H' r sc ns → WebAt H' v W → W.Ok → W.tops.length ≤ n → (∀ t ∈ W.tops, t ≤ most) → W.looks.length ≤ looks → Q v H'
/-- o[i] = v of a dict of tuples -/
def rSetDT : TSet := fun o i v H Q => ∃ a H', o = .ref a ∧ DPut H a i v H' ∧ Q H'
theorem set_dT {X : Cx} (hu : X.A.units + 1 < cLine) : PSet X rSetDT := by
  intro pins s σ H o i v ov iv u Q I ro ri rv h
  obtain ⟨a, H', rfl, g, q⟩ := h
  obtain rfl : ov = Value.ref a := ro
  exact d_setItem hu I g ri rv fun s4 I4 => ⟨H', I4, q⟩
/-- looks drawn so far, the first first -/
structure FdOk (n : Nat) (L : List Look3) : Prop where
  nd : (L.map fun l => (l.1, l.2.1)).Nodup
  rng : ∀ l ∈ L, (0 ≤ l.1 ∧ l.1 < n) ∧ (0 ≤ l.2.1 ∧ l.2.1 < n) ∧ (l.2.2 = 1 ∨ l.2.2 = -1)
  len : L.length ≤ 14
  four : ∀ f : Int, (L.filter fun l => l.2.1 == f).length ≤ 4
def kvOf (L : List Look3) : List (List Key × V) := L.map fun l => ([Sum.inl l.1, Sum.inl l.2.1], V.int l.2.2)
def cntOf (n : Nat) (L : List Look3) : List Int := (List.range n).map fun o : Nat => (((L.filter fun l => l.2.1 == (o : Int)).length : Nat) : Int)
theorem cntOf_len (n : Nat) (L : List Look3) : (cntOf n L).length = n := by unfold cntOf; rw [List.length_map, List.length_range]
theorem cntOf_at {n : Nat} {L : List Look3} {b : Int} (h0 : 0 ≤ b) (h1 : b < n) : (cntOf n L)[b.toNat]? = some (((L.filter fun l => l.2.1 == b).length : Nat) : Int) := by
  unfold cntOf
  rw [List.getElem?_map, List.getElem?_range (by omega)]
  show some (((L.filter fun l => l.2.1 == ((b.toNat : Nat) : Int)).length : Nat) : Int) = _
  rw [show ((b.toNat : Nat) : Int) = b by omega]
theorem cntOf_snoc {n : Nat} {L : List Look3} {l : Look3} (h0 : 0 ≤ l.2.1) (h1 : l.2.1 < n) : (cntOf n L).set l.2.1.toNat ((((L.filter fun k => k.2.1 == l.2.1).length : Nat) : Int) + 1) = cntOf n (L ++ [l]) := by
  refine List.ext_getElem? fun j => ?_
  rw [List.getElem?_set, cntOf_len]
  by_cases hj : j < n
  · have e : (cntOf n (L ++ [l]))[j]? = some ((((L ++ [l]).filter fun k => k.2.1 == (j : Int)).length : Nat) : Int) := by
      unfold cntOf
      rw [List.getElem?_map, List.getElem?_range hj]
      rfl
    rw [e, List.filter_append, List.length_append]
    by_cases hb : l.2.1.toNat = j
    · have hb2 : (j : Int) = l.2.1 := by omega
      rw [if_pos hb, if_pos (by omega), hb2, List.filter_cons, if_pos (by simp)]
      simp
    · have e1 : (cntOf n L)[j]? = some (((L.filter fun k => k.2.1 == (j : Int)).length : Nat) : Int) := by
        unfold cntOf
        rw [List.getElem?_map, List.getElem?_range hj]
        rfl
      have hb2 : (l.2.1 == (j : Int)) = false := by
        rw [beq_eq_false_iff_ne]
        omega
      rw [if_neg hb, e1, List.filter_cons, hb2]
      simp
  · have e : (cntOf n (L ++ [l]))[j]? = none := List.getElem?_eq_none (by rw [cntOf_len]; omega)
    have e1 : (cntOf n L)[j]? = none := List.getElem?_eq_none (by rw [cntOf_len]; omega)
    rw [e, e1]
    by_cases hb : l.2.1.toNat = j
    · omega
    · rw [if_neg hb]
theorem kv_not {L : List Look3} {a b : Int} (h : valV (kvOf L) [Sum.inl a, Sum.inl b] = none) : (a, b) ∉ L.map fun l => (l.1, l.2.1) := by
  intro hm
  refine valV_not h ?_
  obtain ⟨l, hl, e⟩ := List.mem_map.mp hm
  refine List.mem_map.mpr ⟨([Sum.inl l.1, Sum.inl l.2.1], V.int l.2.2), List.mem_map.mpr ⟨l, hl, rfl⟩, ?_⟩
  injection e with e1 e2
  show [Sum.inl l.1, Sum.inl l.2.1] = _
  rw [e1, e2]
theorem kv_get : ∀ {L : List Look3} {l : Look3}, (L.map fun l => (l.1, l.2.1)).Nodup → l ∈ L → valV (kvOf L) [Sum.inl l.1, Sum.inl l.2.1] = some (.int l.2.2)
  | [], l, _, h => by cases h
  | k :: L, l, nd, h => by
    rw [List.map_cons, List.nodup_cons] at nd
    show valV (([Sum.inl k.1, Sum.inl k.2.1], V.int k.2.2) :: kvOf L) _ = _
    rcases List.mem_cons.mp h with e | h
    · rw [e]
      exact valV_pos rfl
    · rw [valV_neg]
      · exact kv_get nd.2 h
      · intro e
        injection e with e1 e2
        injection e1 with e1
        injection e2 with e2
        injection e2 with e2
        exact nd.1 (List.mem_map.mpr ⟨l, h, by rw [e1, e2]⟩)
theorem FdOk.nil (n : Nat) : FdOk n [] := ⟨by simp, (fun _ h => by cases h), by simp, fun _ => by simp⟩
theorem FdOk.snoc {n : Nat} {L : List Look3} (h : FdOk n L) {l : Look3} (h1 : (l.1, l.2.1) ∉ L.map fun l => (l.1, l.2.1)) (h2 : (0 ≤ l.1 ∧ l.1 < n) ∧ (0 ≤ l.2.1 ∧ l.2.1 < n) ∧ (l.2.2 = 1 ∨ l.2.2 = -1)) (h3 : L.length < 14) (h4 : (L.filter fun k => k.2.1 == l.2.1).length < 4) : FdOk n (L ++ [l]) := by
  refine ⟨?_, fun k hk => ?_, by rw [List.length_append]; simp; omega, fun f => ?_⟩
  · rw [List.map_append, List.nodup_append]
    refine ⟨h.nd, by simp, fun x hx y hy e => ?_⟩
    rw [List.mem_singleton.mp hy] at e
    rw [e] at hx
    exact h1 hx
  · rcases List.mem_append.mp hk with q | q
    · exact h.rng k q
    · rw [List.mem_singleton.mp q]
      exact h2
  · rw [List.filter_append, List.length_append]
    by_cases hf : l.2.1 = f
    · rw [← hf]
      have := List.length_filter_le (fun k : Look3 => k.2.1 == l.2.1) [l]
      simp only [List.length_singleton] at this
      omega
    · have hb2 : (l.2.1 == f) = false := by rw [beq_eq_false_iff_ne]; exact hf
      rw [List.filter_cons, hb2]
      simp
      exact h.four f
theorem perm_paired {α β : Type} {R : α → β → Prop} {ys xs : List α} (p : ys.Perm xs) : ∀ {L : List β}, Paired R xs L → ∃ L', L'.Perm L ∧ Paired R ys L' := by
  induction p with
  | nil => intro L h; exact ⟨L, .refl _, h⟩
  | cons x _ ih =>
    intro L h
    cases h with
    | cons r t =>
      obtain ⟨L', p', q⟩ := ih t
      exact ⟨_, p'.cons _, .cons r q⟩
  | swap x y l =>
    intro L h
    cases h with
    | cons r t =>
      cases t with
      | cons r2 t => exact ⟨_, .swap _ _ _, .cons r2 (.cons r t)⟩
  | trans _ _ ih1 ih2 =>
    intro L h
    obtain ⟨L1, p1, q1⟩ := ih2 h
    obtain ⟨L2, p2, q2⟩ := ih1 q1
    exact ⟨L2, p2.trans p1, q2⟩
theorem paired_pw {α β : Type} {R : α → β → Prop} {S : α → α → Prop} {T : β → β → Prop} (h : ∀ x y a b, R x a → R y b → S x y → T a b) : ∀ {ys : List α} {L : List β}, Paired R ys L → ys.Pairwise S → L.Pairwise T
  | _, _, .nil, _ => .nil
  | x :: ys, a :: L, .cons r t, p => by
    obtain ⟨p1, p2⟩ := List.pairwise_cons.mp p
    refine List.pairwise_cons.mpr ⟨fun b hb => ?_, paired_pw h t p2⟩
    obtain ⟨i, hi, rfl⟩ := List.getElem_of_mem hb
    obtain ⟨y, hy, ry⟩ := paired_get t (List.getElem?_eq_getElem hi)
    exact h x y _ _ r ry (p1 y (List.mem_of_getElem? hy))
/-- a key as a value -/
def KyAt (H : Hp) (y : V) (l : Look3) : Prop := ∃ b, y = .ref b ∧ H b = some (.tup [.int l.1, .int l.2.1])
theorem keys_ky {H : Hp} : ∀ {L : List Look3} {bs : List Addr}, IsKeys H (kvOf L) bs → Paired (KyAt H) (bs.map V.ref) L
  | [], _, .nil => .nil
  | l :: L, _, .cons r t => .cons ⟨_, rfl, r⟩ (keys_ky t)
section
variable {P : Program} {w : World} {K : PySem.W.Frag} {mg : Str → Option Value} {base : Heap} {Ps : List Addr}
theorem ok_law_web2 {f : Addr} {fd : FuncData} (F : Fun K "_law_web" "_law_web" s__law_web f fd) (B : Blt mg) (c__law_taken : Cal P w K mg base CX0 1 "_law_taken" ["row", "many"] (spTaken K)) (c__law_pick : Cal P w K mg base CX0 2 "_law_pick" ["row", "things"] (spLawPick K)) : FnOk P w K mg base CX0 3 f fd ["row", "folk", "top", "most"] (spLawWeb2 K) := by
  refine F.ok sc__law_web (fun vs H Q E h => ?_) (fun cdv A outer s0 H vs Q E hr h => ?_)
  · obtain ⟨r, sc, ns, n, most, looks, rfl, _⟩ := h
    rfl
  · obtain ⟨r, sc, ns, n, most, looks, rfl, hR, hn, hmost, hlooks, k⟩ := h
    refine ⟨_, (pss_cons (ps_set (i := 5) sc__law_web.nd rfl (by first | exact Or.inl rfl | exact Or.inr rfl) (pe_tupleL (by rfl) B.tuple (pe_lc (own := [("one", 4)]) rfl sc__law_web.nd (pi_range1 (by rfl) B.range (pa_cons (pe_op op_add pe_int (pe_c0 c__law_taken (hr.mono (by decide)) (by rfl) (pa_cons (pv 0) (pa_cons (pv 1) pa_nil)))) pa_nil)) (blkOk_by (N := ["row", "folk", "top", "most", "one", "tops", "some", "seen", "turn", "other", "pair"]) (sc := defScope s__law_web) (by decide +kernel)) (fun _ _ _ _ _ => (pg_name (i := 4) sc__law_web.nd rfl (by first | exact Or.inl rfl | exact Or.inr rfl))) (fun _ _ _ _ _ => pts_nil) (fun _ _ _ _ _ => (pe_op op_add pe_int (pe_c0 c__law_taken (hr.mono (by decide)) (by rfl) (pa_cons (pv 0) (pa_cons (pv 2) pa_nil))))))))
      (pss_cons (ps_asg (pe_tup (pa_cons pe_dnewT (pa_cons (pe_op op_rep (pe_lst (pa_cons pe_int pa_nil)) (pe_callB call_lenT (by rfl) B.len PySem.boot_len (pa_cons (pv 5) pa_nil))) pa_nil))) (pg_tupT (n := 2) rfl (pgs_cons (pg_name (i := 6) sc__law_web.nd rfl (by first | exact Or.inl rfl | exact Or.inr rfl)) (pgs_cons (pg_name (i := 7) sc__law_web.nd rfl (by first | exact Or.inl rfl | exact Or.inr rfl)) pgs_nil))))
      (pss_cons (ps_for PassesOwn.never rfl (pi_range1 (by rfl) B.range (pa_cons (pe_c0 c__law_taken (hr.mono (by decide)) (by rfl) (pa_cons (pv 0) (pa_cons (pe_op op_add (pv 3) pe_int) pa_nil))) pa_nil)) (pg_name (i := 8) sc__law_web.nd rfl (by first | exact Or.inl rfl | exact Or.inr rfl))
        (pss_cons (ps_par (i := 4) (j := 9) rfl sc__law_web.nd rfl rfl (by decide) rfl rfl (pa_cons (pe_c0 c__law_taken (hr.mono (by decide)) (by rfl) (pa_cons (pv 0) (pa_cons (pe_callB call_lenT (by rfl) B.len PySem.boot_len (pa_cons (pv 5) pa_nil)) pa_nil))) (pa_cons (pe_c0 c__law_taken (hr.mono (by decide)) (by rfl) (pa_cons (pv 0) (pa_cons (pe_callB call_lenT (by rfl) B.len PySem.boot_len (pa_cons (pv 5) pa_nil)) pa_nil))) pa_nil)) (by rfl))
        (pss_one (ps_if (PW.pt (pw_and (pt_cmp (pc_dnotin (hu_of hr) (pe_tup (pa_cons (pv 4) (pa_cons (pv 9) pa_nil))) (pv 6))) (pw_and1 (pt_cmpR op_lt (pe_ix ix_lT (pv 7) (pv 9) (fun _ _ => rfl)) pe_int (nomark _)))))
          (pss_one (ps_asg (pe_tup (pa_cons (pe_c0 c__law_pick (hr.mono (by decide)) (by rfl) (pa_cons (pv 0) (pa_cons (pe_lst (pa_cons pe_int (pa_cons (pe_un un_neg pe_int) pa_nil))) pa_nil))) (pa_cons (pe_op op_add (pe_ix ix_lT (pv 7) (pv 9) (fun _ _ => rfl)) pe_int) pa_nil))) (pg_tupT (n := 2) rfl (pgs_cons (pg_sub (pv 6) (pe_tup (pa_cons (pv 4) (pa_cons (pv 9) pa_nil))) (set_dT (hu_of hr))) (pgs_cons (pg_sub (pv 7) (pv 9) set_list) pgs_nil))))) pss_nil))))
      (pss_one (ps_ret (pe_tup (pa_cons (pv 5) (pa_cons (pe_tupleL (by rfl) B.tuple (pe_lc (own := [("pair", 10)]) rfl sc__law_web.nd (pi_list (pe_callB (cr_sortT (d := 2) (B := 64) (by decide)) (by rfl) B.sorted boot_sorted (pa_cons (pe_callTy (call_list_dT rfl) (by rfl) B.list boot_tyList (pa_cons (pv 6) pa_nil)) pa_nil))) (blkOk_by (N := ["row", "folk", "top", "most", "one", "tops", "some", "seen", "turn", "other", "pair"]) (sc := defScope s__law_web) (by decide +kernel)) (fun _ _ _ _ _ => (pg_name (i := 10) sc__law_web.nd rfl (by first | exact Or.inl rfl | exact Or.inr rfl))) (fun _ _ _ _ _ => pts_nil) (fun _ _ _ _ _ => (pe_op op_catTT (pv 10) (pe_tup (pa_cons (pe_dget (hu_of hr) (pv 6) (pv 10) (fun _ _ => rfl)) pa_nil)))))) pa_nil)))))))), ?_⟩
    refine ⟨_, rfl, _, rfl, r, sc, ns, _, rfl, hR, ⟨by omega, by omega⟩, fun H0 m0 E0 R0 same0 hm0 => ⟨_, _, rfl, rfl, _, rfl, by omega, by omega, fun D hD => ?_⟩⟩
    have hDr := R0.ne_none hD
    obtain ⟨N1, hN1⟩ : ∃ N1 : Nat, (N1 : Int) = 1 + m0 := ⟨(1 + m0).toNat, by omega⟩
    have en : (1 + m0).toNat = N1 := by omega
    have hn1 : 1 ≤ N1 ∧ N1 ≤ n ∧ N1 ≤ 6 := by omega
    rw [en]
    refine lc_range (lo := 0) (n := N1) (fun i H' => ∃ ts, H' D = some (.lst (iv ts)) ∧ ExtB r H0 H' ∧ Rw K H' r sc ns ∧ ts.length = i ∧ ∀ t ∈ ts, 1 ≤ t ∧ t ≤ most) ⟨[], upd_same, (Ext.new hD _).b, R0.new hD _, rfl, (fun _ h => by cases h)⟩ (fun i H' hi ⟨ts, h1, e1, R1, l1, b1⟩ => ?_) fun H1 ⟨ts, h1, e1, R1, l1, b1⟩ => ?_
    · refine ⟨rfl, yes ?_⟩
      refine ⟨_, rfl, _, rfl, r, sc, ns, _, rfl, R1, ⟨by omega, by omega⟩, fun H2 m e2 R2 same hm => ?_⟩
      refine ⟨_, _, rfl, rfl, iv ts, same_at same hDr h1, by rw [iv_len]; exact small1000 (by omega), ts ++ [1 + m], ?_, (e1.trans e2).put hD _, R2.put R0 hD _, by rw [List.length_append, l1]; rfl, fun t ht => ?_⟩
      · rw [upd_same]
        unfold iv
        rw [List.map_append]
        rfl
      · rcases List.mem_append.mp ht with q | q
        · exact b1 t q
        · rw [List.mem_singleton.mp q]
          omega
    refine ⟨D, _, rfl, h1, fun tu htu => ?_⟩
    refine fun d hd => ?_
    refine ⟨(by show 1 ≤ sizeLine; decide), fun z hz => ?_⟩
    have tuz : (L2.upd (L2.upd (L2.upd H1 tu (.tup (iv ts))) d (.dT [])) z (.lst [.int 0])) tu = some (.tup (iv ts)) := (Ext.new hz _).tup ((Ext.new hd _).tup upd_same)
    have ln : ((iv ts).length : Int) = (N1 : Int) := by rw [iv_len, l1]
    refine ⟨_, rfl, tu, _, rfl, .inr tuz, ?_⟩
    rw [ln]
    refine ⟨z, _, _, rfl, rfl, upd_same, by omega, by omega, by rw [show ((N1 : Nat) : Int).toNat = N1 by omega]; exact Nat.le_of_lt (small1000 (by simp only [List.length_singleton]; omega)), fun s hs => ?_⟩
    refine ⟨(by show 2 ≤ sizeLine; decide), fun u hu => ⟨u, _, rfl, upd_same, rfl, _, _, rfl, _, _, rfl, rfl, ?_⟩⟩
    have erep : (List.replicate ((N1 : Nat) : Int).toNat [V.int 0]).flatten = iv (cntOf N1 []) := by
      rw [show ((N1 : Nat) : Int).toNat = N1 by omega]
      refine List.ext_getElem? fun j => ?_
      unfold iv cntOf
      rw [List.flatten_replicate_singleton, List.getElem?_map, List.getElem?_map, List.getElem?_replicate]
      by_cases hj : j < N1
      · rw [if_pos hj, List.getElem?_range hj]
        rfl
      · rw [if_neg hj, List.getElem?_eq_none (by rw [List.length_range]; omega)]
        rfl
    rw [erep] at hu ⊢
    generalize hH2 : L2.upd H1 tu _ = H2 at hd hz hs hu tuz ⊢
    have ed : H2 d = none := hd
    generalize hH3 : L2.upd H2 d _ = H3 at hz hs hu tuz ⊢
    have ez : H3 z = none := hz
    generalize hH4 : L2.upd H3 z _ = H4 at hs hu tuz ⊢
    have es : H4 s = none := hs
    generalize hH5 : L2.upd H4 s _ = H5 at hu ⊢
    have X2 : Ext H1 H2 := by rw [← hH2]; exact Ext.new htu _
    have X3 : Ext H2 H3 := by rw [← hH3]; exact Ext.new ed _
    have X4 : Ext H3 H4 := by rw [← hH4]; exact Ext.new ez _
    have X5 : Ext H4 H5 := by rw [← hH5]; exact Ext.new es _
    have X6 : Ext H5 (L2.upd H5 u (.tup [.ref d, .ref s])) := Ext.new hu _
    have E6 : ExtB r H0 (L2.upd H5 u (.tup [.ref d, .ref s])) := e1.trans ((((X2.trans X3).trans X4).trans X5).trans X6).b
    have R6 : Rw K (L2.upd H5 u (.tup [.ref d, .ref s])) r sc ns := R1.ext ((((X2.trans X3).trans X4).trans X5).trans X6)
    have t6 : L2.upd H5 u (.tup [.ref d, .ref s]) tu = some (.tup (iv ts)) := (((X3.trans X4).trans X5).trans X6).tup (by rw [← hH2]; exact upd_same)
    have d3 : H3 d = some (.dT []) := by rw [← hH3]; exact upd_same
    have d6 : L2.upd H5 u (.tup [.ref d, .ref s]) d = some (.dT []) := ((X4.trans X5).trans X6).keep _ _ d3 rfl
    have s6 : L2.upd H5 u (.tup [.ref d, .ref s]) s = some (.lst (iv (cntOf N1 []))) := X6.lst (by rw [← hH5]; exact upd_same)
    have d0 : H0 d = none := e1.free (X2.free ed)
    have s0' : H0 s = none := e1.free (X2.free (X3.free (X4.free es)))
    have htd : tu ≠ d := ne_of t6 d6 (by intro q; cases q)
    have hts : tu ≠ s := ne_of t6 s6 (by intro q; cases q)
    have hds : d ≠ s := ne_of d6 s6 (by intro q; cases q)
    have hdr := R0.ne_none d0
    have hsr := R0.ne_none s0'
    have htr : tu ≠ r := by
      have : H1 tu = none := htu
      exact R1.ne_none this
    clear hH2 hH3 hH4 hH5 X2 X3 X4 X5 X6 erep tuz
    generalize L2.upd H5 u (.tup [.ref d, .ref s]) = H6 at E6 R6 t6 d6 s6 ⊢
    refine ⟨_, rfl, _, rfl, _, _, rfl, rfl, r, sc, ns, _, rfl, R6, ⟨by omega, by omega⟩, fun H7 m E7 R7 same7 hm => ?_⟩
    refine ⟨_, rfl, by omega, by omega, for_range (lo := 0) (n := m.toNat) (fun i σ H' => ∃ (L : List Look3) (o4 o8 o9 o10 : Option V), σ = [some (.ref r), some (.int n), some (.int most), some (.int looks), o4, some (.ref tu), some (.ref d), some (.ref s), o8, o9, o10] ∧ ExtB r H0 H' ∧ Rw K H' r sc ns ∧ H' tu = some (.tup (iv ts)) ∧ H' d = some (.dT (kvOf L)) ∧ H' s = some (.lst (iv (cntOf N1 L))) ∧ FdOk N1 L ∧ L.length ≤ i)
      ⟨[], _, _, _, _, rfl, E6.trans E7, R7, E7.keep _ _ htr t6 rfl, same_at same7 hdr d6, same_at same7 hsr s6, .nil N1, Nat.le_refl _⟩ ?_ ?_⟩
    · rintro i σ H8 hi ⟨L, o4, o8, o9, o10, rfl, e8, R8, t8, d8, s8, ok8, lL8⟩
      have ln8 : ((iv ts).length : Int) = N1 := by rw [iv_len, l1]
      refine ⟨_, rfl, _, rfl, tu, _, rfl, .inr t8, r, sc, ns, _, rfl, R8, ⟨by omega, by omega⟩, fun H9 a E9 R9 same9 ha => ?_⟩
      have t9 := E9.keep _ _ htr t8 rfl
      refine ⟨_, rfl, _, rfl, tu, _, rfl, .inr t9, r, sc, ns, _, rfl, R9, ⟨by omega, by omega⟩, fun HA b EA RA sameA hb => ?_⟩
      rw [ln8] at ha hb
      refine ⟨_, _, rfl, ?_⟩
      have tA := EA.keep _ _ htr t9 rfl
      have dA : HA d = some (.dT (kvOf L)) := same_at sameA hdr (same_at same9 hdr d8)
      have sA : HA s = some (.lst (iv (cntOf N1 L))) := same_at sameA hsr (same_at same9 hsr s8)
      have eA : ExtB r H0 HA := (e8.trans E9).trans EA
      have hbn : 0 ≤ b ∧ b < N1 := by omega
      have inv0 : ∀ (o10 : Option V) (H' : Hp) (L' : List Look3), ExtB r H0 H' → Rw K H' r sc ns → H' tu = some (.tup (iv ts)) → H' d = some (.dT (kvOf L')) → H' s = some (.lst (iv (cntOf N1 L'))) → FdOk N1 L' → L'.length ≤ i + 1 →
          ∃ (L : List Look3) (p4 p8 p9 p10 : Option V), ([some (.ref r), some (.int n), some (.int most), some (.int looks), some (.int a), some (.ref tu), some (.ref d), some (.ref s), some (.int (0 + (i : Int))), some (.int b), o10] : L2.St) = [some (.ref r), some (.int n), some (.int most), some (.int looks), p4, some (.ref tu), some (.ref d), some (.ref s), p8, p9, p10] ∧ ExtB r H0 H' ∧ Rw K H' r sc ns ∧ H' tu = some (.tup (iv ts)) ∧ H' d = some (.dT (kvOf L)) ∧ H' s = some (.lst (iv (cntOf N1 L))) ∧ FdOk N1 L ∧ L.length ≤ i + 1 :=
        fun o10 H' L' h1 h2 h3 h4 h5 h6 h7 => ⟨L', _, _, _, _, rfl, h1, h2, h3, h4, h5, h6, h7⟩
      refine ⟨_, rfl, _, rfl, (by show 2 ≤ sizeLine; decide), fun y hy => ?_⟩
      have XC := Ext.new hy (.tup [.int a, .int b])
      have tC := XC.tup tA
      have dC := XC.keep _ _ dA rfl
      have sC := XC.lst sA
      have RC := RA.ext XC
      have eC := eA.trans XC.b
      refine ⟨_, rfl, d, valV (kvOf L) [Sum.inl a, Sum.inl b], rfl, .inr ⟨kvOf L, _, y, .inl dC, rfl, upd_same, rfl⟩, _, rfl, ?_⟩
      generalize L2.upd HA y (.tup [.int a, .int b]) = HC at tC dC sC RC eC
      cases ev : valV (kvOf L) [Sum.inl a, Sum.inl b] with
      | some v => exact iteF (inv0 _ _ L eC RC tC dC sC ok8 (by omega))
      | none =>
        refine iteT ?_
        refine ⟨_, rfl, _, rfl, s, _, _, _, rfl, rfl, sC, at_of (j := b.toNat) (by omega) (iv_at (cntOf_at hbn.1 hbn.2)), _, _, rfl, rfl, _, rfl, ?_⟩
        by_cases h4 : (((L.filter fun l => l.2.1 == b).length : Nat) : Int) < 3
        · rw [decide_eq_true h4]
          refine iteT ?_
          refine ⟨_, rfl, _, rfl, (by show 2 ≤ sizeLine; decide), fun q hq => ?_⟩
          have XQ := Ext.new hq (.lst [.int 1, .int (-1)])
          have RQ := RC.ext XQ
          have hqr := RC.ne_none hq
          refine ⟨r, sc, q, ns, _, rfl, RQ, upd_same, hqr, ⟨by decide, by decide⟩, fun HD v j ED RD sameD hv => ?_⟩
          obtain ⟨sg, hsg, rfl⟩ : ∃ sg : Int, (sg = 1 ∨ sg = -1) ∧ v = .int sg := by
            match j, hv with
            | 0, hv => cases hv; exact ⟨1, .inl rfl, rfl⟩
            | 1, hv => cases hv; exact ⟨-1, .inr rfl, rfl⟩
          have tD := ED.keep _ _ htr (XQ.tup tC) rfl
          have dD : HD d = some (.dT (kvOf L)) := same_at sameD hdr (XQ.keep _ _ dC rfl)
          have sD : HD s = some (.lst (iv (cntOf N1 L))) := same_at sameD hsr (XQ.lst sC)
          have eD := (eC.trans XQ.b).trans ED
          refine ⟨_, rfl, _, rfl, s, _, _, _, rfl, rfl, sD, at_of (j := b.toNat) (by omega) (iv_at (cntOf_at hbn.1 hbn.2)), _, _, rfl, rfl, ?_⟩
          refine ⟨(by show 2 ≤ sizeLine; decide), fun u2 hu2 => ⟨u2, _, rfl, upd_same, rfl, ?_⟩⟩
          have XE := Ext.new hu2 (.tup [.int sg, .int ((((L.filter fun l => l.2.1 == b).length : Nat) : Int) + 1)])
          have tE := XE.tup tD
          have dE := XE.keep _ _ dD rfl
          have sE := XE.lst sD
          have RE := RD.ext XE
          have eE := eD.trans XE.b
          generalize L2.upd HD u2 (.tup [.int sg, .int ((((L.filter fun l => l.2.1 == b).length : Nat) : Int) + 1)]) = HE at tE dE sE RE eE
          refine ⟨_, _, rfl, _, rfl, _, rfl, _, rfl, (by show 2 ≤ sizeLine; decide), fun y2 hy2 => ?_⟩
          have XF := Ext.new hy2 (.tup [.int a, .int b])
          have dF := XF.keep _ _ dE rfl
          have lkv : (kvOf L).length = L.length := by unfold kvOf; rw [List.length_map]
          have hi14 : L.length < 14 := by omega
          refine ⟨d, _, rfl, .inr ⟨kvOf L, [Sum.inl a, Sum.inl b], y2, dF, rfl, upd_same, by rw [lkv]; exact small1000 (by omega), rfl⟩, ?_⟩
          have ek : putK (kvOf L) [Sum.inl a, Sum.inl b] (V.int sg) = kvOf (L ++ [(a, b, sg)]) := by
            rw [putK_new _ ev]
            unfold kvOf
            rw [List.map_append]
            rfl
          rw [ek]
          have eG := (eE.trans XF.b).put d0 (.dT (kvOf (L ++ [(a, b, sg)])))
          have RG := (RE.ext XF).put R0 d0 (.dT (kvOf (L ++ [(a, b, sg)])))
          have sG : L2.upd (L2.upd HE y2 (.tup [.int a, .int b])) d (.dT (kvOf (L ++ [(a, b, sg)]))) s = some (.lst (iv (cntOf N1 L))) := by rw [upd_ne hds.symm]; exact XF.lst sE
          refine ⟨_, _, rfl, _, rfl, _, rfl, s, _, _, b.toNat, rfl, rfl, sG, ?_, rfl, ?_⟩
          · rw [iv_len, cntOf_len]
            unfold ixN
            rw [if_pos hbn.1, if_pos hbn.2]
          · have es : (iv (cntOf N1 L)).set b.toNat (V.int ((((L.filter fun l => l.2.1 == b).length : Nat) : Int) + 1)) = iv (cntOf N1 (L ++ [(a, b, sg)])) := by
              rw [← cntOf_snoc (l := (a, b, sg)) hbn.1 hbn.2]
              unfold iv
              rw [List.map_set]
            rw [es]
            refine inv0 _ _ (L ++ [(a, b, sg)]) (eG.put s0' _) (RG.put R0 s0' _) ?_ ?_ upd_same (ok8.snoc (kv_not ev) ⟨by omega, hbn, hsg⟩ hi14 (by show (L.filter fun k => k.2.1 == b).length < 4; omega)) (by rw [List.length_append]; simp only [List.length_singleton]; omega)
            · rw [upd_ne hts, upd_ne htd]
              exact XF.tup tE
            · rw [upd_ne hds, upd_same]
        · rw [decide_eq_false h4]
          exact iteF (inv0 _ _ L eC RC tC dC sC ok8 (by omega))
    · rintro σ H8 ⟨L, o4, o8, o9, o10, rfl, e8, R8, t8, d8, s8, ok8, lL8⟩
      refine ⟨_, rfl, _, rfl, d, kvOf L, rfl, .inl d8, fun p bs hp hk => ?_⟩
      have XA := Ext.new hp (.lst (bs.map V.ref))
      have hky : Paired (KyAt (L2.upd H8 p (.lst (bs.map V.ref)))) (bs.map V.ref) L := paired_mono (fun x l ⟨b, e, h⟩ => ⟨b, e, XA.tup h⟩) (keys_ky hk)
      have lbs : (bs.map V.ref).length = L.length := paired_len hky
      refine ⟨p, _, rfl, SqL.of upd_same, by rw [lbs]; have := ok8.len; omega, fun x hx => ?_, fun ys q perm pw hq => ?_⟩
      · obtain ⟨i, hi, rfl⟩ := List.getElem_of_mem hx
        obtain ⟨l, hl, b, e, hb⟩ := paired_get' hky (List.getElem?_eq_getElem hi)
        have h1 := ok8.rng l (List.mem_of_getElem? hl)
        rw [e]
        refine ⟨[l.1, l.2.1], ⟨b, rfl, SqT.of hb⟩, rfl, fun m hm => ?_⟩
        rcases List.mem_cons.mp hm with h | hm
        · omega
        · rw [List.mem_singleton.mp hm]
          omega
      obtain ⟨L', pL, hys⟩ := perm_paired perm hky
      have rng' : ∀ l ∈ L', (0 ≤ l.1 ∧ l.1 < N1) ∧ (0 ≤ l.2.1 ∧ l.2.1 < N1) ∧ (l.2.2 = 1 ∨ l.2.2 = -1) := fun l hl => ok8.rng l (pL.mem_iff.mp hl)
      have pw1 : L'.Pairwise fun k l => TS.code 64 [k.1, k.2.1] ≤ TS.code 64 [l.1, l.2.1] := paired_pw (fun x y k l ⟨b, e1, h1⟩ ⟨c, e2, h2⟩ hs => hs _ _ ⟨b, e1, SqT.of h1⟩ ⟨c, e2, SqT.of h2⟩) hys pw
      have nd' : (L'.map fun l => (l.1, l.2.1)).Nodup := (pL.map _).nodup_iff.mpr ok8.nd
      have asc : L'.Pairwise fun k l => k.1 < l.1 ∨ k.1 = l.1 ∧ k.2.1 < l.2.1 := by
        refine List.Pairwise.imp_of_mem (fun {k l} hk hl h => ?_) (pw1.and (List.pairwise_map.mp nd'))
        have g1 := rng' k hk
        have g2 := rng' l hl
        refine pair_lt h.1 (fun e => h.2 ?_) ⟨by omega, by omega⟩ ⟨by omega, by omega⟩ ⟨by omega, by omega⟩ ⟨by omega, by omega⟩
        injection e with e1 e2
        injection e2 with e2
        rw [e1, e2]
      have lL : L'.length = L.length := pL.length_eq
      have l14 := ok8.len
      have Wok : Web.Ok ⟨ts, L'⟩ := by
        refine ⟨by show 1 ≤ ts.length; omega, by show ts.length ≤ 6; omega, fun t ht => by have := b1 t ht; omega, by show L'.length ≤ 14; omega, fun l hl => ?_, asc, fun f => ?_⟩
        · have := rng' l hl
          have e : ts.length = N1 := l1
          show (0 ≤ l.1 ∧ l.1 < (ts.length : Int)) ∧ (0 ≤ l.2.1 ∧ l.2.1 < (ts.length : Int)) ∧ _
          rw [e]
          exact this
        · show ((L'.map fun l => l.2.1).filter fun o => o == f).length ≤ 4
          rw [List.filter_map, List.length_map, (pL.filter _).length_eq]
          exact ok8.four f
      have XB := XA.trans (Ext.new hq (.lst ys))
      have hys2 : Paired (KyAt (L2.upd (L2.upd H8 p (.lst (bs.map V.ref))) q (.lst ys))) ys L' := paired_mono (fun x l ⟨b, e, h⟩ => ⟨b, e, (Ext.new hq (.lst ys)).tup h⟩) hys
      refine ⟨q, rfl, ⟨_, SqL.of upd_same⟩, fun D2 hD2 => ?_⟩
      have lys : ys.length = L'.length := paired_len hys
      generalize hHB : L2.upd (L2.upd H8 p (.lst (bs.map V.ref))) q (.lst ys) = HB at XB hys2 hD2 ⊢
      have hqB : HB q = some (.lst ys) := by rw [← hHB]; exact upd_same
      clear hHB
      refine lc_list (K := K) (a := q) (xs := ys) (fun i H' => ∃ acc, H' D2 = some (.lst acc) ∧ Ext HB H' ∧ acc.length = i ∧ Paired (TI H') acc ((L'.take i).map row3)) ⟨[], upd_same, Ext.new hD2 _, rfl, by simpa using Paired.nil⟩ (fun i H' _ ⟨_, _, e, _⟩ => SqL.of (e.lst hqB)) (fun i x H' hi ⟨acc, hacc, e, hl, hpa⟩ => ?_) fun H' ⟨acc, hacc, e, hl, hpa⟩ => ?_
      · obtain ⟨l, hlk, b, rfl, hb⟩ := paired_get' hys2 hi
        have hlL : l ∈ L := pL.mem_iff.mp (List.mem_of_getElem? hlk)
        have hi14 : i < L'.length := (List.getElem?_eq_some_iff.mp hlk).1
        refine ⟨rfl, yes ?_⟩
        refine ⟨_, rfl, _, rfl, _, rfl, d, .int l.2.2, rfl, .inr ⟨kvOf L, [Sum.inl l.1, Sum.inl l.2.1], b, .inl ((XB.trans e).keep _ _ d8 rfl), rfl, e.tup hb, (kv_get ok8.nd hlL).symm⟩, (by show 1 ≤ sizeLine; decide), fun w hw => ?_⟩
        have hb' := e.tup hb
        have hbw : b ≠ w := ne_of_none hb' hw
        refine ⟨b, w, [.int l.1, .int l.2.1], [.int l.2.2], rfl, rfl, by rw [upd_ne hbw]; exact hb', upd_same, (by show 3 ≤ sizeLine; decide), (fun h => by cases h), (fun _ h => by cases h), fun _ _ x hx => ?_⟩
        have EE := (Ext.new hw (.tup [V.int l.2.2])).trans (Ext.new hx (.tup ([.int l.1, .int l.2.1] ++ [.int l.2.2])))
        have hac := EE.lst hacc
        refine ⟨acc, hac, small1000 (by omega), acc ++ [.ref x], upd_same, (e.trans EE).put hD2 _, by rw [List.length_append, hl]; rfl, ?_⟩
        rw [take_snoc hlk, List.map_append]
        exact pTI.put hac (fun _ _ h => h) (paired_snoc ⟨x, rfl, upd_same⟩ (pTI.ext EE hpa))
      · rw [lys, List.take_length] at hpa
        refine ⟨D2, acc, rfl, hacc, fun v hv => ⟨(by show 2 ≤ sizeLine; decide), fun wv hwv => ?_⟩⟩
        have EV := (XB.trans e).trans ((Ext.new hv (.tup acc)).trans (Ext.new hwv (.tup [.ref tu, .ref v])))
        refine k _ _ ⟨ts, L'⟩ (E0.trans (e8.trans EV.b)) (R8.ext EV) ⟨wv, .ref tu, .ref v, rfl, upd_same, ⟨tu, rfl, EV.tup t8⟩, ⟨v, acc, rfl, ?_, pTI.ext ((Ext.new hv _).trans (Ext.new hwv _)) hpa⟩⟩ Wok (by show ts.length ≤ n; omega) (fun t ht => (b1 t ht).2) (by show L'.length ≤ looks; omega)
        exact (Ext.new hwv _).tup upd_same
end
end Lk


/-! ## RD -/
set_option Elab.async false
set_option linter.all false
set_option maxRecDepth 100000
set_option maxHeartbeats 2000000
/-! All rings by a walk that takes up the last path first. -/
namespace Lk
open PySem PySem.Spec PyProof.Rows L2 Gx
variable [Own]
section
variable {ls : List Look3}
theorem nums_nodup (a b : Int) : (nums a b).Nodup := by
  unfold nums
  refine List.pairwise_map.mpr (List.Pairwise.imp (fun {x y} h e => ?_) List.nodup_range)
  exact h (by omega)
theorem snoc_inj {α : Type} {p q : List α} {m n : α} (h : p ++ [m] = q ++ [n]) : p = q ∧ m = n := by
  have := List.append_inj' h rfl
  exact ⟨this.1, (List.cons.inj this.2).1⟩
theorem longer_nodup (p : List Int) : (longer ls p).Nodup := by
  unfold longer
  split
  · exact List.nodup_nil
  · exact List.pairwise_map.mpr (List.Pairwise.imp (fun {x y} h e => h (snoc_inj e).2) ((nums_nodup _ _).filter _))
theorem level_nodup : ∀ k, (level ls k).Nodup
  | 0 => List.pairwise_map.mpr (List.Pairwise.imp (fun {x y} h e => h (List.cons.inj e).1) (nums_nodup _ _))
  | k + 1 => by
    show ((level ls k).flatMap (longer ls)).Nodup
    rw [List.Nodup, List.pairwise_flatMap]
    refine ⟨fun p _ => longer_nodup p, List.Pairwise.imp (fun {p q} h x hx y hy e => ?_) (level_nodup k)⟩
    obtain ⟨_, m, rfl, _⟩ := longer_mem hx
    obtain ⟨_, n, rfl, _⟩ := longer_mem hy
    exact h (snoc_inj e).1
theorem found_nodup : ∀ k, (foundN ls k).Nodup
  | 0 => List.nodup_nil
  | k + 1 => by
    show (foundN ls k ++ (level ls k).filter (closesP ls)).Nodup
    refine List.nodup_append.mpr ⟨found_nodup k, (level_nodup k).filter _, fun p hp q hq e => ?_⟩
    obtain ⟨j, hj, hl, _⟩ := found_mem hp
    have h1 := (level_ok j hl).2
    have h2 := (level_ok k (List.mem_filter.mp hq).1).2
    rw [e] at h1
    omega
theorem rings_nodup (W : Web) : (ringsOf W).Nodup := (sortT_perm _).nodup_iff.mpr (found_nodup 7)
/-- a path so far: those looked at are all unlike -/
structure Stk (ls : List Look3) (p : List Int) : Prop where
  ne : p ≠ []
  num : ∀ n ∈ p, 0 ≤ n ∧ n < ls.length
  nd : (p.map (lkd ls)).Nodup
  least : ∀ n ∈ p, p.headD 0 ≤ n
  chain : ∀ (i : Nat) (a b : Int), p[i]? = some a → p[i + 1]? = some b → lkr ls a = lkd ls b
theorem stk_one {n : Int} (h : 0 ≤ n ∧ n < ls.length) : Stk ls [n] :=
  ⟨by simp, fun m hm => by rw [List.mem_singleton.mp hm]; exact h, by simp, fun m hm => by rw [List.mem_singleton.mp hm]; exact Int.le_refl _, fun i a b h1 h2 => by simp at h2⟩
theorem stk_len (six : ∀ l ∈ ls, 0 ≤ l.1 ∧ l.1 < (6 : Int)) {p : List Int} (h : Stk ls p) : p.length ≤ 6 := by
  have := nodup_le (p.map (lkd ls)) (nums 0 6) h.nd fun x hx => by
    obtain ⟨n, hn, rfl⟩ := List.mem_map.mp hx
    have h := h.num n hn
    exact mem_nums.mpr (six _ (lookN_mem h.1 h.2))
  rw [List.length_map, nums_len] at this
  exact this
/-- the paths one look longer -/
def kids (ls : List Look3) (p : List Int) : List (List Int) := ((nums (p.headD 0 + 1) ls.length).filter fun k => lkd ls k == lkr ls (p.getLastD 0)).map fun k => p ++ [k]
theorem stk_more {p : List Int} (h : Stk ls p) (hs : lkr ls (p.getLastD 0) ∉ p.map (lkd ls)) {q : List Int} (hq : q ∈ kids ls p) : Stk ls q ∧ q.length = p.length + 1 ∧ p <+: q ∧ q ≠ p := by
  obtain ⟨k, hk, rfl⟩ := List.mem_map.mp hq
  obtain ⟨hk1, hk2⟩ := List.mem_filter.mp hk
  have hk1 := mem_nums.mp hk1
  have hk2 : lkd ls k = lkr ls (p.getLastD 0) := beq_iff_eq.mp hk2
  have h0 := h.num _ (headD_mem h.ne)
  refine ⟨⟨by simp, fun m hm => ?_, ?_, fun m hm => ?_, fun i a b h1 h2 => ?_⟩, by rw [List.length_append] <;> rfl, List.prefix_append _ _, fun e => by have := congrArg List.length e; simp at this⟩
  · rcases List.mem_append.mp hm with q | q
    · exact h.num m q
    · rw [List.mem_singleton.mp q]
      omega
  · rw [List.map_append, List.map_singleton]
    refine List.nodup_append.mpr ⟨h.nd, by simp, fun a ha b hb e => ?_⟩
    rw [List.mem_singleton.mp hb, hk2] at e
    exact hs (e ▸ ha)
  · rw [headD_app h.ne]
    rcases List.mem_append.mp hm with q | q
    · exact h.least m q
    · rw [List.mem_singleton.mp q]
      omega
  · by_cases hi : i + 1 < p.length
    · rw [List.getElem?_append_left (by omega)] at h1
      rw [List.getElem?_append_left hi] at h2
      exact h.chain i a b h1 h2
    · have hl : i + 1 = p.length := by
        have := (List.getElem?_eq_some_iff.mp h2).1
        rw [List.length_append, List.length_singleton] at this
        omega
      rw [List.getElem?_append_right (by omega), hl, Nat.sub_self] at h2
      rw [List.getElem?_append_left (by omega)] at h1
      have e1 := getLastD_get h.ne
      rw [show p.length - 1 = i by omega, h1] at e1
      have eb : k = b := by simpa using h2
      rw [Option.some.inj e1, ← eb]
      exact hk2.symm
/-- a path that closes is a ring -/
theorem stk_ring {p : List Int} (h : Stk ls p) (hc : closesP ls p = true) : PathOk ls p := by
  refine ⟨h.ne, h.num, ?_, h.least, h.chain⟩
  cases p with
  | nil => exact absurd rfl h.ne
  | cons a r =>
    have e : (a :: r).map (lkr ls) = r.map (lkd ls) ++ [lkd ls a] := by
      refine List.ext_getElem? fun i => ?_
      rw [List.getElem?_map]
      by_cases hi : i < r.length
      · have h2 : (a :: r)[i + 1]? = some r[i] := by rw [List.getElem?_cons_succ, List.getElem?_eq_getElem hi]
        have hi3 : i < (a :: r).length := by rw [List.length_cons]; omega
        have h1 : (a :: r)[i]? = some (a :: r)[i] := List.getElem?_eq_getElem hi3
        have c := h.chain i _ _ h1 h2
        rw [List.getElem?_append_left (by rw [List.length_map]; exact hi), List.getElem?_map, List.getElem?_eq_getElem hi, h1]
        show some (lkr ls _) = some (lkd ls _)
        rw [c]
      · by_cases hi2 : i = r.length
        · subst hi2
          have e1 := getLastD_get (p := a :: r) (by simp)
          rw [show (a :: r).length - 1 = r.length by simp] at e1
          rw [e1, List.getElem?_append_right (by rw [List.length_map]; exact Nat.le_refl _), List.length_map, Nat.sub_self]
          show some (lkr ls _) = some (lkd ls a)
          rw [beq_iff_eq.mp hc]
          rfl
        · rw [List.getElem?_eq_none (by rw [List.length_cons]; omega), List.getElem?_eq_none (by rw [List.length_append, List.length_map, List.length_singleton]; omega)]
          rfl
    rw [e]
    have nd := h.nd
    rw [List.map_cons] at nd
    exact (List.perm_append_singleton (lkd ls a) (r.map (lkd ls))).nodup_iff.mpr nd
/-- a ring goes on behind each of its beginnings -/
theorem ring_next {r p : List Int} (pk : PathOk ls r) (hc : closesP ls r = true) (hp : p <+: r) (hne : p ≠ []) :
    (closesP ls p = true ∧ p = r) ∨ (closesP ls p = false ∧ lkr ls (p.getLastD 0) ∉ p.map (lkd ls) ∧ ∃ q ∈ kids ls p, q <+: r) := by
  obtain ⟨t, rfl⟩ := hp
  have hl0 : 0 < p.length := List.length_pos_iff.mpr hne
  have hlast : (p ++ t)[p.length - 1]? = some (p.getLastD 0) := by
    rw [List.getElem?_append_left (by omega)]
    exact getLastD_get hne
  have hhead : (p ++ t).headD 0 = p.headD 0 := headD_app hne
  have uniq : ∀ (i j : Nat) (a b : Int), (p ++ t)[i]? = some a → (p ++ t)[j]? = some b → lkr ls a = lkr ls b → i = j := by
    intro i j a b hi hj e
    obtain ⟨li, ei⟩ := List.getElem?_eq_some_iff.mp hi
    obtain ⟨lj, ej⟩ := List.getElem?_eq_some_iff.mp hj
    have i1 := pk.nd.idxOf_getElem i (by rw [List.length_map]; exact li)
    have i2 := pk.nd.idxOf_getElem j (by rw [List.length_map]; exact lj)
    rw [List.getElem_map, ei] at i1
    rw [List.getElem_map, ej, ← e] at i2
    omega
  have hce : lkr ls ((p ++ t).getLastD 0) = lkd ls (p.headD 0) := by
    have := beq_iff_eq.mp hc
    rw [hhead] at this
    exact this
  have hrl := getLastD_get pk.ne
  cases t with
  | nil =>
    rw [List.append_nil] at hc ⊢
    exact .inl ⟨hc, rfl⟩
  | cons k t =>
    refine .inr ?_
    have hk : (p ++ k :: t)[p.length]? = some k := by
      rw [List.getElem?_append_right (Nat.le_refl _), Nat.sub_self] <;> rfl
    have hchain : lkr ls (p.getLastD 0) = lkd ls k := pk.chain (p.length - 1) _ _ hlast (by rw [show p.length - 1 + 1 = p.length by omega]; exact hk)
    have hlen : (p ++ k :: t).length = p.length + t.length + 1 := by rw [List.length_append, List.length_cons]; omega
    have ncl : lkr ls (p.getLastD 0) ≠ lkd ls (p.headD 0) := by
      intro e
      rw [← hce] at e
      have := uniq _ _ _ _ hlast hrl e
      omega
    refine ⟨beq_eq_false_iff_ne.mpr ncl, fun hm => ?_, p ++ [k], ?_, ⟨t, by rw [List.append_assoc] <;> rfl⟩⟩
    · obtain ⟨a, ha, e⟩ := List.mem_map.mp hm
      obtain ⟨j, hj, ej⟩ := List.mem_iff_getElem.mp ha
      cases j with
      | zero =>
        have : p.headD 0 = a := by
          cases p with
          | nil => exact absurd rfl hne
          | cons x l => exact ej
        rw [← this] at e
        exact ncl e.symm
      | succ j =>
        have h1 : (p ++ k :: t)[j]? = some p[j] := by rw [List.getElem?_append_left (by omega), List.getElem?_eq_getElem]
        have h2 : (p ++ k :: t)[j + 1]? = some a := by rw [List.getElem?_append_left hj, List.getElem?_eq_getElem hj, ej]
        have c := pk.chain j _ _ h1 h2
        rw [e] at c
        have := uniq _ _ _ _ h1 hlast c
        omega
    · have hn := pk.num k (List.mem_of_getElem? hk)
      have hle := pk.least k (List.mem_of_getElem? hk)
      rw [hhead] at hle
      have h0 : (p ++ k :: t)[0]? = some (p.headD 0) := by
        cases p with
        | nil => exact absurd rfl hne
        | cons x l => rfl
      have hne2 : k ≠ p.headD 0 := fun z => by
        have := uniq _ _ _ _ hk h0 (by rw [z])
        omega
      exact List.mem_map.mpr ⟨k, List.mem_filter.mpr ⟨mem_nums.mpr ⟨by omega, hn.2⟩, beq_iff_eq.mpr hchain.symm⟩, rfl⟩
end
/-- neither begins the other -/
def Inc (a b : List Int) : Prop := ¬ a <+: b ∧ ¬ b <+: a
theorem Inc.symm {a b : List Int} (h : Inc a b) : Inc b a := ⟨h.2, h.1⟩
/-- where the walk stands -/
structure Dfs (W : Web) (found stack : List (List Int)) : Prop where
  stk : ∀ p ∈ stack, Stk W.looks p
  fnd : ∀ p ∈ found, p ∈ ringsOf W
  inc : (stack ++ found).Pairwise Inc
  all : ∀ r ∈ ringsOf W, r ∈ found ∨ ∃ p ∈ stack, p <+: r
variable {W : Web} {found st : List (List Int)} {p : List Int}
theorem dfs_start (ok : W.Ok) : Dfs W [] ((nums 0 W.looks.length).map fun k => [k]) := by
  refine ⟨fun p hp => ?_, (fun _ h => by cases h), ?_, fun r hr => .inr ?_⟩
  · obtain ⟨k, hk, rfl⟩ := List.mem_map.mp hp
    exact stk_one (mem_nums.mp hk)
  · rw [List.append_nil]
    refine List.pairwise_map.mpr (List.Pairwise.imp (fun {x y} h => ?_) (nums_nodup _ _))
    constructor <;> intro z
    · exact h (by simpa using z)
    · exact h (by simpa using Eq.symm (by simpa using z))
  · obtain ⟨pk, _⟩ := (mem_rings ok).mp hr
    have h0 := pk.num _ (headD_mem pk.ne)
    refine ⟨[r.headD 0], List.mem_map.mpr ⟨_, mem_nums.mpr h0, rfl⟩, ?_⟩
    cases r with
    | nil => exact absurd rfl pk.ne
    | cons a l => exact ⟨l, rfl⟩
theorem dfs_found (ok : W.Ok) (h : Dfs W found (st ++ [p])) (hc : closesP W.looks p = true) : Dfs W (found ++ [p]) st := by
  have hs := h.stk p (by simp)
  have hpk := stk_ring hs hc
  have hm := (mem_rings ok).mpr ⟨hpk, hc⟩
  refine ⟨fun q hq => h.stk q (List.mem_append_left _ hq), fun q hq => ?_, ?_, fun r hr => ?_⟩
  · rcases List.mem_append.mp hq with z | z
    · exact h.fnd q z
    · rw [List.mem_singleton.mp z]
      exact hm
  · have := h.inc
    rw [List.append_assoc] at this
    refine (List.Perm.pairwise_iff (fun {a b} h => Inc.symm h) ?_).mp this
    exact List.perm_append_comm.append_left st
  · rcases h.all r hr with z | ⟨q, hq, hqr⟩
    · exact .inl (List.mem_append_left _ z)
    · rcases List.mem_append.mp hq with y | y
      · exact .inr ⟨q, y, hqr⟩
      · rw [List.mem_singleton.mp y] at hqr
        obtain ⟨rk, rc⟩ := (mem_rings ok).mp hr
        rcases ring_next rk rc hqr hs.ne with ⟨_, e⟩ | ⟨e, _⟩
        · exact .inl (by rw [← e]; simp)
        · rw [hc] at e
          cases e
theorem dfs_drop (ok : W.Ok) (h : Dfs W found (st ++ [p])) (hc : closesP W.looks p = false) (hs : lkr W.looks (p.getLastD 0) ∈ p.map (lkd W.looks)) : Dfs W found st := by
  have hk := h.stk p (by simp)
  refine ⟨fun q hq => h.stk q (List.mem_append_left _ hq), h.fnd, ?_, fun r hr => ?_⟩
  · refine h.inc.sublist ?_
    exact (List.sublist_append_left st [p]).append (List.Sublist.refl found)
  · rcases h.all r hr with z | ⟨q, hq, hqr⟩
    · exact .inl z
    · rcases List.mem_append.mp hq with y | y
      · exact .inr ⟨q, y, hqr⟩
      · rw [List.mem_singleton.mp y] at hqr
        obtain ⟨rk, rc⟩ := (mem_rings ok).mp hr
        rcases ring_next rk rc hqr hk.ne with ⟨e, _⟩ | ⟨_, e, _⟩
        · rw [hc] at e
          cases e
        · exact absurd hs e
theorem dfs_push (ok : W.Ok) (h : Dfs W found (st ++ [p])) (hc : closesP W.looks p = false) (hs : lkr W.looks (p.getLastD 0) ∉ p.map (lkd W.looks)) : Dfs W found (st ++ kids W.looks p) := by
  have hk := h.stk p (by simp)
  refine ⟨fun q hq => ?_, h.fnd, ?_, fun r hr => ?_⟩
  · rcases List.mem_append.mp hq with z | z
    · exact h.stk q (List.mem_append_left _ z)
    · exact (stk_more hk hs z).1
  · have hi := h.inc
    have e1 : st ++ [p] ++ found = st ++ (p :: found) := by rw [List.append_assoc] <;> rfl
    rw [e1] at hi
    obtain ⟨a1, a2, a3⟩ := List.pairwise_append.mp hi
    obtain ⟨b1, b2⟩ := List.pairwise_cons.mp a2
    have far : ∀ q ∈ kids W.looks p, ∀ x, Inc p x → Inc q x := fun q hq x hx => by
      obtain ⟨k, _, rfl⟩ := List.mem_map.mp hq
      refine ⟨fun z => hx.1 ((List.prefix_append p [k]).trans z), fun z => ?_⟩
      rcases List.prefix_concat_iff.mp z with e | e
      · exact hx.1 (by rw [e]; exact List.prefix_append p [k])
      · exact hx.2 e
    rw [List.append_assoc]
    refine List.pairwise_append.mpr ⟨a1, List.pairwise_append.mpr ⟨?_, b2, fun q hq x hx => far q hq x (b1 x hx)⟩, fun s hs2 x hx => ?_⟩
    · refine List.pairwise_map.mpr (List.Pairwise.imp (fun {x y} hxy => ?_) ((nums_nodup _ _).filter _))
      constructor <;> intro z
      · exact hxy (snoc_inj (z.eq_of_length (by rw [List.length_append, List.length_append] <;> rfl))).2
      · exact hxy (snoc_inj (z.eq_of_length (by rw [List.length_append, List.length_append] <;> rfl))).2.symm
    · rcases List.mem_append.mp hx with z | z
      · exact (far x z s (a3 s hs2 p (List.mem_cons_self ..)).symm).symm
      · exact a3 s hs2 x (List.mem_cons_of_mem _ z)
  · rcases h.all r hr with z | ⟨q, hq, hqr⟩
    · exact .inl z
    · rcases List.mem_append.mp hq with y | y
      · exact .inr ⟨q, List.mem_append_left _ y, hqr⟩
      · rw [List.mem_singleton.mp y] at hqr
        obtain ⟨rk, rc⟩ := (mem_rings ok).mp hr
        rcases ring_next rk rc hqr hk.ne with ⟨e, _⟩ | ⟨_, _, q2, h2, h3⟩
        · rw [hc] at e
          cases e
        · exact .inr ⟨q2, List.mem_append_right _ h2, h3⟩
theorem dfs_nodup (h : Dfs W found st) : found.Nodup := (List.pairwise_append.mp h.inc).2.1.imp fun {a b} h e => h.1 (by rw [e]; exact List.prefix_refl _)
theorem sortT_eq {a b : List (List Int)} (h : a.Perm b) : sortT a = sortT b := by
  unfold sortT
  refine List.Perm.eq_of_pairwise (le := fun a b => PySem.W.dataLe false dI a b = true) (fun x y _ _ h1 h2 => ?_) (PySem.W.sort_pairwise (PySem.W.sortLe_total _ _ _) _) (PySem.W.sort_pairwise (PySem.W.sortLe_total _ _ _) _) ((List.mergeSort_perm ..).trans (h.trans (List.mergeSort_perm ..).symm))
  have h1 : (!PySem.W.dataLt (dI y) (dI x)) = true := h1
  have h2 : (!PySem.W.dataLt (dI x) (dI y)) = true := h2
  rw [Bool.not_eq_true'] at h1 h2
  exact ints_inj (PyProof.Rows.lex_total _ _ h2 h1)
theorem dfs_end (ok : W.Ok) (h : Dfs W found []) : sortT found = ringsOf W := by
  have hp : found.Perm (ringsRaw W.looks) := by
    refine (List.perm_ext_iff_of_nodup (dfs_nodup h) (found_nodup 7)).mpr fun r => ⟨fun hr => sortT_mem.mp (h.fnd r hr), fun hr => ?_⟩
    rcases h.all r (sortT_mem.mpr hr) with z | ⟨_, z, _⟩
    · exact z
    · cases z
  exact sortT_eq hp
end Lk

/-! ## MinT -/
set_option Elab.async false
set_option linter.all false
set_option maxRecDepth 100000
set_option maxHeartbeats 2000000
/-! min(t) of a tuple of ints. -/
namespace Lk
open PySem PySem.Spec PyProof.Rows L2 Gx
variable [Own]
def rMinTI : List V → Hp → VK → Prop := fun vs H Q => ∃ (x : V) (ns : List Int), vs = [x] ∧ TI H x ns ∧ ns ≠ [] ∧ ∀ m, m ∈ ns → (∀ y ∈ ns, m ≤ y) → Q (.int m) H
theorem cr_minTI {X : Cx} (hc : X.calm = true) : CallR X (.builtin "min") rMinTI := by
  intro pins s σ H vs us Q I r h
  obtain ⟨x, ns, rfl, ⟨a, rfl, ha⟩, hne, q⟩ := h
  rw [Vals.ref1 r]
  obtain ⟨its, rv, hl, hz⟩ := I.tuple (SqT.of ha)
  have hlt : a < s.heap.objs.size := by
    obtain ⟨_, e, _⟩ := hl
    exact Heap.lt_size e
  have hlen : ns.length = its.length := by rw [← iv_len ns]; exact rv.length
  have hpos : 0 < ns.length := List.length_pos_iff.mpr hne
  have hval : ∀ (i : Nat) (v : Value), its.toArray[i]? = some v → ∃ t, v = Value.int (ns.getD i 0) t := fun i v hv => by
    have hv' : its[i]? = some v := by simpa using hv
    have hi := (List.getElem?_eq_some_iff.mp hv').1
    have hx : ns[i]? = some ns[i] := List.getElem?_eq_getElem (by omega)
    obtain ⟨u, hu, t, ru⟩ := rv.get (iv_at hx)
    rw [hv'] at hu
    cases hu
    exact ⟨t, by rw [ru, List.getD_eq_getElem?_getD, hx] <;> rfl⟩
  refine call_min_walk (wpAny_pyIter_tuple hl ?_)
  refine ⟨_, _, _, _, _, _, _, rfl, Walks.tuple (A := X.A.in1) (I.ok.hd hc) s.heap.objs.size a (Nat.ne_of_lt hlt) its.toArray, ⟨⟨_, Heap.get?_push_size _ rfl, rfl, rfl⟩, ?_⟩, fun b hb => ?_, by rw [List.size_toArray]; omega, CmpOf.ints_lt (fun i => ns.getD i 0) hval, fun v h' tk hP hk => ?_⟩
  · obtain ⟨o, e, r⟩ := hl
    exact ⟨o, Heap.get?_push_of_some _ e, r⟩
  · show b < (s.heap.push _).objs.size
    rw [Heap.size_push]
    rcases List.mem_cons.mp hb with e | hb
    · rw [e]
      exact Nat.lt_succ_self _
    · rw [List.mem_singleton.mp hb]
      exact Nat.lt_succ_of_lt hlt
  · obtain ⟨t, rfl⟩ := hval _ v hP
    obtain ⟨b1, b2⟩ := argBest_lt (fun i => ns.getD i 0) (its.toArray.size - 1)
    have hb : argBest (fun i j => decide (ns.getD i 0 < ns.getD j 0)) (its.toArray.size - 1) < ns.length := by
      rw [List.size_toArray] at b1 ⊢
      omega
    refine ⟨.int _, H, I.kept (t' := tk) fun b u e => hk b u (fun hmem => ?_) (Heap.get?_push_of_some _ e), ⟨t, rfl⟩, q _ ?_ fun j hj => ?_⟩
    · have e1 : b = s.heap.objs.size := List.mem_singleton.mp hmem
      have e2 := Heap.lt_size e
      rw [e1] at e2
      exact absurd e2 (Nat.lt_irrefl _)
    · rw [List.getD_eq_getElem?_getD, List.getElem?_eq_getElem hb]
      exact List.getElem_mem hb
    · obtain ⟨i, hi, e⟩ := List.mem_iff_getElem.mp hj
      have e2 : ns.getD i 0 = j := by rw [List.getD_eq_getElem?_getD, List.getElem?_eq_getElem hi, ← e] <;> rfl
      rw [← e2]
      refine b2 i ?_
      rw [List.size_toArray]
      omega
end Lk

/-! ## W32 -/
set_option Elab.async false
set_option linter.all false
set_option maxRecDepth 100000
set_option maxHeartbeats 4000000
namespace Lk
open PySem PySem.Spec PyProof.Rows L2 Gx
variable [Own]
abbrev s__law_rings : Stmt := top 46
theorem sc__law_rings : FnScope ["web", "k", "found", "last", "some", "starts", "end"] ["web"] (defScope s__law_rings) := ⟨rfl, rfl, rfl, by decide +kernel, rfl, by decide +kernel, by decide +kernel⟩
def spLawRings2 : Sp := fun vs H Q _ => ∃ (v : V) (W : Web), vs = [v] ∧ WebAt H v W ∧ W.Ok ∧ ∀ H' q us, Ext H H' → H q = none → H' q = some (.lst us) → Paired (TI H') us (ringsOf W) → Q (.ref q) H'
/-- what is still to walk, at most -/
def work (st : List (List Int)) : Nat := (st.map fun p => 15 ^ (7 - p.length)).sum
theorem work_app (a b : List (List Int)) : work (a ++ b) = work a + work b := by
  unfold work
  rw [List.map_append, List.sum_append]
theorem work_one (p : List Int) : work [p] = 15 ^ (7 - p.length) := by
  unfold work
  simp
theorem work_len {k : Nat} : ∀ {l : List (List Int)}, (∀ p ∈ l, p.length = k) → work l = l.length * 15 ^ (7 - k)
  | [], _ => by simp [work]
  | p :: l, h => by
    have e : work (p :: l) = 15 ^ (7 - p.length) + work l := by unfold work; simp
    rw [e, work_len fun q hq => h q (List.mem_cons_of_mem _ hq), h p (List.mem_cons_self ..), List.length_cons, Nat.add_mul, Nat.one_mul]
    omega
theorem work_big : ∀ {l : List (List Int)}, (∀ p ∈ l, p.length ≤ 6) → 15 * l.length ≤ work l
  | [], _ => by simp [work]
  | p :: l, h => by
    have e : work (p :: l) = 15 ^ (7 - p.length) + work l := by unfold work; simp
    have h1 := work_big fun q hq => h q (List.mem_cons_of_mem _ hq)
    have h2 := h p (List.mem_cons_self ..)
    have h3 : 15 ^ 1 ≤ 15 ^ (7 - p.length) := Nat.pow_le_pow_right (by decide) (by omega)
    rw [e, List.length_cons]
    omega
theorem kids_work {W : Web} {p : List Int} (l14 : W.looks.length ≤ 14) (h : Stk W.looks p) (l6 : p.length ≤ 6) (hs : lkr W.looks (p.getLastD 0) ∉ p.map (lkd W.looks)) : work (kids W.looks p) < work [p] ∧ (kids W.looks p).length ≤ 14 := by
  have h0 := h.num _ (headD_mem h.ne)
  have hk : (kids W.looks p).length ≤ 14 := by
    unfold kids
    rw [List.length_map]
    refine Nat.le_trans (List.length_filter_le _ _) ?_
    rw [nums_len]
    omega
  rw [work_len (k := p.length + 1) fun q hq => (stk_more h hs hq).2.1, work_one]
  have e : 7 - p.length = (7 - (p.length + 1)) + 1 := by omega
  have hp : 0 < 15 ^ (7 - (p.length + 1)) := Nat.pow_pos (by decide)
  refine ⟨?_, hk⟩
  rw [e, Nat.pow_succ]
  have : (kids W.looks p).length * 15 ^ (7 - (p.length + 1)) ≤ 14 * 15 ^ (7 - (p.length + 1)) := Nat.mul_le_mul_right _ hk
  omega
theorem rings_len2 {W : Web} (fw : W.Few) : (ringsOf W).length ≤ 8108730 := by
  unfold ringsOf
  rw [sortT_len]
  exact found_small fw.most fw.six 7
theorem kids_fm (ls : List Look3) (p : List Int) : ((nums (p.headD 0 + 1) ls.length).filterMap fun k => if (lkd ls k == lkr ls (p.getLastD 0)) = true then some (p ++ [k]) else none) = kids ls p := by
  unfold kids
  generalize nums (p.headD 0 + 1) (ls.length : Int) = l
  induction l with
  | nil => rfl
  | cons x l ih =>
    rw [List.filterMap_cons, List.filter_cons]
    cases h : lkd ls x == lkr ls (p.getLastD 0)
    · simp only [Bool.false_eq_true, if_false]
      exact ih
    · simp only [if_true]
      rw [List.map_cons, ih]
theorem paired_last {α β : Type} {R : α → β → Prop} : ∀ {st : List β} {p : β} {xs : List α}, Paired R xs (st ++ [p]) → ∃ xs' y, xs = xs' ++ [y] ∧ Paired R xs' st ∧ R y p
  | [], p, _, .cons r .nil => ⟨[], _, rfl, .nil, r⟩
  | q :: st, p, _, .cons r t => by
    obtain ⟨xs', y, e, h1, h2⟩ := paired_last t
    exact ⟨_ :: xs', y, by rw [e] <;> rfl, .cons r h1, h2⟩
section
variable {P : Program} {w : World} {K : PySem.W.Frag} {mg : Str → Option Value} {base : Heap} {Ps : List Addr}
theorem ok_law_rings2 {f : Addr} {fd : FuncData} (F : Fun K "_law_rings" "_law_rings" s__law_rings f fd) (B : Blt mg) : FnOk P w K mg base CX0 1 f fd ["web"] spLawRings2 := by
  refine F.ok sc__law_rings (fun vs H Q E h => ?_) (fun cdv A outer s H vs Q E hr h => ?_)
  · obtain ⟨v, W, rfl, _⟩ := h
    rfl
  · obtain ⟨v, W, rfl, ⟨a, t, l, rfl, ha, ht, ⟨b, ls, rfl, hb, hls⟩⟩, ok, k⟩ := h
    refine ⟨_, (pss_cons (ps_par (i := 2) (j := 3) rfl sc__law_rings.nd rfl rfl (by decide) rfl rfl (pa_cons (pe_lst pa_nil) (pa_cons (pe_lc (own := [("k", 1)]) rfl sc__law_rings.nd (pi_range1 (by rfl) B.range (pa_cons (pe_callB call_lenT (by rfl) B.len PySem.boot_len (pa_cons (pe_ix ix_tT (pv 0) pe_int (fun _ _ => rfl)) pa_nil)) pa_nil)) (blkOk_by (N := ["web", "k", "found", "last", "some", "starts", "end"]) (sc := defScope s__law_rings) (by decide +kernel)) (fun _ _ _ _ _ => (pg_name (i := 1) sc__law_rings.nd rfl (by first | exact Or.inl rfl | exact Or.inr rfl))) (fun _ _ _ _ _ => pts_nil) (fun _ _ _ _ _ => (pe_tup (pa_cons (pv 1) pa_nil)))) pa_nil)) (by rfl))
      (pss_cons (ps_while PassesOwn.never (pt_cmpR (op_neLT2 hr.units) (pv 3) (pe_lst pa_nil) (nomark _))
        (pss_cons (ps_set (i := 4) sc__law_rings.nd rfl (by first | exact Or.inl rfl | exact Or.inr rfl) (pe_bm0 PySem.F.plainAttrs_list PySem.F.slot_list_pop PySem.F.type_list_pop mt_pop (pv 3)))
        (pss_cons (ps_asg (pe_tup (pa_cons (pe_lc (own := [("k", 1)]) rfl sc__law_rings.nd (pi_tup (pv 4)) (blkOk_by (N := ["web", "k", "found", "last", "some", "starts", "end"]) (sc := defScope s__law_rings) (by decide +kernel)) (fun _ _ _ _ _ => (pg_name (i := 1) sc__law_rings.nd rfl (by first | exact Or.inl rfl | exact Or.inr rfl))) (fun _ _ _ _ _ => pts_nil) (fun _ _ _ _ _ => (pe_ix ix_tT (pe_ix ix_tT (pe_ix ix_tT (pv 0) pe_int (fun _ _ => rfl)) (pv 1) (fun _ _ => rfl)) pe_int (fun _ _ => rfl)))) (pa_cons (pe_ix ix_tT (pe_ix ix_tT (pe_ix ix_tT (pv 0) pe_int (fun _ _ => rfl)) (pe_ix ix_tT (pv 4) (pe_un un_neg pe_int) (fun _ _ => rfl)) (fun _ _ => rfl)) pe_int (fun _ _ => rfl)) pa_nil))) (pg_tupT (n := 2) rfl (pgs_cons (pg_name (i := 5) sc__law_rings.nd rfl (by first | exact Or.inl rfl | exact Or.inr rfl)) (pgs_cons (pg_name (i := 6) sc__law_rings.nd rfl (by first | exact Or.inl rfl | exact Or.inr rfl)) pgs_nil))))
        (pss_one (ps_if (pt_cmpR op_eq (pv 6) (pe_ix ix_lT (pv 5) pe_int (fun _ _ => rfl)) (nomark _))
          (pss_one (ps_expr (pe_bmL PySem.F.plainAttrs_list PySem.F.slot_list_append PySem.F.type_list_append mt_append (pv 2) (pa_cons (pv 4) pa_nil)))) (pss_one (ps_if (pt_cmpR op_notIn_seq (pv 6) (pv 5) (by with_unfolding_all rfl))
            (pss_one (ps_set (i := 3) sc__law_rings.nd rfl (by first | exact Or.inl rfl | exact Or.inr rfl) (pe_op op_cat (pv 3) (pe_lc (own := [("k", 1)]) rfl sc__law_rings.nd (pi_range2 (by rfl) B.range (pa_cons (pe_op op_add (pe_ix ix_tT (pv 4) pe_int (fun _ _ => rfl)) pe_int) (pa_cons (pe_callB call_lenT (by rfl) B.len PySem.boot_len (pa_cons (pe_ix ix_tT (pv 0) pe_int (fun _ _ => rfl)) pa_nil)) pa_nil))) (blkOk_by (N := ["web", "k", "found", "last", "some", "starts", "end"]) (sc := defScope s__law_rings) (by decide +kernel)) (fun _ _ _ _ _ => (pg_name (i := 1) sc__law_rings.nd rfl (by first | exact Or.inl rfl | exact Or.inr rfl))) (fun _ _ _ _ _ => (pts_one (pt_cmpR op_eq (pe_ix ix_tT (pe_ix ix_tT (pe_ix ix_tT (pv 0) pe_int (fun _ _ => rfl)) (pv 1) (fun _ _ => rfl)) pe_int (fun _ _ => rfl)) (pv 6) (nomark _)))) (fun _ _ _ _ _ => (pe_op op_catTT (pv 4) (pe_tup (pa_cons (pv 1) pa_nil)))))))) pss_nil)))))))
      (pss_one (ps_ret (pe_callB (cr_sortTI hr.units) (by rfl) B.sorted boot_sorted (pa_cons (pv 2) pa_nil)))))), ?_⟩
    have l14 := ok.most
    have fw := ok.fewL
    have llen : ls.length = W.looks.length := by rw [paired_len hls, List.length_map]
    have hz0 : sizeLine = 16777216 := rfl
    have six : ∀ l ∈ W.looks, 0 ≤ l.1 ∧ l.1 < (6 : Int) := fun l hl => by
      have := (ok.look l hl).1
      have := ok.few
      omega
    refine ⟨(by show 0 ≤ sizeLine; decide), fun fa hfa0 => ?_⟩
    have E1 : Ext H (upd H fa (.lst [])) := Ext.new hfa0 _
    refine ⟨_, rfl, a, _, _, _, rfl, rfl, E1.tup ha, at_of (j := 1) rfl rfl, b, _, rfl, .inr (E1.tup hb), _, rfl, by omega, by omega, fun D hD => ?_⟩
    have e0 : ((ls.length : Int)).toNat = ls.length := by omega
    rw [e0]
    refine lc_fmR (lo := 0) (n := ls.length) (S := TI) stTI (fun n => some [n]) hD (Nat.le_of_lt (small1000 (by omega))) (fun n H' Ky Kn e h1 h2 k1 k2 => ?_) fun H' acc e hacc hp => ?_
    · refine ⟨rfl, yes ⟨_, rfl, (by show 1 ≤ sizeLine; decide), fun u hu => k1 _ _ _ rfl (Ext.new hu _) ⟨u, rfl, upd_same⟩⟩⟩
    have e00 : ((nums 0 (0 + (ls.length : Int))).filterMap fun n => some [n]) = (nums 0 W.looks.length).map fun k => [k] := by
      rw [List.filterMap_eq_map', llen, Int.zero_add] <;> rfl
    rw [e00] at hp
    have hDfa : fa ≠ D := fun z => by rw [← z, upd_same] at hD; cases hD
    have hD0 : H D = none := E1.free hD
    have hw0 : work ((nums 0 W.looks.length).map fun k => [k]) ≤ 159468750 := by
      rw [work_len (k := 1) fun q hq => by obtain ⟨k, _, rfl⟩ := List.mem_map.mp hq; rfl, List.length_map, nums_len]
      have : ((W.looks.length : Int) - 0).toNat ≤ 14 := by omega
      exact Nat.le_trans (Nat.mul_le_mul_right _ this) (by decide)
    refine ⟨_, _, rfl, ?_⟩
    refine ⟨fun m σ H2 => ∃ (la : Addr) (fv lv : List V) (found st : List (List Int)) (o1 o4 o5 o6 : Option V), m = work st ∧ σ = [some (.ref a), o1, some (.ref fa), some (.ref la), o4, o5, o6] ∧ Ext H H2 ∧ H2 fa = some (.lst fv) ∧ Paired (TI H2) fv found ∧ H2 la = some (.lst lv) ∧ Paired (TI H2) lv st ∧ fa ≠ la ∧ H la = none ∧ Dfs W found st ∧ work st ≤ 159468750,
      ⟨_, D, [], acc, [], _, _, none, none, none, rfl, rfl, E1.trans e, e.lst upd_same, .nil, hacc, hp, hDfa, hD0, dfs_start ok, hw0⟩, ?_⟩
    rintro m σ H2 ⟨la, fv, lv, found, st, o1, o4, o5, o6, rfl, rfl, e2, hfa, hfp, hla, hlp, nfl, hla0, dfs, hwk⟩
    refine ⟨_, rfl, (by show 0 ≤ sizeLine; decide), fun p hp0 => ?_⟩
    have X1 := Ext.new hp0 (HO.lst [])
    refine ⟨st, [], ⟨la, lv, rfl, X1.lst hla, pTI.ext X1 hlp⟩, ⟨p, [], rfl, upd_same, .nil⟩, _, rfl, ?_⟩
    generalize hY : upd H2 p (HO.lst []) = Y at X1
    have hfaY := X1.lst hfa
    have hfpY := pTI.ext X1 hfp
    have hlaY := X1.lst hla
    have hlpY := pTI.ext X1 hlp
    have eY := e2.trans X1
    clear hY hlp hla hfp hfa X1 e2
    by_cases hl0 : st = []
    · rw [decide_eq_true hl0]
      refine iteF ?_
      subst hl0
      have hall := dfs_end ok dfs
      refine ⟨_, rfl, fa, fv, _, rfl, hfaY, hfpY, fun r hr => ((mem_rings ok).mp (dfs.fnd r hr)).1.ne, fun p ys hp0 hys => ?_⟩
      rw [hall] at hys
      exact k _ p ys (eY.trans (Ext.new hp0 _)) (eY.free hp0) upd_same (pTI.ext (Ext.new hp0 _) hys)
    · rw [decide_eq_false hl0]
      refine iteT ?_
      obtain ⟨st', pp, rfl⟩ : ∃ st' pp, st = st' ++ [pp] := ⟨_, _, (List.dropLast_concat_getLast hl0).symm⟩
      have hstk := dfs.stk pp (by simp)
      have l6 := stk_len six hstk
      have hbig : 15 * (st' ++ [pp]).length ≤ work (st' ++ [pp]) := work_big fun q hq => stk_len six (dfs.stk q hq)
      have hwa := work_app st' [pp]
      have hw1 : 0 < work [pp] := by rw [work_one]; exact Nat.pow_pos (by decide)
      have lfd : found.length ≤ 8108730 := Nat.le_trans (nodup_le found (ringsOf W) (dfs_nodup dfs) dfs.fnd) (rings_len2 fw)
      have lfv := paired_len hfpY
      refine ⟨fun σ' H' => ∃ m', m' < work (st' ++ [pp]) ∧ ∃ (la : Addr) (fv lv : List V) (found st : List (List Int)) (o1 o4 o5 o6 : Option V), m' = work st ∧ σ' = [some (.ref a), o1, some (.ref fa), some (.ref la), o4, o5, o6] ∧ Ext H H' ∧ H' fa = some (.lst fv) ∧ Paired (TI H') fv found ∧ H' la = some (.lst lv) ∧ Paired (TI H') lv st ∧ fa ≠ la ∧ H la = none ∧ Dfs W found st ∧ work st ≤ 159468750, fun _ _ h => h, ?_⟩
      -- the last path
      obtain ⟨lv', y, rfl, hlv', z, rfl, hz⟩ := paired_last hlpY
      refine ⟨_, rfl, .inl ⟨rfl, _, SqL.of hlaY⟩, la, _, .ref z, rfl, rfl, hlaY, by simp, ?_⟩
      rw [List.dropLast_concat]
      have eZ := eY.put hla0 (.lst lv')
      have hlaZ : (L2.upd Y la (.lst lv')) la = some (.lst lv') := upd_same
      have hlvZ : Paired (TI (L2.upd Y la (.lst lv'))) lv' st' := paired_mono (fun _ _ h => stTI.put hlaY h) hlv'
      have hfpZ : Paired (TI (L2.upd Y la (.lst lv'))) fv found := paired_mono (fun _ _ h => stTI.put hlaY h) hfpY
      have hfaZ : (L2.upd Y la (.lst lv')) fa = some (.lst fv) := by rw [upd_ne nfl]; exact hfaY
      have hzZ : (L2.upd Y la (.lst lv')) z = some (.tup (iv pp)) := by
        obtain ⟨_, ez, h⟩ := stTI.put (o := .lst lv') hlaY ⟨z, rfl, hz⟩
        cases ez
        exact h
      generalize L2.upd Y la (.lst lv') = Z at eZ hlaZ hlvZ hfpZ hfaZ hzZ ⊢
      have hll := paired_len hlpY
      clear hlv' hfpY hlaY hfaY eY hlpY hz
      -- at whom they look, the last looker
      refine ⟨_, rfl, z, rfl, ⟨_, SqT.of hzZ⟩, fun D3 hD3 => ?_⟩
      refine lc_fmT (R := VI) (S := VI) stVI stVI (xs := iv pp) (bs := pp) (fun m => some (lkd W.looks m)) hD3 hzZ (iv_pVI pp) (by rw [iv_len]; exact Nat.le_of_lt (small1000 (by omega))) (fun x m H3 Ky Kn e3 hm hx k1 k2 => ?_) fun H3 acc3 e3 hacc3 hp3 => ?_
      · obtain ⟨q2, h2e, h2⟩ := lookAt hls (hstk.num m hm)
        rw [show x = V.int m from hx]
        have e4 := eZ.trans e3
        exact ⟨rfl, yes ⟨_, rfl, a, _, _, _, rfl, rfl, e4.tup ha, at_of (j := 1) rfl rfl, _, rfl, b, _, _, _, rfl, rfl, e4.tup hb, h2e, q2, _, _, _, rfl, rfl, e4.tup h2, at_of (j := 0) rfl rfl, k1 _ _ _ rfl (Ext.refl _) rfl⟩⟩
      have ea3 := pVI hp3
      subst ea3
      rw [List.filterMap_eq_map'] at hacc3
      have E3 := eZ.trans e3
      obtain ⟨q1, h1e, h1⟩ := lookAt hls (hstk.num _ (getLastD_mem hstk.ne))
      refine ⟨_, rfl, a, _, _, _, rfl, rfl, E3.tup ha, at_of (j := 1) rfl rfl, _, rfl, _, rfl, z, _, _, _, rfl, rfl, e3.tup hzZ, at_last hstk.ne, b, _, _, _, rfl, rfl, E3.tup hb, h1e, q1, _, _, _, rfl, rfl, E3.tup h1, at_of (j := 1) rfl rfl, (by show 2 ≤ sizeLine; decide), fun u hu => ⟨u, _, rfl, upd_same, rfl, _, _, rfl, _, _, rfl, rfl, ?_⟩⟩
      have Xu := Ext.new hu (.tup [.ref D3, .int (lookN W.looks (pp.getLastD 0)).2.1])
      have e5 := e3.trans Xu
      have E5 := E3.trans Xu
      have hD5 := Xu.lst hacc3
      have D30 : H D3 = none := eZ.free hD3
      generalize L2.upd H3 u (.tup [.ref D3, .int (lookN W.looks (pp.getLastD 0)).2.1]) = H5 at Xu e5 E5 hD5 ⊢
      clear Xu hacc3 hp3 E3 e3 h1 h1e
      have hfa5 := e5.lst hfaZ
      have hla5 := e5.lst hlaZ
      have hz5 := e5.tup hzZ
      have hfp5 := pTI.ext e5 hfpZ
      have hlv5 := pTI.ext e5 hlvZ
      have hsm : (pp.map (lkd W.looks)).headD 0 = lkd W.looks (pp.headD 0) := by
        cases pp with
        | nil => exact absurd rfl hstk.ne
        | cons x l => rfl
      have hs0 : atI (iv (pp.map (lkd W.looks))) 0 = some (.int (lkd W.looks (pp.headD 0))) := by
        rw [← hsm]
        exact at_head fun q => hstk.ne (List.map_eq_nil_iff.mp q)
      refine ⟨_, rfl, _, rfl, D3, _, _, _, rfl, rfl, hD5, hs0, rfl, _, rfl, ?_⟩
      rw [dec_int]
      show if closesP W.looks pp = true then _ else _
      refine ite_of (fun hc => ?_) fun hc => ?_
      · refine ⟨_, rfl, ⟨fa, _, rfl, hfa5⟩, _, rfl, fa, fv, _, rfl, rfl, hfa5, by omega, ?_⟩
        refine ⟨work st', by omega, la, fv ++ [.ref z], lv', found ++ [pp], st', _, _, _, _, rfl, rfl, E5.put hfa0 _, upd_same, paired_snoc (stTI.put hfa5 ⟨z, rfl, hz5⟩) (paired_mono (fun _ _ h => stTI.put hfa5 h) hfp5), by rw [upd_ne nfl.symm]; exact hla5, paired_mono (fun _ _ h => stTI.put hfa5 h) hlv5, nfl, hla0, dfs_found ok dfs hc, by omega⟩
      · refine ⟨_, rfl, _, rfl, D3, _, rfl, .inl (SqL.of hD5), rfl, flat_iv _, _, rfl, ?_⟩
        rw [inV_iv]
        refine ite_of (fun hn => ?_) fun hn => ?_
        · have hs : lkr W.looks (pp.getLastD 0) ∉ pp.map (lkd W.looks) := fun hm => by
            have hn : (!(pp.map (lkd W.looks)).contains (lkr W.looks (pp.getLastD 0))) = true := hn
            rw [List.contains_iff_mem.mpr hm] at hn
            cases hn
          obtain ⟨kw, kl⟩ := kids_work l14 hstk l6 hs
          have hh := hstk.num _ (headD_mem hstk.ne)
          refine ⟨_, rfl, _, rfl, z, _, _, _, rfl, rfl, hz5, at_head hstk.ne, _, _, rfl, rfl, _, rfl, a, _, _, _, rfl, rfl, E5.tup ha, at_of (j := 1) rfl rfl, b, _, rfl, .inr (E5.tup hb), ?_⟩
          refine ⟨_, _, rfl, by omega, fun D2 hD2 => ?_⟩
          have elo : pp.headD 0 + 1 + ((((ls.length : Int) - (pp.headD 0 + 1)).toNat : Nat) : Int) = (W.looks.length : Int) := by omega
          refine lc_fmR (lo := pp.headD 0 + 1) (n := ((ls.length : Int) - (pp.headD 0 + 1)).toNat) (S := TI) stTI (fun k => if (lkd W.looks k == lkr W.looks (pp.getLastD 0)) = true then some (pp ++ [k]) else none) hD2 (Nat.le_of_lt (small1000 (by omega))) (fun n H6 Ky Kn e6 h1 h2 k1 k2 => ?_) fun H6 acc6 e6 hacc6 hp6 => ?_
          · obtain ⟨q3, h3e, h3⟩ := lookAt hls (n := n) ⟨by omega, by omega⟩
            have E6 := E5.trans e6
            refine ⟨rfl, ?_⟩
            refine ⟨_, rfl, a, _, _, _, rfl, rfl, E6.tup ha, at_of (j := 1) rfl rfl, _, rfl, b, _, _, _, rfl, rfl, E6.tup hb, h3e, q3, _, _, _, rfl, rfl, E6.tup h3, at_of (j := 0) rfl rfl, _, rfl, rfl, _, rfl, ?_⟩
            rw [dec_int]
            refine ite_of (fun hc2 => ?_) fun hc2 => ?_
            · refine ⟨_, rfl, _, rfl, (by show 1 ≤ sizeLine; decide), fun v hv => ?_⟩
              refine cat_one (e6.tup hz5) hv (by omega) fun H7 y e7 hy => ?_
              exact k1 _ _ _ (if_pos hc2) e7 hy
            · exact k2 _ (if_neg (by rw [show (lkd W.looks n == lkr W.looks (pp.getLastD 0)) = false from hc2]; simp)) (Ext.refl _)
          rw [elo, kids_fm] at hp6
          have l6k := paired_len hp6
          have l5k := paired_len hlv5
          rw [List.length_append, List.length_singleton] at hbig
          refine ⟨la, D2, lv', acc6, rfl, rfl, e6.lst hla5, hacc6, by omega, fun L2 hL2 => ?_⟩
          have eL := Ext.new hL2 (.lst (lv' ++ acc6))
          have e56 := e6.trans eL
          have hL20 : H L2 = none := (E5.trans e6).free hL2
          refine ⟨work (st' ++ kids W.looks pp), by rw [work_app]; omega, L2, fv, lv' ++ acc6, found, st' ++ kids W.looks pp, _, _, _, _, rfl, rfl, E5.trans e56, e56.lst hfa5, pTI.ext e56 hfp5, upd_same, paired_app (pTI.ext e56 hlv5) (pTI.ext eL hp6), fun z => ?_, hL20, dfs_push ok dfs hc hs, by rw [work_app]; omega⟩
          have := e6.lst hfa5
          rw [z, hL2] at this
          cases this
        · have hs : lkr W.looks (pp.getLastD 0) ∈ pp.map (lkd W.looks) := by
            have hn : (!(pp.map (lkd W.looks)).contains (lkr W.looks (pp.getLastD 0))) = false := hn
            refine List.contains_iff_mem.mp ?_
            rw [Bool.not_eq_false'] at hn
            exact hn
          exact ⟨work st', by omega, la, fv, lv', found, st', _, _, _, _, rfl, rfl, E5, hfa5, hfp5, hla5, hlv5, nfl, hla0, dfs_drop ok dfs hc hs, by omega⟩
end
end Lk


/-! ## D28 -/
set_option Elab.async false
set_option linter.all false
set_option maxRecDepth 100000
set_option maxHeartbeats 2000000
namespace Lk
open PySem PySem.Spec PyProof.Rows L2 Gx
open GxR (TabG Tabbed TabB)
variable [Own]
theorem units1 {k : Nat} {A : Around} (h : Room k A) : A.units + 65 < cLine := by
  have := h.un
  omega
abbrev spLawTold : Sp := spMoodTold
abbrev spLawBehind : Sp := spStateTold
def spLawSettled : Sp := fun vs H Q _ => ∃ (v r : V) (W : Web) (ru : List (List Int)), vs = [v, r] ∧ WebAt H v W ∧ W.Ok ∧ TT2 H r ru ∧ RuOk W ru ∧ ∀ H' u, Ext H H' → LT2 H' (.ref u) (settledStates W ru) → Q (.ref u) H'
section
variable {P : Program} {w : World} {K : PySem.W.Frag} {mg : Str → Option Value} {base : Heap} {Ps : List Addr}
end
end Lk


/-! ## D31 -/
set_option Elab.async false
set_option linter.all false
set_option maxRecDepth 100000
set_option maxHeartbeats 2000000
namespace Lk
open PySem PySem.Spec PyProof.Rows L2 Gx
open GxR (TabG Tabbed TabB)
variable [Own]
abbrev s__law_alike : Stmt := top 44
theorem sc__law_alike : FnScope ["found", "due", "k"] ["found", "due"] (defScope s__law_alike) := ⟨rfl, rfl, rfl, by decide +kernel, rfl, by decide +kernel, by decide +kernel⟩
/-- the same int, the same truth value -/
def spAlike0 : Sp := fun vs H Q _ => ((∃ i : Int, vs = [.int i, .int i]) ∨ ∃ b : Bool, vs = [.bl b, .bl b]) ∧ ∀ H', Ext H H' → Q (.bl true) H'
/-- two lists, two tuples, whose items are alike -/
def spAlikeS (sp : Sp) : Sp := fun vs H Q _ => ∃ (a b : Addr) (k : Bool) (xs ys : List V), vs = [.ref a, .ref b] ∧ SqB k H a xs ∧ SqB k H b ys ∧ ys.length = xs.length ∧ xs.length ≤ 1000000 ∧
  (∀ (H' : Hp) (i : Nat) (x y : V) (Q' : VK) (E' : XK), Ext H H' → xs[i]? = some x → ys[i]? = some y → (∀ H'', Ext H' H'' → Q' (.bl true) H'') → sp [x, y] H' Q' E') ∧ ∀ H', Ext H H' → Q (.bl true) H'
def rIxS : R2 := fun x y H Q => ∃ p k xs i v, x = .ref p ∧ y = .int i ∧ SqB k H p xs ∧ atI xs i = some v ∧ Q v H
theorem ix_sT {X : Cx} : IxR X rIxS := by
  intro value slice pins s σ H x y v u Q I rx ry h hs
  obtain ⟨p, k, xs, i, z, e1, e2, hq, he, q⟩ := h
  cases k with
  | true => exact ix_lT value slice pins s σ H x y v u Q I rx ry ⟨p, xs, i, z, e1, e2, hq, he, q⟩ hs
  | false => exact ix_tT value slice pins s σ H x y v u Q I rx ry ⟨p, xs, i, z, e1, e2, hq, he, q⟩ hs
theorem kit2 {K : PySem.W.Frag} {t a b : String} {r1 r2 : Bool} (h1 : kitB t a = some r1) (h2 : kitB t b = some r2) : W.kitAny K (.type t) [.type a, .type b] = some (r1 || r2) := by
  unfold W.kitAny
  rw [kit_ty h1]
  cases r1 with
  | true => rfl
  | false =>
    show W.kitAny K _ _ = _
    unfold W.kitAny
    rw [kit_ty h2]
    cases r2 <;> rfl
theorem isi_seq {K : PySem.W.Frag} {k : Bool} {H : Hp} {a : Addr} {xs : List V} (h : SqB k H a xs) : TyX K H (.ref a) (.type (if k = true then "list" else "tuple")) := by
  cases k with
  | true => exact .base (.lst h)
  | false => exact .base (.tup h)
section
variable {P : Program} {w : World} {K : PySem.W.Frag} {mg : Str → Option Value} {base : Heap} {Ps : List Addr}
theorem ok_alike0 {f : Addr} {fd : FuncData} (F : Fun K "_law_alike" "_law_alike" s__law_alike f fd) (B : Blt mg) : FnOk P w K mg base CX0 1 f fd ["found", "due"] spAlike0 := by
  refine F.ok sc__law_alike (fun vs H Q E h => ?_) (fun cdv A outer s0 H vs Q E hr h => ?_)
  · obtain ⟨⟨i, rfl⟩ | ⟨b, rfl⟩, _⟩ := h <;> rfl
  · obtain ⟨hv, k⟩ := h
    refine ⟨_, (pss_cons (ps_if (pt_val (pe_callB call_isiT (by rfl) B.isi boot_isinstance (pa_cons (pv 1) (pa_cons (pe_tup (pa_cons (pe_bltn (v := .ty "tuple") (by rfl) B.tuple boot_tyTuple rfl) (pa_cons (pe_bltn (v := .ty "list") (by rfl) B.list boot_tyList rfl) pa_nil))) pa_nil))))
        (pss_cons (ps_if (PW.pt (pw_or (pt_not (pt_val (pe_callB call_isiT (by rfl) B.isi boot_isinstance (pa_cons (pv 0) (pa_cons (pe_tup (pa_cons (pe_bltn (v := .ty "tuple") (by rfl) B.tuple boot_tyTuple rfl) (pa_cons (pe_bltn (v := .ty "list") (by rfl) B.list boot_tyList rfl) pa_nil))) pa_nil))))) (pw_or1 (pt_cmpR op_ne (pe_callB call_isi (by rfl) B.isi boot_isinstance (pa_cons (pv 0) (pa_cons (pe_bltn (v := .ty "list") (by rfl) B.list boot_tyList rfl) pa_nil))) (pe_callB call_isi (by rfl) B.isi boot_isinstance (pa_cons (pv 1) (pa_cons (pe_bltn (v := .ty "list") (by rfl) B.list boot_tyList rfl) pa_nil))) (nomark _)))))
          (pss_one (ps_ret pe_bl)) pss_nil)
        (pss_cons (ps_if (pt_cmpR op_ne (pe_callB call_lenT (by rfl) B.len PySem.boot_len (pa_cons (pv 0) pa_nil)) (pe_callB call_lenT (by rfl) B.len PySem.boot_len (pa_cons (pv 1) pa_nil)) (nomark _))
          (pss_one (ps_ret pe_bl)) pss_nil)
        (pss_one ps_never))) pss_nil)
      (pss_cons (ps_if (PW.pt (pw_or (pt_cmpR op_isN (pv 1) pe_non (nomark _)) (pw_or1 (pt_val (pe_callB call_isi (by rfl) B.isi boot_isinstance (pa_cons (pv 1) (pa_cons (pe_bltn (v := .ty "str") (by rfl) B.str boot_tyStr rfl) pa_nil)))))))
        (pss_one (ps_ret (pe_and (pe_cmpR op_eq (pv 0) (pv 1) (nomark _)) (pe_one (pe_cmpR op_eq (pe_callB call_isi (by rfl) B.isi boot_isinstance (pa_cons (pv 0) (pa_cons (pe_bltn (v := .ty "str") (by rfl) B.str boot_tyStr rfl) pa_nil))) (pe_callB call_isi (by rfl) B.isi boot_isinstance (pa_cons (pv 1) (pa_cons (pe_bltn (v := .ty "str") (by rfl) B.str boot_tyStr rfl) pa_nil))) (nomark _)))))) pss_nil)
      (pss_one (ps_ret (pe_and (pe_callB call_isi (by rfl) B.isi boot_isinstance (pa_cons (pv 0) (pa_cons (pe_bltn (v := .ty "int") (by rfl) B.int boot_tyInt rfl) pa_nil))) (pe_and (pe_cmpR op_eq (pe_callB call_isi (by rfl) B.isi boot_isinstance (pa_cons (pv 0) (pa_cons (pe_bltn (v := .ty "bool") (by rfl) B.bool boot_tyBool rfl) pa_nil))) (pe_callB call_isi (by rfl) B.isi boot_isinstance (pa_cons (pv 1) (pa_cons (pe_bltn (v := .ty "bool") (by rfl) B.bool boot_tyBool rfl) pa_nil))) (nomark _)) (pe_one (pe_cmpR op_eq (pv 0) (pv 1) (nomark _))))))))), ?_⟩
    obtain ⟨t, r1, x, hx, k1, k2, k3, k4, k5, ty, nn, sc⟩ : ∃ (t : String) (r1 : Bool) (x : V), vs = [x, x] ∧ kitB t "tuple" = some false ∧ kitB t "list" = some false ∧ kitB t "str" = some false ∧ kitB t "int" = some true ∧ kitB t "bool" = some r1 ∧ (∀ H', TyX K H' x (.type t)) ∧ x ≠ .non ∧ scal x x = true := by
      rcases hv with ⟨i, rfl⟩ | ⟨b, rfl⟩
      · exact ⟨"int", false, _, rfl, by decide +kernel, by decide +kernel, by decide +kernel, by decide +kernel, by decide +kernel, fun H' => .base (.int i), (by intro z; cases z), rfl⟩
      · exact ⟨"bool", true, _, rfl, by decide +kernel, by decide +kernel, by decide +kernel, by decide +kernel, by decide +kernel, fun H' => .base (.bl b), (by intro z; cases z), rfl⟩
    subst hx
    refine ⟨_, rfl, (by show 2 ≤ sizeLine; decide), fun p hp => ⟨_, p, _, _, _, _, rfl, upd_same, .cons (.ty _) (.cons (.ty _) .nil), ty _, kit2 k1 k2, _, rfl, iteF ?_⟩⟩
    have e := Ext.new hp (.tup [V.ty "tuple", V.ty "list"])
    refine ⟨_, rfl, rfl, _, rfl, ?_⟩
    rw [decide_eq_false nn]
    refine iteF ?_
    refine ⟨_, rfl, _, _, _, _, false, rfl, .ty "str", ty _, kit_ty k3, _, rfl, iteF ?_⟩
    refine ⟨_, rfl, _, _, _, _, true, rfl, .ty "int", ty _, kit_ty k4, _, rfl, iteT ?_⟩
    refine ⟨_, rfl, _, _, _, _, r1, rfl, .ty "bool", ty _, kit_ty k5, _, rfl, _, _, _, _, r1, rfl, .ty "bool", ty _, kit_ty k5, rfl, _, rfl, ?_⟩
    rw [decide_eq_true rfl]
    refine iteT ⟨_, rfl, _, rfl, sc, ?_⟩
    rw [decide_eq_true rfl]
    exact k _ e
theorem ok_alikeS {n : Nat} {sp : Sp} (len : ∀ vs H Q E, sp vs H Q E → vs.length = 2) {f : Addr} {fd : FuncData} (F : Fun K "_law_alike" "_law_alike" s__law_alike f fd) (B : Blt mg) (c__law_alike : Cal P w K mg base CX0 (n + 1) "_law_alike" ["found", "due"] sp) : FnOk P w K mg base CX0 (n + 2) f fd ["found", "due"] (spAlikeS sp) := by
  refine F.ok sc__law_alike (fun vs H Q E h => ?_) (fun cdv A outer s0 H vs Q E hr h => ?_)
  · obtain ⟨a, b, k, xs, ys, rfl, _⟩ := h
    rfl
  · obtain ⟨a, b, kk, xs, ys, rfl, ha, hb, ly, hl, ks, k⟩ := h
    refine ⟨_, (pss_cons (ps_if (pt_val (pe_callB call_isiT (by rfl) B.isi boot_isinstance (pa_cons (pv 1) (pa_cons (pe_tup (pa_cons (pe_bltn (v := .ty "tuple") (by rfl) B.tuple boot_tyTuple rfl) (pa_cons (pe_bltn (v := .ty "list") (by rfl) B.list boot_tyList rfl) pa_nil))) pa_nil))))
        (pss_cons (ps_if (PW.pt (pw_or (pt_not (pt_val (pe_callB call_isiT (by rfl) B.isi boot_isinstance (pa_cons (pv 0) (pa_cons (pe_tup (pa_cons (pe_bltn (v := .ty "tuple") (by rfl) B.tuple boot_tyTuple rfl) (pa_cons (pe_bltn (v := .ty "list") (by rfl) B.list boot_tyList rfl) pa_nil))) pa_nil))))) (pw_or1 (pt_cmpR op_ne (pe_callB call_isi (by rfl) B.isi boot_isinstance (pa_cons (pv 0) (pa_cons (pe_bltn (v := .ty "list") (by rfl) B.list boot_tyList rfl) pa_nil))) (pe_callB call_isi (by rfl) B.isi boot_isinstance (pa_cons (pv 1) (pa_cons (pe_bltn (v := .ty "list") (by rfl) B.list boot_tyList rfl) pa_nil))) (nomark _)))))
          (pss_one (ps_ret pe_bl)) pss_nil)
        (pss_cons (ps_if (pt_cmpR op_ne (pe_callB call_lenT (by rfl) B.len PySem.boot_len (pa_cons (pv 0) pa_nil)) (pe_callB call_lenT (by rfl) B.len PySem.boot_len (pa_cons (pv 1) pa_nil)) (nomark _))
          (pss_one (ps_ret pe_bl)) pss_nil)
        (pss_one (ps_ret (pe_cmpR (op_eqLn hr.units) (pe_lc (own := [("k", 2)]) rfl sc__law_alike.nd (pi_range1 (by rfl) B.range (pa_cons (pe_callB call_lenT (by rfl) B.len PySem.boot_len (pa_cons (pv 1) pa_nil)) pa_nil)) (blkOk_by (N := ["found", "due", "k"]) (sc := defScope s__law_alike) (by decide +kernel)) (fun _ _ _ _ _ => (pg_name (i := 2) sc__law_alike.nd rfl (by first | exact Or.inl rfl | exact Or.inr rfl))) (fun _ _ _ _ _ => (pts_one (pt_not (pt_val (pe_c0 c__law_alike hr (by rfl) (pa_cons (pe_ix ix_sT (pv 0) (pv 2) (fun _ _ => rfl)) (pa_cons (pe_ix ix_sT (pv 1) (pv 2) (fun _ _ => rfl)) pa_nil))))))) (fun _ _ _ _ _ => (pv 2))) (pe_lst pa_nil) (nomark _)))))) pss_nil)
      (pss_cons (ps_if (PW.pt (pw_or (pt_cmpR op_isN (pv 1) pe_non (nomark _)) (pw_or1 (pt_val (pe_callB call_isi (by rfl) B.isi boot_isinstance (pa_cons (pv 1) (pa_cons (pe_bltn (v := .ty "str") (by rfl) B.str boot_tyStr rfl) pa_nil)))))))
        (pss_one (ps_ret (pe_and (pe_cmpR op_eq (pv 0) (pv 1) (nomark _)) (pe_one (pe_cmpR op_eq (pe_callB call_isi (by rfl) B.isi boot_isinstance (pa_cons (pv 0) (pa_cons (pe_bltn (v := .ty "str") (by rfl) B.str boot_tyStr rfl) pa_nil))) (pe_callB call_isi (by rfl) B.isi boot_isinstance (pa_cons (pv 1) (pa_cons (pe_bltn (v := .ty "str") (by rfl) B.str boot_tyStr rfl) pa_nil))) (nomark _)))))) pss_nil)
      (pss_one (ps_ret (pe_and (pe_callB call_isi (by rfl) B.isi boot_isinstance (pa_cons (pv 0) (pa_cons (pe_bltn (v := .ty "int") (by rfl) B.int boot_tyInt rfl) pa_nil))) (pe_and (pe_cmpR op_eq (pe_callB call_isi (by rfl) B.isi boot_isinstance (pa_cons (pv 0) (pa_cons (pe_bltn (v := .ty "bool") (by rfl) B.bool boot_tyBool rfl) pa_nil))) (pe_callB call_isi (by rfl) B.isi boot_isinstance (pa_cons (pv 1) (pa_cons (pe_bltn (v := .ty "bool") (by rfl) B.bool boot_tyBool rfl) pa_nil))) (nomark _)) (pe_one (pe_cmpR op_eq (pv 0) (pv 1) (nomark _))))))))), ?_⟩
    have both : W.kitAny K (.type (if kk = true then "list" else "tuple")) [.type "tuple", .type "list"] = some true := by
      cases kk with
      | true => exact kit2 (r1 := false) (r2 := true) (by decide +kernel) (by decide +kernel)
      | false => exact kit2 (r1 := true) (r2 := false) (by decide +kernel) (by decide +kernel)
    have isl : W.kitOne K (.type (if kk = true then "list" else "tuple")) (.type "list") = some kk := by
      cases kk with
      | true => exact kit_ty (by decide +kernel)
      | false => exact kit_ty (by decide +kernel)
    refine ⟨_, rfl, (by show 2 ≤ sizeLine; decide), fun p hp => ?_⟩
    have e1 := Ext.new hp (.tup [V.ty "tuple", V.ty "list"])
    refine ⟨_, p, _, _, _, _, rfl, upd_same, .cons (.ty _) (.cons (.ty _) .nil), isi_seq (hb.ext e1), both, _, rfl, iteT ?_⟩
    refine ⟨_, rfl, (by show 2 ≤ sizeLine; decide), fun p2 hp2 => ?_⟩
    have e2 := e1.trans (Ext.new hp2 (.tup [V.ty "tuple", V.ty "list"]))
    refine ⟨_, p2, _, _, _, _, rfl, upd_same, .cons (.ty _) (.cons (.ty _) .nil), isi_seq (ha.ext e2), both, _, rfl, iteF ?_⟩
    refine ⟨_, rfl, _, _, _, _, _, rfl, .ty "list", isi_seq (ha.ext e2), isl, _, rfl, _, _, _, _, _, rfl, .ty "list", isi_seq (hb.ext e2), isl, rfl, _, rfl, ?_⟩
    have en : (!decide (V.bl kk = V.bl kk)) = false := by rw [decide_eq_true rfl]; rfl
    rw [en]
    refine iteF ?_
    have lenOf : ∀ {H' : Hp} {c : Addr} {zs : List V}, SqB kk H' c zs → H' c = some (.lst zs) ∨ H' c = some (.tup zs) := fun {H' c zs} h => by
      cases kk with
      | true => exact .inl h
      | false => exact .inr h
    refine ⟨_, rfl, a, xs, rfl, lenOf (ha.ext e2), _, rfl, b, ys, rfl, lenOf (hb.ext e2), rfl, _, rfl, ?_⟩
    have en2 : (!decide (V.int (xs.length : Nat) = V.int (ys.length : Nat))) = false := by rw [ly, decide_eq_true rfl]; rfl
    rw [en2]
    refine iteF ?_
    refine ⟨_, rfl, b, ys, rfl, lenOf (hb.ext e2), _, rfl, by omega, by omega, fun D hD => ?_⟩
    have en3 : ((ys.length : Nat) : Int).toNat = xs.length := by omega
    rw [en3]
    generalize hH2 : L2.upd (L2.upd H p _) p2 _ = H2 at e2 hD ⊢
    clear hH2
    refine lc_range (lo := 0) (n := xs.length) (fun i H' => H' D = some (.lst []) ∧ Ext H2 H') ⟨upd_same, Ext.new hD _⟩ (fun i H' hi ⟨h1, e⟩ => ?_) fun H' ⟨h1, e⟩ => ?_
    · have ei : (0 : Int) + (i : Int) = (i : Int) := Int.zero_add _
      rw [ei]
      have hx : xs[i]? = some xs[i] := List.getElem?_eq_getElem hi
      have hy : ys[i]? = some (ys[i]'(by omega)) := List.getElem?_eq_getElem (by omega)
      refine ⟨rfl, ?_⟩
      refine ⟨_, rfl, _, rfl, a, kk, xs, _, _, rfl, rfl, (ha.ext e2).ext e, at_of (j := i) rfl hx, _, rfl, _, rfl, b, kk, ys, _, _, rfl, rfl, (hb.ext e2).ext e, at_of (j := i) rfl hy, ?_⟩
      refine ks H' i _ _ _ _ (e2.trans e) hx hy fun H'' e'' => ⟨_, rfl, iteF ⟨e''.lst h1, e.trans e''⟩⟩
    · refine ⟨(by show 0 ≤ sizeLine; decide), fun u hu => ?_⟩
      refine ⟨D, u, 0, rfl, rfl, by rw [upd_ne (ne_of_none h1 hu)]; exact h1, upd_same, ?_⟩
      exact k _ ((e2.trans e).trans (Ext.new hu _))
end
end Lk


/-! ## W38 -/
set_option Elab.async false
set_option linter.all false
set_option maxRecDepth 100000
set_option maxHeartbeats 4000000
namespace Lk
open PySem PySem.Spec PyProof.Rows L2 Gx LamX NdefX
open GxR (Tabbed TabG)
variable [Own]
abbrev s_law : Stmt := top 52
theorem sc_law : FnScope ["script", "row", "web", "some", "word", "good", "lot", "other", "ring", "k", "due", "kinds", "bad"] ["script"] (defScope s_law) := ⟨rfl, rfl, rfl, by decide +kernel, rfl, by decide +kernel, by decide +kernel⟩
abbrev lamQ : Str := ("law" : Str) ++ ".<locals>." ++ "<lambda>"
def spLaw (K : PySem.W.Frag) (Ps : List Addr) (T TX : Addr) : Sp := fun vs H Q _ => ∃ (sc : Addr) (ns : List Int), vs = [.ref sc] ∧ SqL K H sc (iv ns) ∧ ns.length ≤ 63 ∧ Lk.Tabs Ps H ∧ H T = some (.tbl #[]) ∧ H TX = some (.tbl #[]) ∧ ∀ H', Q (.bl true) H'
theorem al1 (l : List Int) (H : Hp) : ∀ (H' : Hp) (i : Nat) (x y : V) (Q' : VK) (E' : XK), Ext H H' → (iv l)[i]? = some x → (iv l)[i]? = some y → (∀ H'', Ext H' H'' → Q' (.bl true) H'') → spAlike0 [x, y] H' Q' E' := fun H' i x y Q' E' e hx hy k' => by
  rw [hx] at hy
  cases hy
  obtain ⟨n, _, rfl⟩ := iv_get hx
  exact ⟨.inl ⟨n, rfl⟩, k'⟩
theorem al2 {H : Hp} {xs ys : List V} {rows : List (List Int)} (p1 : Paired (TI H) xs rows) (p2 : Paired (TI H) ys rows) (hr : ∀ r ∈ rows, r.length ≤ 100) :
    ∀ (H' : Hp) (i : Nat) (x y : V) (Q' : VK) (E' : XK), Ext H H' → xs[i]? = some x → ys[i]? = some y → (∀ H'', Ext H' H'' → Q' (.bl true) H'') → spAlikeS spAlike0 [x, y] H' Q' E' := fun H' i x y Q' E' e hx hy k' => by
  obtain ⟨r1, g1, c, rfl, hc⟩ := paired_get' (pTI.ext e p1) hx
  obtain ⟨r2, g2, d, rfl, hd⟩ := paired_get' (pTI.ext e p2) hy
  rw [g1] at g2
  cases g2
  have hl := hr r1 (List.mem_of_getElem? g1)
  exact ⟨c, d, false, iv r1, iv r1, rfl, hc, hd, rfl, by rw [iv_len]; omega, al1 r1 H', k'⟩
theorem tabS_ownB {T r : Addr} {q : Str} {H H' : Hp} {rs : List V} (ho : Own.own T) (hr : H r = some (.lst rs)) (e : ExtB r H H') (t : LamX.TabS H T q) : LamX.TabS H' T q := by
  obtain ⟨ps, a1, a2, a3⟩ := t
  refine ⟨ps, e.own T ps ho a1, a2, fun pos cv hc => ?_⟩
  obtain ⟨c, e1, e2⟩ := a3 pos cv hc
  exact ⟨c, e1, e.keep _ _ (ne_of hr e2 (by intro z; cases z)).symm e2 rfl⟩
/-- the row is no list of lots -/
theorem row_ne {K : PySem.W.Frag} {H : Hp} {rr sc a : Addr} {ns : List Int} {xs : List V} {rows : List (List Int)} (R : Rw K H rr sc ns) (h : H a = some (.lst xs)) (p : Paired (TI H) xs rows) : a ≠ rr := by
  intro z
  subst z
  obtain ⟨d, R⟩ := R
  have e := R.row
  rw [h] at e
  cases e
  obtain ⟨r, _, y, hy, _⟩ := paired_get' p (show _[1]? = some _ from rfl)
  cases hy
theorem tabS_gt {T TX : Addr} {q : Str} {H H' : Hp} (own : Own.own T) (ne : T ≠ TX) (g : Gt TX H H') (t : TabS H T q) : TabS H' T q := by
  obtain ⟨ps, a1, a2, a3⟩ := t
  refine ⟨ps, g.own T ps own ne a1, a2, fun pos cv hc => ?_⟩
  obtain ⟨c, e1, e2⟩ := a3 pos cv hc
  exact ⟨c, e1, @Ext.keep ⟨fun _ => False⟩ _ _ g.ext _ _ e2 rfl⟩
theorem count_kinds (ls : List Look3) (k : Int) : ∀ rs : List (List Int), (rs.filterMap fun p => if p.contains k = true then some (((spitesN ls p : Nat) : Int) % 2) else none).count 0 = throughN k (rs.filter fun p => evenP ls p == true) ∧ (rs.filterMap fun p => if p.contains k = true then some (((spitesN ls p : Nat) : Int) % 2) else none).count 1 = throughN k (rs.filter fun p => evenP ls p == false)
  | [] => ⟨rfl, rfl⟩
  | p :: rs => by
    obtain ⟨h1, h2⟩ := count_kinds ls k rs
    have he := even_spites ls p
    unfold throughN at h1 h2 ⊢
    by_cases hc : p.contains k = true
    · rw [List.filterMap_cons, if_pos hc]
      by_cases h0 : spitesN ls p % 2 = 0
      · have e1 : ((spitesN ls p : Nat) : Int) % 2 = 0 := by omega
        rw [beq_iff_eq.mpr h0] at he
        rw [e1]
        refine ⟨?_, ?_⟩
        · rw [List.count_cons_self, h1, List.filter_cons_of_pos (p := fun q : List Int => evenP ls q == true) (a := p) (by rw [he]; rfl), List.filter_cons_of_pos (p := fun r : List Int => r.contains k) (a := p) hc, List.length_cons]
        · rw [List.count_cons_of_ne (by decide), h2, List.filter_cons_of_neg (p := fun q : List Int => evenP ls q == false) (a := p) (by rw [he]; decide)]
      · have e1 : ((spitesN ls p : Nat) : Int) % 2 = 1 := by omega
        rw [beq_eq_false_iff_ne.mpr h0] at he
        rw [e1]
        refine ⟨?_, ?_⟩
        · rw [List.count_cons_of_ne (by decide), h1, List.filter_cons_of_neg (p := fun q : List Int => evenP ls q == true) (a := p) (by rw [he]; decide)]
        · rw [List.count_cons_self, h2, List.filter_cons_of_pos (p := fun q : List Int => evenP ls q == false) (a := p) (by rw [he]; rfl), List.filter_cons_of_pos (p := fun r : List Int => r.contains k) (a := p) hc, List.length_cons]
    · rw [List.filterMap_cons, if_neg hc]
      refine ⟨?_, ?_⟩
      · show (rs.filterMap _).count 0 = _
        rw [h1]
        by_cases hv : (evenP ls p == true) = true
        · rw [List.filter_cons_of_pos (p := fun q : List Int => evenP ls q == true) (a := p) hv, List.filter_cons_of_neg (p := fun r : List Int => r.contains k) (a := p) hc]
        · rw [List.filter_cons_of_neg (p := fun q : List Int => evenP ls q == true) (a := p) hv]
      · show (rs.filterMap _).count 1 = _
        rw [h2]
        by_cases hv : (evenP ls p == false) = true
        · rw [List.filter_cons_of_pos (p := fun q : List Int => evenP ls q == false) (a := p) hv, List.filter_cons_of_neg (p := fun r : List Int => r.contains k) (a := p) hc]
        · rw [List.filter_cons_of_neg (p := fun q : List Int => evenP ls q == false) (a := p) hv]
/-- what stands while the law goes on -/
structure St8 (K : PySem.W.Frag) (Ps : List Addr) (T TX : Addr) (W : Web) (rr sc : Addr) (ns : List Int) (wa ev : Addr) (evs : List V) (H : Hp) : Prop where
  row : Rw K H rr sc ns
  web : WebAt H (.ref wa) W
  ev : H ev = some (.lst evs)
  evs : Paired (TI H) evs (ringsOf W)
  tb : Lk.Tabs Ps H
  ts : TabS H T lamQ
  tx : TabS H TX exQ
section
variable {K : PySem.W.Frag} {Ps : List Addr} {T TX : Addr} {W : Web} {rr sc : Addr} {ns : List Int} {wa ev : Addr} {evs : List V} {H H' : Hp}
theorem St8.ext (h : St8 K Ps T TX W rr sc ns wa ev evs H) (own : Own.own T) (ownX : Own.own TX) (e : Ext H H') : St8 K Ps T TX W rr sc ns wa ev evs H' :=
  ⟨h.row.ext e, h.web.ext e, e.lst h.ev, pTI.ext e h.evs, h.tb.ext e, tabS_own own e h.ts, tabS_own ownX e h.tx⟩
theorem St8.gtF (h : St8 K Ps T TX W rr sc ns wa ev evs H) (e : ExtF H H') (t : TabS H' T lamQ) (x : TabS H' TX exQ) : St8 K Ps T TX W rr sc ns wa ev evs H' :=
  ⟨@Rw.ext ⟨fun _ => False⟩ _ _ _ _ _ _ h.row e, @WebAt.ext ⟨fun _ => False⟩ _ _ _ _ e h.web, @Ext.lst ⟨fun _ => False⟩ _ _ e _ _ h.ev, @pTI.ext ⟨fun _ => False⟩ _ _ _ _ e h.evs, @Lk.Tabs.ext ⟨fun _ => False⟩ _ _ _ h.tb e, t, x⟩
theorem St8.taken (h : St8 K Ps T TX W rr sc ns wa ev evs H) (own : Own.own T) (ownX : Own.own TX) (e : ExtB rr H H') (R : Rw K H' rr sc ns) : St8 K Ps T TX W rr sc ns wa ev evs H' := by
  have n1 := row_ne h.row h.ev h.evs
  obtain ⟨d, hR⟩ := id h.row
  exact ⟨R, h.row.web e h.web, e.lst n1 h.ev, h.row.pTI e h.evs, h.tb.extB e, tabS_ownB own hR.row e h.ts, tabS_ownB ownX hR.row e h.tx⟩
end
section
variable {P : Program} {w : World} {K : PySem.W.Frag} {mg : Str → Option Value} {base : Heap} {Ps : List Addr} {CF CL CW T TX gW : Addr} {Ad : Str → Addr} {cdW : Value}
theorem ok_law {f : Addr} {fd : FuncData} (F : FunL K mg base "law" s_law f fd T) (own : Own.own T) (ownX : Own.own TX) (ne : T ≠ TX) (B : Blt mg) (GW : GDef K mg "_law_word" s__law_word gW cdW) (TL : WordG K mg CF CL Ad 2) (TW : WordG K mg CF CW Ad 4)
    (c__law_taken : Cal P w K mg base CX0 1 "_law_taken" ["row", "many"] (spTaken K)) (c__law_pick : Cal P w K mg base CX0 2 "_law_pick" ["row", "things"] (spLawPick K)) (c__law_web : Cal P w K mg base CX0 3 "_law_web" ["row", "folk", "top", "most"] (spLawWeb2 K)) (c__law_rings : Cal P w K mg base CX0 1 "_law_rings" ["web"] spLawRings2) (c__law_spites : Cal P w K mg base CX0 1 "_law_spites" ["web", "ring"] spSpites)
    (c__law_lots : Cal P w K mg base CX0 1 "_law_lots" ["many"] spLawLots2) (c__law_exchanged : Cal P w K mg base CX0 1 "_law_exchanged" ["web", "lot"] spLawExchanged) (c__law_smallest : Cal P w K mg base CX0 1 "_law_smallest" ["some"] spSmallest)
    (c_alike2 : Cal P w K mg base CX0 3 "_law_alike" ["found", "due"] (spAlikeS (spAlikeS spAlike0))) (c_alikeW : Cal P w K mg base CX0 4 "_law_alike" ["found", "due"] (spAlikeS fun vs H Q E => spAlikeS spAlike0 vs H Q E ∨ spAlikeS (spAlikeS spAlike0) vs H Q E))
    (c_exchanged : Cal P w K mg base (L2.CX P w) 7 "exchanged" ["web", "lot"] (spExchangedX Ps CL)) (c_exchanges : Cal P w K mg base (L2.CX P w) 7 "exchanges" ["web", "word"] (spExchangesX K Ps TX CW)) (c_rings_through : Cal P w K mg base CX0 7 "rings_through" ["web"] (spRingsThrough Ps)) :
    FnOk P w K mg base CX0 10 f fd ["script"] (spLaw K Ps T TX) := by
  refine F.ok sc_law (fun vs H Q E h => ?_) (fun cT A outer s0 H vs Q E TB hr h => ?_)
  · obtain ⟨sc, ns, rfl, _⟩ := h
    rfl
  · obtain ⟨sc, ns, rfl, hsc, hlen, hTb, hT, hTX, k⟩ := h
    refine ⟨_, (pss_cons (ps_set (i := 1) sc_law.nd rfl (by first | exact Or.inl rfl | exact Or.inr rfl) (pe_lst (pa_cons (pv 0) (pa_cons pe_int (pa_cons pe_int (pa_cons pe_int pa_nil))))))
      (pss_cons (ps_set (i := 2) sc_law.nd rfl (by first | exact Or.inl rfl | exact Or.inr rfl) (pe_c0 c__law_web (hr.mono (by decide)) (by rfl) (pa_cons (pv 1) (pa_cons pe_int (pa_cons pe_int (pa_cons pe_int pa_nil))))))
      (pss_cons (ps_set (i := 3) sc_law.nd rfl (by first | exact Or.inl rfl | exact Or.inr rfl) (pe_c0 c__law_rings (hr.mono (by decide)) (by rfl) (pa_cons (pv 2) pa_nil)))
      (pss_cons (ps_for PassesOwn.never rfl (pi_list (pe_lst (pa_cons pe_str (pa_cons pe_str pa_nil)))) (pg_name (i := 4) sc_law.nd rfl (by first | exact Or.inl rfl | exact Or.inr rfl))
        (pss_cons (ps_set (i := 5) sc_law.nd rfl (by first | exact Or.inl rfl | exact Or.inr rfl) (pe_lst pa_nil))
        (pss_cons (ps_for PassesOwn.never rfl (pi_list (pe_c0 c__law_lots (hr.mono (by decide)) (by rfl) (pa_cons (pe_callB call_lenT (by rfl) B.len PySem.boot_len (pa_cons (pe_ix ix_tT (pv 2) pe_int (fun _ _ => rfl)) pa_nil)) pa_nil))) (pg_name (i := 6) sc_law.nd rfl (by first | exact Or.inl rfl | exact Or.inr rfl))
          (pss_cons (ps_set (i := 7) sc_law.nd rfl (by first | exact Or.inl rfl | exact Or.inr rfl) (pe_c0 c__law_exchanged (hr.mono (by decide)) (by rfl) (pa_cons (pv 2) (pa_cons (pv 6) pa_nil))))
          (pss_one (ps_if (pt_cmpR (op_eqLT2 hr.units) (pe_lc (own := [("ring", 8)]) rfl sc_law.nd (pi_list (pv 3)) (blkOk_by (N := ["script", "row", "web", "some", "word", "good", "lot", "other", "ring", "k", "due", "kinds", "bad"]) (sc := defScope s_law) (by decide +kernel)) (fun _ _ _ _ _ => (pg_name (i := 8) sc_law.nd rfl (by first | exact Or.inl rfl | exact Or.inr rfl))) (fun _ _ _ _ _ => (pts_one (pt_cmpR op_ne (pe_op op_mod (pe_callTy call_int1 (by rfl) B.int boot_tyInt (pa_cons (pe_c0 c__law_spites (hr.mono (by decide)) (by rfl) (pa_cons (pv 7) (pa_cons (pv 8) pa_nil))) pa_nil)) pe_int) (pe_callTy call_int1 (by rfl) B.int boot_tyInt (pa_cons (pe_cmpR op_eq (pv 4) pe_str (nomark _)) pa_nil)) (nomark _)))) (fun _ _ _ _ _ => (pv 8))) (pe_lst pa_nil) (nomark _))
            (pss_one (ps_expr (pe_bmL PySem.F.plainAttrs_list PySem.F.slot_list_append PySem.F.type_list_append mt_append (pv 5) (pa_cons (pv 6) pa_nil)))) pss_nil))))
        (pss_one (ps_if (pt_not (pt_val (pe_c0 c_alike2 (hr.mono (by decide)) (by rfl) (pa_cons (pe_cal c_exchanges (hr.mono (by decide)) (by rfl) passL (pa_cons (pv 2) (pa_cons (pv 4) pa_nil))) (pa_cons (pe_c0 c__law_smallest (hr.mono (by decide)) (by rfl) (pa_cons (pv 5) pa_nil)) pa_nil)))))
          (pss_one (ps_ret pe_bl)) pss_nil)))))
      (pss_cons (ps_set (i := 6) sc_law.nd rfl (by first | exact Or.inl rfl | exact Or.inr rfl) (pe_tupleL (by rfl) B.tuple (pe_lc (own := [("k", 9)]) rfl sc_law.nd (pi_range1 (by rfl) B.range (pa_cons (pe_callB call_lenT (by rfl) B.len PySem.boot_len (pa_cons (pe_ix ix_tT (pv 2) pe_int (fun _ _ => rfl)) pa_nil)) pa_nil)) (blkOk_by (N := ["script", "row", "web", "some", "word", "good", "lot", "other", "ring", "k", "due", "kinds", "bad"]) (sc := defScope s_law) (by decide +kernel)) (fun _ _ _ _ _ => (pg_name (i := 9) sc_law.nd rfl (by first | exact Or.inl rfl | exact Or.inr rfl))) (fun _ _ _ _ _ => (pts_one (pt_cmpR op_eq (pe_c0 c__law_taken (hr.mono (by decide)) (by rfl) (pa_cons (pv 1) (pa_cons pe_int pa_nil))) pe_int (nomark _)))) (fun _ _ _ _ _ => (pv 9)))))
      (pss_cons (ps_if (pt_not (pt_val (pe_c0 c_alikeW (hr.mono (by decide)) (by rfl) (pa_cons (pe_cal c_exchanged (hr.mono (by decide)) (by rfl) passL (pa_cons (pv 2) (pa_cons (pv 6) pa_nil))) (pa_cons (pe_c0 c__law_exchanged (hr.mono (by decide)) (by rfl) (pa_cons (pv 2) (pa_cons (pv 6) pa_nil))) pa_nil)))))
        (pss_one (ps_ret pe_bl)) pss_nil)
      (pss_cons (ps_set (i := 10) sc_law.nd rfl (by first | exact Or.inl rfl | exact Or.inr rfl) (pe_lst pa_nil))
      (pss_cons (ps_for PassesOwn.never rfl (pi_range1 (by rfl) B.range (pa_cons (pe_callB call_lenT (by rfl) B.len PySem.boot_len (pa_cons (pe_ix ix_tT (pv 2) pe_int (fun _ _ => rfl)) pa_nil)) pa_nil)) (pg_name (i := 9) sc_law.nd rfl (by first | exact Or.inl rfl | exact Or.inr rfl))
        (pss_cons (ps_setLc (i := 11) (own := [("ring", 8)]) rfl sc_law.nd rfl rfl (sw_true rfl rfl rfl (by decide +kernel)) (pi_list (pv 3)) (blkOk_by (N := ["script", "row", "web", "some", "word", "good", "lot", "other", "ring", "k", "due", "kinds", "bad"]) (sc := defScope s_law) (by decide +kernel)) (fun _ _ _ _ _ => (pg_name (i := 8) sc_law.nd rfl (by first | exact Or.inl rfl | exact Or.inr rfl))) (fun _ _ _ _ _ => (pts_one (pt_cmpR op_inI (pv 9) (pv 8) (by with_unfolding_all rfl)))) (fun _ _ _ _ _ => (pe_op op_mod (pe_c0 c__law_spites (hr.mono (by decide)) (by rfl) (pa_cons (pv 2) (pa_cons (pv 8) pa_nil))) pe_int)))
        (pss_one (ps_expr (pe_bmL PySem.F.plainAttrs_list PySem.F.slot_list_append PySem.F.type_list_append mt_append (pv 10) (pa_cons (pe_tup (pa_cons (pe_bmL PySem.F.plainAttrs_list PySem.F.slot_list_count PySem.F.type_list_count mt_cntL (pv 11) (pa_cons pe_int pa_nil)) (pa_cons (pe_bmL PySem.F.plainAttrs_list PySem.F.slot_list_count PySem.F.type_list_count mt_cntL (pv 11) (pa_cons pe_int pa_nil)) pa_nil))) pa_nil))))))
      (pss_cons (ps_if (pt_not (pt_val (pe_c0 c_alike2 (hr.mono (by decide)) (by rfl) (pa_cons (pe_c0 c_rings_through (hr.mono (by decide)) (by rfl) (pa_cons (pv 2) pa_nil)) (pa_cons (pe_tupleL (by rfl) B.tuple (pv 10)) pa_nil)))))
        (pss_one (ps_ret pe_bl)) pss_nil)
      (pss_cons (ps_set (i := 12) sc_law.nd rfl (by first | exact Or.inl rfl | exact Or.inr rfl) (pe_c0 c__law_pick (hr.mono (by decide)) (by rfl) (pa_cons (pv 1) (pa_cons (pe_lst (pa_cons pe_non (pa_cons (pe_lst (pa_cons pe_int pa_nil)) (pa_cons (pe_tup (pa_cons (pe_callB call_lenT (by rfl) B.len PySem.boot_len (pa_cons (pe_ix ix_tT (pv 2) pe_int (fun _ _ => rfl)) pa_nil)) pa_nil)) (pa_cons (pe_tup (pa_cons pe_int (pa_cons pe_int pa_nil))) (pa_cons (pe_tup (pa_cons pe_bl pa_nil)) (pa_cons pe_str (pa_cons (pe_tup (pa_cons (pe_un un_neg pe_int) pa_nil)) (pa_cons pe_int pa_nil))))))))) pa_nil))))
      (pss_cons (ps_if (pt_cmpR op_ne (pe_give (k := 7) (q := lamQ) (by rfl) GW sc__law_word rfl (by first | exact Or.inl rfl | exact Or.inr rfl) rfl (word_gives TL B) TB rfl (hr.mono (by decide)) (lamS_by (sc := defScope s_law) (by decide +kernel)) (by rfl) (fun _ _ _ _ _ => rfl) (fun A2 o2 s2 H2 E2 f2 c2 hr2 => pe_cal c_exchanged hr2 (by rfl) (E := E2) (passes_call (takes_of rfl rfl rfl rfl) fun _ _ _ _ h => h) (pa_cons (pv 2) (pa_cons (pv 12) pa_nil)))) pe_str (nomark _))
        (pss_one (ps_ret pe_bl)) pss_nil)
      (pss_cons (ps_set (i := 12) sc_law.nd rfl (by first | exact Or.inl rfl | exact Or.inr rfl) (pe_c0 c__law_pick (hr.mono (by decide)) (by rfl) (pa_cons (pv 1) (pa_cons (pe_lst (pa_cons pe_non (pa_cons pe_str (pa_cons pe_str (pa_cons pe_str (pa_cons pe_int (pa_cons (pe_tup (pa_cons pe_str pa_nil)) pa_nil))))))) pa_nil))))
      (pss_one (ps_ret (pe_cmpR op_eq (pe_give (k := 7) (q := lamQ) (by rfl) GW sc__law_word rfl (by first | exact Or.inl rfl | exact Or.inr rfl) rfl (word_gives TW B) TB rfl (hr.mono (by decide)) (lamS_by (sc := defScope s_law) (by decide +kernel)) (by rfl) (fun _ _ _ _ _ => rfl) (fun A2 o2 s2 H2 E2 f2 c2 hr2 => pe_cal c_exchanges hr2 (by rfl) (E := E2) (passes_call (takes_of rfl rfl rfl rfl) fun _ _ _ _ h => h) (pa_cons (pv 2) (pa_cons (pv 12) pa_nil)))) pe_str (nomark _)))))))))))))))), ?_⟩
    -- the row
    refine ⟨_, rfl, (by show 4 ≤ sizeLine; decide), fun rr hrr => ?_⟩
    have X0 := Ext.new hrr (.lst [.ref sc, .int 0, .int 25546, .int 0])
    have R0 : Rw K (L2.upd H rr (.lst [.ref sc, .int 0, .int 25546, .int 0])) rr sc ns := ⟨⟨0, 25546, 0⟩, upd_same, ScrAt.new hsc hrr _, hlen, ⟨by decide, by decide, by decide⟩⟩
    have Z0 := hTb.ext X0
    have A0 := X0.own T _ own hT
    have B0 := X0.own TX _ ownX hTX
    generalize L2.upd H rr (.lst [.ref sc, .int 0, .int 25546, .int 0]) = H0 at X0 R0 Z0 A0 B0 ⊢
    -- the web, its rings
    refine ⟨_, rfl, rr, sc, ns, 5, 3, 8, rfl, R0, by decide, by decide, by decide, fun H3 wv W E3 R3 hW3 ok hnw hmw hlw => ?_⟩
    have Z3 := Z0.extB E3
    have A3 := E3.own T _ own A0
    have B3 := E3.own TX _ ownX B0
    clear R0 Z0 A0 B0 E3 X0
    obtain ⟨wa, _, _, rfl, _⟩ := id hW3
    refine ⟨_, rfl, _, W, rfl, hW3, ok, fun H4 ev evs e4 _ hev hevs => ?_⟩
    have S4 : St8 K Ps T TX W rr sc ns wa ev evs H4 := ⟨R3.ext e4, hW3.ext e4, hev, hevs, Z3.ext e4, TabS.nil (e4.own T _ own A3), TabS.nil (e4.own TX _ ownX B3)⟩
    clear R3 Z3 A3 B3 hW3 hev hevs e4
    have lrs : (ringsOf W).length ≤ 8108730 := rings_len2 ok.fewL
    have lev : evs.length ≤ sizeLine := by rw [paired_len S4.evs]; exact Nat.le_trans lrs (by decide)
    have l14 := ok.most
    refine ⟨(by show 2 ≤ sizeLine; decide), fun L hL => ?_⟩
    have eL := Ext.new hL (.lst [.str "odd", .str "even"])
    have S5 := S4.ext own ownX eL
    have hL5 : (L2.upd H4 L (.lst [.str "odd", .str "even"])) L = some (.lst [.str "odd", .str "even"]) := upd_same
    generalize L2.upd H4 L (.lst [.str "odd", .str "even"]) = H5 at S5 hL5 ⊢
    clear S4 eL
    refine ⟨L, rfl, ⟨_, SqL.of hL5⟩, for_list (K := K) (a := L) (xs := [.str "odd", .str "even"]) (fun i σ H' => ∃ (o4 o5 o6 o7 o8 o9 o10 o11 o12 : Option V), σ = [some (.ref sc), some (.ref rr), some (.ref wa), some (.ref ev), o4, o5, o6, o7, o8, o9, o10, o11, o12] ∧ St8 K Ps T TX W rr sc ns wa ev evs H' ∧ H' L = some (.lst [.str "odd", .str "even"]))
      ⟨_, _, _, _, _, _, _, _, _, rfl, S5, hL5⟩ (fun i σ H' _ ⟨_, _, _, _, _, _, _, _, _, _, _, h⟩ => SqL.of h) ?_ ?_⟩
    · rintro i x σ H1 hi ⟨o4, o5, o6, o7, o8, o9, o10, o11, o12, rfl, S1, hL1⟩
      obtain ⟨wd, rfl, hwd⟩ : ∃ wd : Str, x = .str wd ∧ wd ∈ (["odd", "even"] : List Str) := by
        match i, hi with
        | 0, hi => cases hi; exact ⟨_, rfl, by simp⟩
        | 1, hi => cases hi; exact ⟨_, rfl, by simp⟩
      refine ⟨(by show 0 ≤ sizeLine; decide), fun G hG => ?_⟩
      have eG := Ext.new hG (.lst [])
      have hGG : (L2.upd H1 G (.lst [])) G = some (.lst []) := upd_same
      obtain ⟨a', wt, wl, ea, hwa, hwt, ⟨wb, wls, rfl, hwb, hwls⟩⟩ := id S1.web
      cases ea
      have llen : wls.length = W.looks.length := by rw [paired_len hwls, List.length_map]
      refine ⟨_, rfl, wa, _, _, _, rfl, rfl, eG.tup hwa, at_of (j := 1) rfl rfl, wb, _, rfl, .inr (eG.tup hwb), W.looks.length, by rw [llen] <;> rfl, ok.most, fun H2 lq lvs e2 hlq0 hlq hlvs => ?_⟩
      have nq : lq ≠ G := fun z => by rw [z, hGG] at hlq0; cases hlq0
      have E12 := eG.trans e2
      have hG2 := e2.lst hGG
      clear hGG eG
      refine ⟨lq, rfl, ⟨_, SqL.of hlq⟩, for_list (K := K) (a := lq) (xs := lvs) (fun i σ H' => ∃ (o6 o7 o8 o9 : Option V) (gv : List V), σ = [some (.ref sc), some (.ref rr), some (.ref wa), some (.ref ev), some (.str wd), some (.ref G), o6, o7, o8, o9, o10, o11, o12] ∧ Ext H1 H' ∧ H' G = some (.lst gv) ∧ Paired (TI H') gv (((lotsI W.looks.length).take i).filter (exFit W wd)) ∧ H' lq = some (.lst lvs) ∧ Paired (TI H') lvs (lotsI W.looks.length))
        ⟨_, _, _, _, [], rfl, E12, hG2, .nil, hlq, hlvs⟩ (fun i σ H' _ ⟨_, _, _, _, _, _, _, _, _, h, _⟩ => SqL.of h) ?_ ?_⟩
      · rintro j x σ H6 hj ⟨o6, o7, o8, o9, gv, rfl, E6, hG6, hgv, hq6, hqs⟩
        obtain ⟨lot, hlot, la, rfl, hla⟩ := paired_get' hqs hj
        have S6 := S1.ext own ownX E6
        refine ⟨_, rfl, _, rfl, _, _, W, lot, rfl, S6.web, ok, ⟨la, rfl, hla⟩, fun H7 ov e7 hov => ?_⟩
        have S7 := S6.ext own ownX e7
        refine ⟨_, rfl, ev, rfl, ⟨_, SqL.of S7.ev⟩, fun D hD => ?_⟩
        refine lc_fmL (R := TI) (S := TI) stTI stTI (fun p => if (!(spitesN (exW W lot).looks p % 2 == wantN wd)) = true then some p else none) hD S7.ev S7.evs lev (fun x p H8 Ky Kn e8 hmem hx k1 k2 => ?_) fun H8 acc e8 hacc hp => ?_
        · obtain ⟨pk, _, p7⟩ := raw_ok (sortT_mem.mp hmem)
          refine ⟨rfl, ?_⟩
          refine ⟨_, rfl, _, rfl, _, _, exW W lot, p, rfl, hov.ext e8, hx, by omega, fun n hn => by rw [ex_len]; exact pk.num n hn, fun H9 e9 => .inl ⟨_, rfl, ?_⟩⟩
          refine ⟨_, _, rfl, rfl, (show (0 : Int) < 2 by decide), _, rfl, rfl, .inr ⟨_, rfl, rfl, _, rfl, ?_⟩⟩
          have eb : (!decide (V.int (((spitesN (exW W lot).looks p : Nat) : Int) % 2) = V.int (if decide (V.str wd = V.str "odd") = true then 1 else 0))) = !(spitesN (exW W lot).looks p % 2 == wantN wd) := by
            congr 1
            rw [dec_int, Bool.eq_iff_iff, beq_iff_eq, beq_iff_eq]
            unfold wantN
            by_cases hw : wd = "odd"
            · rw [if_pos (decide_eq_true (congrArg V.str hw)), if_pos hw]
              omega
            · rw [if_neg (fun h => hw (dec_strE h)), if_neg hw]
              omega
          show if _ = true then _ else _
          rw [eb]
          refine ite_of (fun hc => ?_) fun hc => ?_
          · exact ⟨_, rfl, k1 _ _ _ (if_pos hc) e9 (hx.ext e9)⟩
          · exact k2 _ (if_neg (by rw [hc]; simp)) e9
        · rw [fmIf] at hp
          refine ⟨(by show 0 ≤ sizeLine; decide), fun q hq => ⟨_, [], ⟨D, acc, rfl, (Ext.new hq _).lst hacc, pTI.ext (Ext.new hq _) hp⟩, ⟨q, [], rfl, upd_same, .nil⟩, _, rfl, ?_⟩⟩
          have eq := e8.trans (Ext.new hq (.lst []))
          have e79 := e7.trans eq
          have nd : lot.Nodup := by
            obtain ⟨l0, hl0, rfl⟩ := List.mem_map.mp (List.mem_of_getElem? hlot)
            exact List.pairwise_map.mpr ((mem_lots.mp hl0).1.imp fun {a b} h e => by omega)
          have em : decide (((ringsOf W).filter fun p => !(spitesN (exW W lot).looks p % 2 == wantN wd)) = []) = exFit W wd lot := by
            rw [ex_fit ok (wd := wd) nd (exFit W wd lot) rfl, Bool.eq_iff_iff, decide_eq_true_iff, List.filter_eq_nil_iff, List.all_eq_true]
            constructor
            · intro h p hp
              have := h p hp
              simpa using this
            · intro h p hp
              rw [h p hp]
              decide
          rw [em]
          have hj' : j < 16384 := by
            have h1 := (List.getElem?_eq_some_iff.mp hj).1
            have h2 := paired_len hqs
            unfold lotsI at h2
            rw [List.length_map, lots_len] at h2
            have := Nat.pow_le_pow_right (n := 2) (by decide) ok.most
            omega
          have lgv : gv.length ≤ j := by
            have h1 := paired_len hgv
            have h2 := List.length_filter_le (exFit W wd) ((lotsI W.looks.length).take j)
            rw [List.length_take] at h2
            omega
          refine ite_of (fun hc => ?_) fun hc => ?_
          · have hG9 := e79.lst hG6
            refine ⟨_, rfl, ⟨G, _, rfl, hG9⟩, _, rfl, G, gv, _, rfl, rfl, hG9, Nat.lt_of_lt_of_le (show gv.length < 1000000 by omega) (show 1000000 ≤ sizeLine by decide), ?_⟩
            refine ⟨_, _, _, _, gv ++ [.ref la], rfl, (E6.trans e79).put hG _, upd_same, ?_, by rw [upd_ne nq]; exact e79.lst hq6, paired_mono (fun _ _ h => stTI.put hG9 h) (pTI.ext e79 hqs)⟩
            rw [take_snoc hlot, List.filter_append, show [lot].filter (exFit W wd) = [lot] by rw [List.filter_cons_of_pos hc]; rfl]
            exact paired_snoc (stTI.put hG9 ⟨la, rfl, e79.tup hla⟩) (paired_mono (fun _ _ h => stTI.put hG9 h) (pTI.ext e79 hgv))
          · refine ⟨_, _, _, _, gv, rfl, E6.trans e79, e79.lst hG6, ?_, e79.lst hq6, pTI.ext e79 hqs⟩
            rw [take_snoc hlot, List.filter_append, show [lot].filter (exFit W wd) = [] by rw [List.filter_cons_of_neg (by rw [hc]; decide)]; rfl, List.append_nil]
            exact pTI.ext e79 hgv
      · rintro σ H6 ⟨o6, o7, o8, o9, gv, rfl, E6, hG6, hgv, hq6, hqs⟩
        rw [paired_len hqs, List.take_length] at hgv
        have S6 := S1.ext own ownX E6
        have hL6 := E6.lst hL1
        have lgv : gv.length ≤ 16384 := by
          rw [paired_len hgv]
          refine Nat.le_trans (List.length_filter_le _ _) ?_
          unfold lotsI
          rw [List.length_map, lots_len]
          exact Nat.pow_le_pow_right (by decide) ok.most
        refine ⟨_, rfl, _, rfl, _, _, W, rfl, S6.web, ok, S6.tb, .inl ⟨S6.tx, wd, rfl, hwd, fun H7 q g7 tx7 hq7 => ?_⟩⟩
        have S7 := S6.gtF g7.ext (tabS_gt own ne g7 S6.ts) tx7
        have hG7 := @Ext.lst ⟨fun _ => False⟩ _ _ g7.ext _ _ hG6
        have hgv7 := @pTI.ext ⟨fun _ => False⟩ _ _ _ _ g7.ext hgv
        have hL7 := @Ext.lst ⟨fun _ => False⟩ _ _ g7.ext _ _ hL6
        refine ⟨_, rfl, G, gv, _, rfl, hG7, hgv7, by omega, fun H8 q2 e8 hq8 => ?_⟩
        have hsl : (((lotsI W.looks.length).filter (exFit W wd)).filter fun r => r.length == (((lotsI W.looks.length).filter (exFit W wd)).headD []).length) = leastL W.looks.length (exFit W wd) := smallest_least _ _
        rw [hsl] at hq8
        obtain ⟨_, v1, q1e, hv1, pv1⟩ := hq7.ext e8
        cases q1e
        obtain ⟨_, v2, q2e, hv2, pv2⟩ := id hq8
        cases q2e
        have lll := least_len (n := W.looks.length) (fit := exFit W wd) ok.most
        have hlots : ∀ r ∈ leastL W.looks.length (exFit W wd), r.length ≤ 100 := fun r hr => lot_len ok.most (least_fit hr).2
        refine ⟨q, q2, false, v1, v2, rfl, hv1, hv2, by rw [paired_len pv1, paired_len pv2], by rw [paired_len pv1]; omega, al2 pv1 pv2 hlots, fun H9 e9 => ?_⟩
        refine ⟨_, rfl, ite2 (fun h => absurd h (by decide +kernel)) (fun _ => ?_)⟩
        exact ⟨_, _, _, _, _, _, _, _, _, rfl, S7.ext own ownX (e8.trans e9), (e8.trans e9).lst hL7⟩
    · rintro σ H1 ⟨o4, o5, o6, o7, o8, o9, o10, o11, o12, rfl, S1, hL1⟩
      clear hL1
      obtain ⟨a', wt, wl, ea, hwa, hwt, ⟨wb, wls, rfl, hwb, hwls⟩⟩ := id S1.web
      cases ea
      have llen : wls.length = W.looks.length := by rw [paired_len hwls, List.length_map]
      -- a lot
      refine ⟨_, rfl, wa, _, _, _, rfl, rfl, hwa, at_of (j := 1) rfl rfl, wb, _, rfl, .inr hwb, _, rfl, by omega, by omega, fun D hD => ?_⟩
      have hDr := S1.row.ne_none hD
      rw [show ((wls.length : Int)).toNat = wls.length by omega]
      refine lc_range (lo := 0) (n := wls.length) (fun i H' => ∃ ks : List Int, H' D = some (.lst (iv ks)) ∧ ExtB rr H1 H' ∧ Rw K H' rr sc ns ∧ ks.Pairwise (· < ·) ∧ (∀ x ∈ ks, 0 ≤ x ∧ x < i) ∧ ks.length ≤ i) ⟨[], upd_same, (Ext.new hD _).b, S1.row.new hD _, .nil, (fun _ h => by cases h), Nat.le_refl _⟩ (fun i H' hi ⟨ks, h1, e1, R1, a1, b1, l1⟩ => ?_) fun H2 ⟨ks, h2, e2, R2, a2, b2, l2⟩ => ?_
      · refine ⟨rfl, ?_⟩
        refine ⟨_, rfl, rr, sc, ns, _, rfl, R1, ⟨by decide, by decide⟩, fun H3 m e3 R3 same hm => ⟨rfl, _, rfl, ?_⟩⟩
        have h3 := same_at same hDr h1
        refine ite2 (fun _ => ?_) (fun _ => ?_)
        · refine ⟨_, rfl, iv ks, h3, by rw [iv_len]; exact small1000 (by omega), ks ++ [(i : Int)], ?_, (e1.trans e3).put hD _, R3.put S1.row hD _, ?_, fun x hx => ?_, by rw [List.length_append]; simp only [List.length_singleton]; omega⟩
          · rw [upd_same, Int.zero_add]
            unfold iv
            rw [List.map_append]
            rfl
          · refine List.pairwise_append.mpr ⟨a1, by simp, fun x hx y hy => ?_⟩
            rw [List.mem_singleton.mp hy]
            exact (b1 x hx).2
          · rcases List.mem_append.mp hx with q | q
            · have := b1 x q
              omega
            · rw [List.mem_singleton.mp q]
              omega
        · exact ⟨ks, h3, e1.trans e3, R3, a1, (fun x hx => by have := b1 x hx; omega), by omega⟩
      have S2 := S1.taken own ownX e2 R2
      have lo : LotOk W.looks.length ks := ⟨a2, fun x hx => by have := b2 x hx; omega, by omega⟩
      refine ⟨D, _, rfl, h2, fun u hu => ?_⟩
      have eu := Ext.new hu (.tup (iv ks))
      have S3 := S2.ext own ownX eu
      have hu3 : (L2.upd H2 u (.tup (iv ks))) u = some (.tup (iv ks)) := upd_same
      generalize L2.upd H2 u (.tup (iv ks)) = H3 at S3 hu3 ⊢
      clear eu S2 e2 R2 h2 hu hwa hwt hwb hwls S1
      -- exchanged
      refine ⟨_, rfl, _, rfl, _, _, W, rfl, S3.web, ok, S3.tb, .inl ⟨ks, ⟨u, rfl, hu3⟩, lo, fun H4 q1 e4 hq1 => ?_⟩⟩
      refine ⟨_, rfl, _, rfl, _, _, W, ks, rfl, (S3.ext own ownX e4).web, ok, ⟨u, rfl, e4.tup hu3⟩, fun H5 q2 e5 hq2 => ?_⟩
      obtain ⟨qa, t1, l1', rfl, hqa, ⟨ta, rfl, hta⟩, ⟨lx, ly, rfl, hlx, hly⟩⟩ := hq1.ext e5
      obtain ⟨qb, t2, l2', rfl, hqb, ⟨tb, rfl, htb⟩, ⟨mx, my, rfl, hmx, hmy⟩⟩ := id hq2
      have hrow : ∀ r ∈ (exW W ks).looks.map row3, r.length ≤ 100 := fun r hr => by
        obtain ⟨l, _, rfl⟩ := List.mem_map.mp hr
        exact (show 3 ≤ 100 by decide)
      have lex : ly.length ≤ 14 := by rw [paired_len hly, List.length_map, ex_len]; exact l14
      have ltp : (exW W ks).tops.length ≤ 6 := ok.few
      refine ⟨qa, qb, false, _, _, rfl, hqa, hqb, rfl, (show 2 ≤ 1000000 by decide), fun H' i x y Q' E' e hx hy k' => ?_, fun H6 e6 => ⟨_, rfl, ?_⟩⟩
      · match i, hx, hy with
        | 0, hx, hy =>
          cases hx
          cases hy
          exact .inl ⟨ta, tb, false, _, _, rfl, e.tup hta, e.tup htb, rfl, by rw [iv_len]; omega, al1 _ H', k'⟩
        | 1, hx, hy =>
          cases hx
          cases hy
          exact .inr ⟨lx, mx, false, _, _, rfl, e.tup hlx, e.tup hmx, by rw [paired_len hmy, paired_len hly], by omega, al2 (pTI.ext e hly) (pTI.ext e hmy) hrow, k'⟩
      refine ite2 (fun h => absurd h (by decide +kernel)) (fun _ => ?_)
      have S6 := S3.ext own ownX ((e4.trans e5).trans e6)
      clear e4 e5 e6 hq1 hq2 hqa hqb hta htb hlx hly hmx hmy S3 hu3 hrow lex ltp
      -- rings by looks
      refine ⟨(by show 0 ≤ sizeLine; decide), fun G hG => ?_⟩
      have eG := Ext.new hG (.lst [])
      have hGG : (L2.upd H6 G (.lst [])) G = some (.lst []) := upd_same
      obtain ⟨a', wt, wl, ea, hwa, hwt, ⟨wb, wls, rfl, hwb, hwls⟩⟩ := id S6.web
      cases ea
      have llen : wls.length = W.looks.length := by rw [paired_len hwls, List.length_map]
      refine ⟨_, rfl, wa, _, _, _, rfl, rfl, eG.tup hwa, at_of (j := 1) rfl rfl, wb, _, rfl, .inr (eG.tup hwb), _, rfl, by omega, by omega, ?_⟩
      rw [show ((wls.length : Int)).toNat = wls.length by omega]
      refine for_range (lo := 0) (n := wls.length) (fun i σ H' => ∃ (o8 o9 o11 o12 : Option V) (gv : List V), σ = [some (.ref sc), some (.ref rr), some (.ref wa), some (.ref ev), o4, o5, some (.ref u), o7, o8, o9, some (.ref G), o11, o12] ∧ Ext H6 H' ∧ H' G = some (.lst gv) ∧ Paired (TI H') gv ((List.range i).map fun n : Nat => [(throughN (n : Int) (kindOf W true) : Int), (throughN (n : Int) (kindOf W false) : Int)]))
        ⟨_, _, _, _, [], rfl, eG, hGG, .nil⟩ ?_ ?_
      · rintro i σ H7 hi ⟨o8, o9, o11, o12, gv, rfl, E7, hG7, hgv⟩
        have S7 := S6.ext own ownX E7
        refine ⟨_, rfl, ev, rfl, ⟨_, SqL.of S7.ev⟩, fun D2 hD2 => ?_⟩
        refine lc_fmL (R := TI) (S := VI) stTI stVI (fun p => if p.contains (0 + (i : Int)) = true then some (((spitesN W.looks p : Nat) : Int) % 2) else none) hD2 S7.ev S7.evs lev (fun x p H8 Ky Kn e8 hmem hx k1 k2 => ?_) fun H8 acc e8 hacc hp => ?_
        · obtain ⟨pk, _, p7⟩ := raw_ok (sortT_mem.mp hmem)
          have hx0 := hx
          obtain ⟨z, rfl, hz⟩ := hx
          refine ⟨rfl, ?_⟩
          refine ⟨_, rfl, _, rfl, (0 + (i : Int)), p, rfl, .inl ⟨z, rfl, hz⟩, _, rfl, ?_⟩
          refine ite_of (fun hc => ?_) fun hc => ?_
          · exact ⟨_, rfl, _, rfl, _, _, W, p, rfl, (S7.ext own ownX e8).web, hx0, by omega, pk.num, fun H9 e9 => ⟨_, _, rfl, rfl, (show (0 : Int) < 2 by decide), k1 _ _ _ (if_pos hc) e9 rfl⟩⟩
          · exact k2 _ (if_neg (by rw [hc]; simp)) (Ext.refl _)
        have ea := pVI hp
        subst ea
        obtain ⟨c0, c1⟩ := count_kinds W.looks (0 + (i : Int)) (ringsOf W)
        have hG8 := e8.lst hG7
        have lg := paired_len hgv
        rw [List.length_map, List.length_range] at lg
        refine ⟨_, rfl, ⟨G, _, rfl, hG8⟩, _, rfl, ⟨D2, _, rfl, hacc⟩, D2, _, 0, rfl, rfl, hacc, _, rfl, ⟨D2, _, rfl, hacc⟩, D2, _, 1, rfl, rfl, hacc, (by show 2 ≤ sizeLine; decide), fun v hv => ?_⟩
        have eV := Ext.new hv (.tup [.int (((ringsOf W).filterMap fun p => if p.contains (0 + (i : Int)) = true then some (((spitesN W.looks p : Nat) : Int) % 2) else none).count 0 : Nat), .int (((ringsOf W).filterMap fun p => if p.contains (0 + (i : Int)) = true then some (((spitesN W.looks p : Nat) : Int) % 2) else none).count 1 : Nat)])
        have hG9 := eV.lst hG8
        refine ⟨G, gv, _, rfl, rfl, hG9, Nat.lt_of_lt_of_le (show gv.length < 100 by omega) (show 100 ≤ sizeLine by decide), ?_⟩
        refine ⟨_, _, _, _, gv ++ [.ref v], rfl, ((E7.trans e8).trans eV).put hG _, upd_same, ?_⟩
        rw [List.range_succ, List.map_append]
        refine paired_app (paired_mono (fun _ _ h => stTI.put hG9 h) (pTI.ext (e8.trans eV) hgv)) (.cons (stTI.put hG9 ⟨v, rfl, ?_⟩) .nil)
        rw [upd_same, c0, c1, Int.zero_add]
        rfl
      · rintro σ H7 ⟨o8, o9, o11, o12, gv, rfl, E7, hG7, hgv⟩
        have S7 := S6.ext own ownX E7
        have hth : ((List.range wls.length).map fun n : Nat => [(throughN (n : Int) (kindOf W true) : Int), (throughN (n : Int) (kindOf W false) : Int)]) = throughs W := by
          unfold throughs
          rw [llen, nums_range (fun n => [(throughN n (kindOf W true) : Int), (throughN n (kindOf W false) : Int)])]
        rw [hth] at hgv
        have lth : (throughs W).length ≤ 14 := by unfold throughs; rw [List.length_map, nums_len]; omega
        refine ⟨_, rfl, _, W, rfl, S7.web, ok, S7.tb, fun H8 q e8 hq => ⟨_, rfl, G, gv, rfl, e8.lst hG7, fun v hv => ?_⟩⟩
        have eV := Ext.new hv (.tup gv)
        obtain ⟨_, v1, q1e, hv1, pv1⟩ := hq.ext eV
        cases q1e
        refine ⟨q, v, false, v1, gv, rfl, hv1, upd_same, by rw [paired_len pv1, paired_len hgv], by rw [paired_len pv1]; omega, al2 pv1 (pTI.ext (e8.trans eV) hgv) (fun r hr => ?_), fun H9 e9 => ⟨_, rfl, ite2 (fun h => absurd h (by decide +kernel)) (fun _ => ?_)⟩⟩
        · unfold throughs at hr
          obtain ⟨n, _, rfl⟩ := List.mem_map.mp hr
          exact (show 2 ≤ 100 by decide)
        have S9 := S7.ext own ownX ((e8.trans eV).trans e9)
        clear e9 hv1 pv1 eV hv hq e8 hgv hG7 E7 S7 hth lth hwls hwb hwt hwa hGG eG hG S6
        obtain ⟨a', wt, wl, ea, hwa, hwt, ⟨wb, wls, rfl, hwb, hwls⟩⟩ := id S9.web
        cases ea
        have llen : wls.length = W.looks.length := by rw [paired_len hwls, List.length_map]
        -- no lots
        refine ⟨_, rfl, (by show 1 ≤ sizeLine; decide), fun p1 hp1 => ?_⟩
        have X1 := Ext.new hp1 (.lst [.int 0])
        refine ⟨_, rfl, wa, _, _, _, rfl, rfl, X1.tup hwa, at_of (j := 1) rfl rfl, wb, _, rfl, .inr (X1.tup hwb), (by show 1 ≤ sizeLine; decide), fun p2 hp2 => ⟨(by show 2 ≤ sizeLine; decide), fun p3 hp3 => ⟨(by show 1 ≤ sizeLine; decide), fun p4 hp4 => ⟨_, rfl, (by show 1 ≤ sizeLine; decide), fun p5 hp5 => ⟨(by show 8 ≤ sizeLine; decide), fun p6 hp6 => ?_⟩⟩⟩⟩⟩
        have Y1 := X1
        have Y2 := X1.trans (Ext.new hp2 (.tup [.int (wls.length : Int)]))
        have Y3 := Y2.trans (Ext.new hp3 (.tup [.int 0, .int 0]))
        have Y4 := Y3.trans (Ext.new hp4 (.tup [.bl true]))
        have Y5 := Y4.trans (Ext.new hp5 (.tup [.int (-1)]))
        have Y6 := Y5.trans (Ext.new hp6 (.lst [.non, .ref p1, .ref p2, .ref p3, .ref p4, .str "0", .ref p5, .int 0]))
        have S10 := S9.ext own ownX Y6
        have n6 : p6 ≠ rr := (S9.ext own ownX Y5).row.ne_none hp6
        have g6 : (L2.upd (L2.upd (L2.upd (L2.upd (L2.upd (L2.upd H9 p1 (.lst [.int 0])) p2 (.tup [.int (wls.length : Int)])) p3 (.tup [.int 0, .int 0])) p4 (.tup [.bl true])) p5 (.tup [.int (-1)])) p6 (.lst [.non, .ref p1, .ref p2, .ref p3, .ref p4, .str "0", .ref p5, .int 0])) p6 = some (.lst [.non, .ref p1, .ref p2, .ref p3, .ref p4, .str "0", .ref p5, .int 0]) := upd_same
        have c1 := ((Ext.new hp2 (.tup [.int (wls.length : Int)])).trans ((Ext.new hp3 (.tup [.int 0, .int 0])).trans ((Ext.new hp4 (.tup [.bl true])).trans ((Ext.new hp5 (.tup [.int (-1)])).trans (Ext.new hp6 (.lst [.non, .ref p1, .ref p2, .ref p3, .ref p4, .str "0", .ref p5, .int 0])))))).lst (upd_same (a := p1))
        have c2 := ((Ext.new hp3 (.tup [.int 0, .int 0])).trans ((Ext.new hp4 (.tup [.bl true])).trans ((Ext.new hp5 (.tup [.int (-1)])).trans (Ext.new hp6 (.lst [.non, .ref p1, .ref p2, .ref p3, .ref p4, .str "0", .ref p5, .int 0]))))).tup (upd_same (a := p2))
        have c3 := ((Ext.new hp4 (.tup [.bl true])).trans ((Ext.new hp5 (.tup [.int (-1)])).trans (Ext.new hp6 (.lst [.non, .ref p1, .ref p2, .ref p3, .ref p4, .str "0", .ref p5, .int 0])))).tup (upd_same (a := p3))
        have c4 := ((Ext.new hp5 (.tup [.int (-1)])).trans (Ext.new hp6 (.lst [.non, .ref p1, .ref p2, .ref p3, .ref p4, .str "0", .ref p5, .int 0]))).tup (upd_same (a := p4))
        have c5 := (Ext.new hp6 (.lst [.non, .ref p1, .ref p2, .ref p3, .ref p4, .str "0", .ref p5, .int 0])).tup (upd_same (a := p5))
        have n1 : p1 ≠ rr := S9.row.ne_none hp1
        refine ⟨rr, sc, p6, ns, _, rfl, S10.row, g6, n6, ⟨(show 0 < 8 by decide), (show 8 < 1000000 by decide)⟩, fun HB v j EB RB sameB hv => ?_⟩
        have SB := S10.taken own ownX EB RB
        have hbad : BadL HB W.looks.length v := by
          match j, hv with
          | 0, hv => cases hv; exact .inl (.inl .non)
          | 1, hv => cases hv; exact .inl (.inl (.lst (EB.lst n1 c1)))
          | 2, hv =>
            cases hv
            refine .inr ⟨[(wls.length : Int)], ⟨p2, rfl, S10.row.tup EB c2⟩, by simp, fun h => ?_⟩
            have := h.2 _ (List.mem_singleton.mpr rfl)
            omega
          | 3, hv =>
            cases hv
            refine .inr ⟨[0, 0], ⟨p3, rfl, S10.row.tup EB c3⟩, by simp, fun h => ?_⟩
            exact absurd h.1 (by decide)
          | 4, hv => cases hv; exact .inl (.inr ⟨p4, _, rfl, S10.row.tup EB c4, .inr ⟨true, rfl⟩⟩)
          | 5, hv => cases hv; exact .inl (.inl (.str _))
          | 6, hv =>
            cases hv
            refine .inr ⟨[-1], ⟨p5, rfl, S10.row.tup EB c5⟩, by simp, fun h => ?_⟩
            have := h.2 _ (List.mem_singleton.mpr rfl)
            omega
          | 7, hv => cases hv; exact .inl (.inl (.int _))
        clear c1 c2 c3 c4 c5 n1 g6 n6 S10 Y1 Y2 Y3 Y4 Y5 Y6 X1 S9 sameB EB RB hwls hwb hwt hwa
        refine ⟨SB.ts, fun HC gr tC Qx => ?_⟩
        have xC := lamGt SB.ts gr.1 tC
        have SC := SB.gtF xC.ext tC (tabS_gt ownX (Ne.symm ne) xC SB.tx)
        refine ⟨_, rfl, _, rfl, _, _, W, rfl, SC.web, ok, SC.tb, .inr ⟨@BadL.ext ⟨fun _ => False⟩ _ _ _ _ xC.ext hbad, fun HD eD => ⟨rfl, rfl, fun HE eE => ?_⟩⟩⟩
        have SE := SC.ext own ownX (eD.trans eE)
        refine ⟨rfl, _, rfl, ite2 (fun h => absurd h (by decide +kernel)) (fun _ => ?_)⟩
        clear eD eE SC xC tC gr hbad SB
        -- no words
        refine ⟨_, rfl, (by show 1 ≤ sizeLine; decide), fun r1 hr1 => ⟨(by show 6 ≤ sizeLine; decide), fun r2 hr2 => ?_⟩⟩
        have V1 := Ext.new hr1 (.tup [.str "odd"])
        have V2 := Ext.new hr2 (.lst [.non, .str "any", .str "Odd", .str "", .int 1, .ref r1])
        have SF := SE.ext own ownX (V1.trans V2)
        have m2 : r2 ≠ rr := (SE.ext own ownX V1).row.ne_none hr2
        have d1 := V2.tup (upd_same (a := r1))
        refine ⟨rr, sc, r2, ns, _, rfl, SF.row, upd_same, m2, ⟨(show 0 < 6 by decide), (show 6 < 1000000 by decide)⟩, fun HF v j EF RF sameF hv => ?_⟩
        have SG := SF.taken own ownX EF RF
        have d1F := SF.row.tup EF d1
        refine ⟨SG.ts, fun HG gr tG Qx => ?_⟩
        have xG := lamGt SG.ts gr.1 tG
        have SH := SG.gtF xG.ext tG (tabS_gt ownX (Ne.symm ne) xG SG.tx)
        have d1G := @Ext.tup ⟨fun _ => False⟩ _ _ xG.ext _ _ d1F
        have hbw : BadW K HG v := by
          match j, hv with
          | 0, hv => cases hv; exact ⟨.none, fun _ _ => .non, by decide +kernel, by decide +kernel, by decide +kernel⟩
          | 1, hv => cases hv; exact ⟨_, fun _ _ => .str _, by decide +kernel, by decide +kernel, by decide +kernel⟩
          | 2, hv => cases hv; exact ⟨_, fun _ _ => .str _, by decide +kernel, by decide +kernel, by decide +kernel⟩
          | 3, hv => cases hv; exact ⟨_, fun _ _ => .str _, by decide +kernel, by decide +kernel, by decide +kernel⟩
          | 4, hv => cases hv; exact ⟨_, fun _ _ => .int _, by decide +kernel, by decide +kernel, by decide +kernel⟩
          | 5, hv => cases hv; exact ⟨.tuple [.str "odd"], fun _ e => .tup (SqT.of (e.tup d1G)) (.cons (.str _) .nil), by decide +kernel, by decide +kernel, by decide +kernel⟩
        refine ⟨_, rfl, _, rfl, _, _, W, rfl, SH.web, ok, SH.tb, .inr ⟨hbw, fun HI eI => ⟨rfl, rfl, fun HJ eJ => ⟨rfl, ?_⟩⟩⟩⟩
        have e := k HJ
        rw [← show decide (V.str (wordN8 4) = V.str "word") = true by decide +kernel] at e
        exact e
end
end Lk


/-! ## FnU -/
set_option Elab.async false
set_option linter.all false
/-! A def's promise, with more room; one of two promises. -/
namespace Lk
open PySem PySem.Spec PyProof.Rows L2
variable {P : Program} {w : World} {K : PySem.W.Frag} {mg : Str → Option Value} {base : Heap} {CX : CXT} {k k' : Nat} {f : Addr} {fd : FuncData} {ps : List Str} {sp sp' : Sp}
theorem fn_up (h : k ≤ k') (F : FnOk P w K mg base CX k f fd ps sp) : FnOk P w K mg base CX k' f fd ps sp :=
  ⟨F.len, fun A outer s H args us vs Q E hr => F.run A outer s H args us vs Q E (hr.mono h)⟩
theorem fn_or (F : FnOk P w K mg base CX k f fd ps sp) (F' : FnOk P w K mg base CX k f fd ps sp') : FnOk P w K mg base CX k f fd ps (fun vs H Q E => sp vs H Q E ∨ sp' vs H Q E) :=
  ⟨fun vs H Q E h => h.elim (F.len vs H Q E) (F'.len vs H Q E), fun A outer s H args us vs Q E hr he hb hv hs => hs.elim (F.run A outer s H args us vs Q E hr he hb hv) (F'.run A outer s H args us vs Q E hr he hb hv)⟩
end Lk

/-! ## EndK66 -/
set_option Elab.async false
set_option linter.all false
set_option maxRecDepth 100000
set_option maxHeartbeats 4000000
/-! All defs of the heap behind the program's lines, joined to the law. -/
namespace Lk
open PySem PySem.Spec PyProof.Rows L2 Gx
structure Names (K : PySem.W.Frag) : Prop where
  n_isi : PySem.W.nsIn K mainGlobals "isinstance" = some none
  n_int : PySem.W.nsIn K mainGlobals "int" = some none
  n_bool : PySem.W.nsIn K mainGlobals "bool" = some none
  n_tuple : PySem.W.nsIn K mainGlobals "tuple" = some none
  n_list : PySem.W.nsIn K mainGlobals "list" = some none
  n_set : PySem.W.nsIn K mainGlobals "set" = some none
  n_len : PySem.W.nsIn K mainGlobals "len" = some none
  n_all : PySem.W.nsIn K mainGlobals "all" = some none
  n_range : PySem.W.nsIn K mainGlobals "range" = some none
  n_sorted : PySem.W.nsIn K mainGlobals "sorted" = some none
  n_enum : PySem.W.nsIn K mainGlobals "enumerate" = some none
  n_zip : PySem.W.nsIn K mainGlobals "zip" = some none
  n_max : PySem.W.nsIn K mainGlobals "max" = some none
  n_str : PySem.W.nsIn K mainGlobals "str" = some none
  n_sup : PySem.W.nsIn K mainGlobals "super" = some none
  n_min : PySem.W.nsIn K mainGlobals "min" = some none
  n_any : PySem.W.nsIn K mainGlobals "any" = some none
  n_sum : PySem.W.nsIn K mainGlobals "sum" = some none
  n_dict : PySem.W.nsIn K mainGlobals "dict" = some none
  n_MOST_FOLK : ∃ t, PySem.W.nsIn K mainGlobals "MOST_FOLK" = some (some (.int 6 t))
  n_MOST_TOP : ∃ t, PySem.W.nsIn K mainGlobals "MOST_TOP" = some (some (.int 3 t))
  n_MOST_LOOKS : ∃ t, PySem.W.nsIn K mainGlobals "MOST_LOOKS" = some (some (.int 14 t))
  n_MOST_LOOKS_OF_ONE : ∃ t, PySem.W.nsIn K mainGlobals "MOST_LOOKS_OF_ONE" = some (some (.int 4 t))
  n_comb : PySem.W.nsIn K mainGlobals "combinations" = some (some (.type "itertools.combinations"))
theorem Names.blt {K : PySem.W.Frag} {h : Heap} {mg : Str → Option Value} (N : Names K) (X : K.In h) (G : h.Ns mainGlobals mg) : @Blt mg :=
  ⟨PySem.W.mg_none_of X G N.n_isi, PySem.W.mg_none_of X G N.n_int, PySem.W.mg_none_of X G N.n_bool, PySem.W.mg_none_of X G N.n_tuple, PySem.W.mg_none_of X G N.n_list, PySem.W.mg_none_of X G N.n_set, PySem.W.mg_none_of X G N.n_len, PySem.W.mg_none_of X G N.n_all, PySem.W.mg_none_of X G N.n_range, PySem.W.mg_none_of X G N.n_sorted, PySem.W.mg_none_of X G N.n_enum, PySem.W.mg_none_of X G N.n_zip, PySem.W.mg_none_of X G N.n_max, PySem.W.mg_none_of X G N.n_str, PySem.W.mg_none_of X G N.n_sup⟩
theorem Names.nums {K : PySem.W.Frag} {h : Heap} {mg : Str → Option Value} (N : Names K) (X : K.In h) (G : h.Ns mainGlobals mg) : @Nums mg :=
  ⟨let ⟨t, e⟩ := N.n_MOST_FOLK; ⟨t, PySem.W.mg_of X G e⟩, let ⟨t, e⟩ := N.n_MOST_TOP; ⟨t, PySem.W.mg_of X G e⟩, let ⟨t, e⟩ := N.n_MOST_LOOKS; ⟨t, PySem.W.mg_of X G e⟩, let ⟨t, e⟩ := N.n_MOST_LOOKS_OF_ONE; ⟨t, PySem.W.mg_of X G e⟩⟩
theorem law_mk {l : PySem.W.OpenLaw} {w : World} {K : PySem.W.Frag} {h : Heap} {mg : Str → Option Value} {fa TL TO_exchanges T0 T1 T2 T3 C_BadLot C_BadWord CF VBadLot0 VBadLot1 VBadLot2 VBadLot3 VBadLot4 VBadLot5 VBadLot6 VBadLot7 VBadLot8 VBadWord0 VBadWord1 VBadWord2 VBadWord3 VBadWord4 VBadWord5 VBadWord6 VBadWord7 VBadWord8 : Addr} {q : Program} (X : K.In h) (G : h.Ns mainGlobals mg) (hfa : mg "law" = some (.ref fa)) (TA : TabAll q mg h) (nt : noTbl K = true) (N : Names K)
    (a_BadLot : OwnAt K "BadLot" C_BadLot) (a_BadWord : OwnAt K "BadWord" C_BadWord)
    (f_BadLot : FolkG K CF C_BadLot) (e_BadLot : ExcC K C_BadLot) (xBadLot_BadWeb : ErrG K "BadWeb" C_BadLot false VBadLot8) (xBadLot_BadRules : ErrG K "BadRules" C_BadLot false VBadLot0) (xBadLot_BadState : ErrG K "BadState" C_BadLot false VBadLot1) (xBadLot_BadLot : ErrG K "BadLot" C_BadLot true VBadLot2) (xBadLot_BadRing : ErrG K "BadRing" C_BadLot false VBadLot3) (xBadLot_BadWord : ErrG K "BadWord" C_BadLot false VBadLot4) (xBadLot_BadHeld : ErrG K "BadHeld" C_BadLot false VBadLot5) (xBadLot_NoEven : ErrG K "NoEven" C_BadLot false VBadLot6) (xBadLot_BadLine : ErrG K "BadLine" C_BadLot false VBadLot7)
    (f_BadWord : FolkG K CF C_BadWord) (e_BadWord : ExcC K C_BadWord) (xBadWord_BadWeb : ErrG K "BadWeb" C_BadWord false VBadWord8) (xBadWord_BadRules : ErrG K "BadRules" C_BadWord false VBadWord0) (xBadWord_BadState : ErrG K "BadState" C_BadWord false VBadWord1) (xBadWord_BadLot : ErrG K "BadLot" C_BadWord false VBadWord2) (xBadWord_BadRing : ErrG K "BadRing" C_BadWord false VBadWord3) (xBadWord_BadWord : ErrG K "BadWord" C_BadWord true VBadWord4) (xBadWord_BadHeld : ErrG K "BadHeld" C_BadWord false VBadWord5) (xBadWord_NoEven : ErrG K "NoEven" C_BadWord false VBadWord6) (xBadWord_BadLine : ErrG K "BadLine" C_BadWord false VBadWord7)
    (r_are_tops : ((recsOf q).any fun e => e.name == "are_tops") = true)
    (r_are_looks : ((recsOf q).any fun e => e.name == "are_looks") = true)
    (r_check_lot : ((recsOf q).any fun e => e.name == "check_lot") = true)
    (r_exchanges_all : ((recsOf q).any fun e => e.name == "exchanges_all") = true)
    (r_exchanges : ((recsOf q).any fun e => e.name == "exchanges") = true)
    (r_law : ((recsOf q).any fun e => e.name == "law") = true)
    (a_is_whole : FnAt K "is_whole" sIsWhole)
    (a_are_tops : FnTb K "are_tops" s_are_tops T0)
    (a_is_look : FnAt K "is_look" s_is_look)
    (a_are_looks : FnTb K "are_looks" s_are_looks T1)
    (a_wrong_part : FnAt K "wrong_part" s_wrong_part)
    (a_check_web : FnAt K "check_web" s_check_web)
    (a_check_lot : FnTb K "check_lot" s_check_lot T2)
    (a_closes : FnAt K "closes" s_closes)
    (a_goes_on : FnAt K "goes_on" s_goes_on)
    (a_all_rings : FnAt K "all_rings" s_all_rings)
    (a_has_even_spites : FnAt K "has_even_spites" s_has_even_spites)
    (a_even_rings : FnAt K "even_rings" s_even_rings)
    (a_odd_rings : FnAt K "odd_rings" s_odd_rings)
    (a_lots_of : FnAt K "lots_of" s_lots_of)
    (a_has_odd_part : FnAt K "has_odd_part" s_has_odd_part)
    (a_exchanges_all : FnTb K "exchanges_all" s_exchanges_all T3)
    (a_many_through : FnAt K "many_through" s_many_through)
    (a_exchanged : FnAt K "exchanged" s_exchanged)
    (a_exchanges : FnTb K "exchanges" s_exchanges TO_exchanges)
    (a_rings_through : FnAt K "rings_through" s_rings_through)
    (a__law_taken : FnAt K "_law_taken" s__law_taken)
    (a__law_pick : FnAt K "_law_pick" s__law_pick)
    (a__law_web : FnAt K "_law_web" s__law_web)
    (a__law_rings : FnAt K "_law_rings" s__law_rings)
    (a__law_spites : FnAt K "_law_spites" s__law_spites)
    (a__law_lots : FnAt K "_law_lots" s__law_lots)
    (a__law_smallest : FnAt K "_law_smallest" s__law_smallest)
    (a__law_exchanged : FnAt K "_law_exchanged" s__law_exchanged)
    (a__law_word : FnAt K "_law_word" s__law_word)
    (a_least_lots : FnAt K "least_lots" s_least_lots)
    (a_alike : FnAt K "_law_alike" s__law_alike) (a_law : FnTb K "law" s_law TL)
    (d0 : T0 ≠ TL) (d1 : T1 ≠ TL) (d2 : T2 ≠ TL) (d3 : T3 ≠ TL) (e0_TO_exchanges : T0 ≠ TO_exchanges) (e1_TO_exchanges : T1 ≠ TO_exchanges) (e2_TO_exchanges : T2 ≠ TO_exchanges) (e3_TO_exchanges : T3 ≠ TO_exchanges) (ol_TO_exchanges : TL ≠ TO_exchanges) : LamX.LawAtS l w K CX0 10 63 "script" mg fa h := by
  obtain ⟨c0, t0⟩ := a_are_tops.tab X G TA r_are_tops
  obtain ⟨c1, t1⟩ := a_are_looks.tab X G TA r_are_looks
  obtain ⟨c2, t2⟩ := a_check_lot.tab X G TA r_check_lot
  obtain ⟨c3, t3⟩ := a_exchanges_all.tab X G TA r_exchanges_all
  obtain ⟨cO_exchanges, tO_exchanges⟩ := a_exchanges.tab X G TA r_exchanges
  obtain ⟨cL, tL⟩ := a_law.tab X G TA r_law
  obtain ⟨f, fd, hm, F, oc, od, kV, doc, pm, an, ct, osl, e, lk, hcd⟩ := id tL.fn
  rw [hm] at hfa
  cases hfa
  letI : Own := ⟨fun a => a = TL ∨ a = TO_exchanges⟩
  have B : Blt mg := N.blt X G
  have M : Nums mg := N.nums X G
  have bmin : mg "min" = none := PySem.W.mg_none_of X G N.n_min
  have bany : mg "any" = none := PySem.W.mg_none_of X G N.n_any
  have bsum : mg "sum" = none := PySem.W.mg_none_of X G N.n_sum
  have bdict : mg "dict" = none := PySem.W.mg_none_of X G N.n_dict
  have O_BadLot : Own0 K mg "BadLot" C_BadLot := a_BadLot.own0 X G
  have O_BadWord : Own0 K mg "BadWord" C_BadWord := a_BadWord.own0 X G
  have TW_BadLot : WordG K mg CF C_BadLot (addrOf mg) 2 := wordG X G f_BadLot e_BadLot (by decide) ⟨_, xBadLot_BadWeb⟩ (by
    intro k hk
    have h8 : k = 0 ∨ k = 1 ∨ k = 2 ∨ k = 3 ∨ k = 4 ∨ k = 5 ∨ k = 6 ∨ k = 7 := by omega
    rcases h8 with e | e | e | e | e | e | e | e
    · subst e; exact ⟨_, xBadLot_BadRules⟩
    · subst e; exact ⟨_, xBadLot_BadState⟩
    · subst e; exact ⟨_, xBadLot_BadLot⟩
    · subst e; exact ⟨_, xBadLot_BadRing⟩
    · subst e; exact ⟨_, xBadLot_BadWord⟩
    · subst e; exact ⟨_, xBadLot_BadHeld⟩
    · subst e; exact ⟨_, xBadLot_NoEven⟩
    · subst e; exact ⟨_, xBadLot_BadLine⟩
    )
  have TW_BadWord : WordG K mg CF C_BadWord (addrOf mg) 4 := wordG X G f_BadWord e_BadWord (by decide) ⟨_, xBadWord_BadWeb⟩ (by
    intro k hk
    have h8 : k = 0 ∨ k = 1 ∨ k = 2 ∨ k = 3 ∨ k = 4 ∨ k = 5 ∨ k = 6 ∨ k = 7 := by omega
    rcases h8 with e | e | e | e | e | e | e | e
    · subst e; exact ⟨_, xBadWord_BadRules⟩
    · subst e; exact ⟨_, xBadWord_BadState⟩
    · subst e; exact ⟨_, xBadWord_BadLot⟩
    · subst e; exact ⟨_, xBadWord_BadRing⟩
    · subst e; exact ⟨_, xBadWord_BadWord⟩
    · subst e; exact ⟨_, xBadWord_BadHeld⟩
    · subst e; exact ⟨_, xBadWord_NoEven⟩
    · subst e; exact ⟨_, xBadWord_BadLine⟩
    )
  refine ⟨fd, [(c0, T0), (c1, T1), (c2, T2), (c3, T3), (cO_exchanges, TO_exchanges), (cL, TL)], spLaw K [T0, T1, T2, T3] TL TO_exchanges, (by
    intro p hp
    simp only [List.mem_cons, List.not_mem_nil, or_false] at hp
    rcases hp with e | e | e | e | e | e
    · rw [e]; exact t0.none
    · rw [e]; exact t1.none
    · rw [e]; exact t2.none
    · rw [e]; exact t3.none
    · rw [e]; exact tO_exchanges.none
    · rw [e]; exact tL.none
    ), (by
    intro p hp
    simp only [List.mem_cons, List.not_mem_nil, or_false] at hp
    rcases hp with e | e | e | e | e | e
    · rw [e]; exact noTbl_at nt X t0.none
    · rw [e]; exact noTbl_at nt X t1.none
    · rw [e]; exact noTbl_at nt X t2.none
    · rw [e]; exact noTbl_at nt X t3.none
    · rw [e]; exact noTbl_at nt X tO_exchanges.none
    · rw [e]; exact noTbl_at nt X tL.none
    ), (by
    intro p hp
    simp only [List.mem_cons, List.not_mem_nil, or_false] at hp
    rcases hp with e | e | e | e | e | e
    · rw [e]; exact t0.hd
    · rw [e]; exact t1.hd
    · rw [e]; exact t2.hd
    · rw [e]; exact t3.hd
    · rw [e]; exact tO_exchanges.hd
    · rw [e]; exact tL.hd
    ), ?_, ?_, ?_⟩
  · intro s u
    rw [e]
    exact .of_eq rfl
  · intro H a ns hl hb hH hS
    refine ⟨a, ns, rfl, hS, hl, fun p hp => ?_, hH (cL, TL) (by simp), hH (cO_exchanges, TO_exchanges) (by simp), fun _ => rfl⟩
    simp only [List.mem_cons, List.not_mem_nil, or_false] at hp
    rcases hp with e | e | e | e
    · rw [e]; exact ⟨#[], hH (c0, T0) (by simp), trivial⟩
    · rw [e]; exact ⟨#[], hH (c1, T1) (by simp), trivial⟩
    · rw [e]; exact ⟨#[], hH (c2, T2) (by simp), trivial⟩
    · rw [e]; exact ⟨#[], hH (c3, T3) (by simp), trivial⟩
  · intro base XB GB tb
    have tb0 := tb (c0, T0) (by simp)
    have tb1 := tb (c1, T1) (by simp)
    have tb2 := tb (c2, T2) (by simp)
    have tb3 := tb (c3, T3) (by simp)
    have tbO_exchanges := tb (cO_exchanges, TO_exchanges) (by simp)
    have tbL := tb (cL, TL) (by simp)
    generalize hPs : ([T0, T1, T2, T3] : List Addr) = Ps
    have m0 : T0 ∈ Ps := by rw [← hPs]; simp
    have m1 : T1 ∈ Ps := by rw [← hPs]; simp
    have m2 : T2 ∈ Ps := by rw [← hPs]; simp
    have m3 : T3 ∈ Ps := by rw [← hPs]; simp
    clear hPs
    have hmc : mg "combinations" = some (.type "itertools.combinations") := PySem.W.mg_of X G N.n_comb
    have gE_least_lots := a_least_lots.gcalE (ps := ["many", "fits"]) X G (fun _ _ _ _ _ _ us hl => match us, hl with | [_, _], _ => rfl)
    have c_is_whole : Cal l.prog w K mg base CX0 1 "is_whole" ["value", "least", "most"] spIsWhole := a_is_whole.cal X G (fun _ _ _ _ _ _ us hl => match us, hl with | [_, _, _], _ => rfl) fun f fd F => ok_is_whole F B.isi B.int B.bool
    have c_is_wholeG : Cal l.prog w K mg base CX0 1 "is_whole" ["value", "least", "most"] spIsWholeG := a_is_whole.cal X G (fun _ _ _ _ _ _ us hl => match us, hl with | [_, _, _], _ => rfl) fun f fd F => ok_is_wholeG F B
    have c_are_tops : Cal l.prog w K mg base CX0 3 "are_tops" ["value"] (spAreTops Ps) := t0.cal m0 (fun z => Or.elim z d0 e0_TO_exchanges) tb0 (fun _ _ _ _ _ _ us hl => match us, hl with | [_], _ => rfl) fun f fd F => ok_are_tops F B M c_is_whole
    have c_is_look : Cal l.prog w K mg base CX0 2 "is_look" ["value", "many"] spIsLook := a_is_look.cal X G (fun _ _ _ _ _ _ us hl => match us, hl with | [_, _], _ => rfl) fun f fd F => ok_is_look F B c_is_whole
    have c_are_looks : Cal l.prog w K mg base CX0 4 "are_looks" ["value", "many"] (spAreLooks Ps) := t1.cal m1 (fun z => Or.elim z d1 e1_TO_exchanges) tb1 (fun _ _ _ _ _ _ us hl => match us, hl with | [_, _], _ => rfl) fun f fd F => ok_are_looks F B M c_is_look
    have c_wrong_part : Cal l.prog w K mg base CX0 5 "wrong_part" ["web"] (spWrongPart Ps) := a_wrong_part.cal X G (fun _ _ _ _ _ _ us hl => match us, hl with | [_], _ => rfl) fun f fd F => ok_wrong_part F B c_are_tops c_are_looks
    have c_check_web : Cal l.prog w K mg base CX0 6 "check_web" ["web"] (spCheckWeb Ps) := a_check_web.cal X G (fun _ _ _ _ _ _ us hl => match us, hl with | [_], _ => rfl) fun f fd F => ok_check_web F c_wrong_part
    have c_check_lot : Cal l.prog w K mg base (L2.CX l.prog w) 3 "check_lot" ["many", "lot"] (spCheckLotX Ps C_BadLot) := t2.cal m2 (fun z => Or.elim z d2 e2_TO_exchanges) tb2 (fun _ _ _ _ _ _ us hl => match us, hl with | [_, _], _ => rfl) fun f fd F => ok_check_lotX F O_BadLot B c_is_wholeG
    have c_closes : Cal l.prog w K mg base CX0 1 "closes" ["looks", "path"] spCloses := a_closes.cal X G (fun _ _ _ _ _ _ us hl => match us, hl with | [_, _], _ => rfl) fun f fd F => ok_closes F
    have c_goes_on : Cal l.prog w K mg base CX0 1 "goes_on" ["looks", "path", "number"] spGoesOn := a_goes_on.cal X G (fun _ _ _ _ _ _ us hl => match us, hl with | [_, _, _], _ => rfl) fun f fd F => ok_goes_on F
    have c_all_rings : Cal l.prog w K mg base CX0 2 "all_rings" ["web"] spAllRings := a_all_rings.cal X G (fun _ _ _ _ _ _ us hl => match us, hl with | [_], _ => rfl) fun f fd F => ok_all_rings F B c_closes c_goes_on
    have c_has_even_spites : Cal l.prog w K mg base CX0 1 "has_even_spites" ["web", "ring"] spHasEven := a_has_even_spites.cal X G (fun _ _ _ _ _ _ us hl => match us, hl with | [_, _], _ => rfl) fun f fd F => ok_has_even_spites F B
    have c_even_rings : Cal l.prog w K mg base CX0 3 "even_rings" ["web"] (spKind true) := a_even_rings.cal X G (fun _ _ _ _ _ _ us hl => match us, hl with | [_], _ => rfl) fun f fd F => ok_even_rings F c_all_rings c_has_even_spites
    have c_odd_rings : Cal l.prog w K mg base CX0 3 "odd_rings" ["web"] (spKind false) := a_odd_rings.cal X G (fun _ _ _ _ _ _ us hl => match us, hl with | [_], _ => rfl) fun f fd F => ok_odd_rings F c_all_rings c_has_even_spites
    have c_lots_of : Cal l.prog w K mg base CX0 1 "lots_of" ["many", "size"] spLotsOf := a_lots_of.cal X G (fun _ _ _ _ _ _ us hl => match us, hl with | [_, _], _ => rfl) fun f fd F => ok_lots_of F B hmc
    have c_has_odd_part : Cal l.prog w K mg base CX0 1 "has_odd_part" ["lot", "group"] spHasOdd := a_has_odd_part.cal X G (fun _ _ _ _ _ _ us hl => match us, hl with | [_, _], _ => rfl) fun f fd F => ok_has_odd_part F B
    have c_exchanges_all : Cal l.prog w K mg base CX0 3 "exchanges_all" ["lot", "changing", "staying"] (spExAll Ps) := t3.cal m3 (fun z => Or.elim z d3 e3_TO_exchanges) tb3 (fun _ _ _ _ _ _ us hl => match us, hl with | [_, _, _], _ => rfl) fun f fd F => ok_exchanges_all F B bany c_has_odd_part
    have c_many_through : Cal l.prog w K mg base CX0 1 "many_through" ["number", "found"] spThrough := a_many_through.cal X G (fun _ _ _ _ _ _ us hl => match us, hl with | [_, _], _ => rfl) fun f fd F => ok_many_through F B
    have c_exchanged : Cal l.prog w K mg base (L2.CX l.prog w) 7 "exchanged" ["web", "lot"] (spExchangedX Ps C_BadLot) := a_exchanged.cal X G (fun _ _ _ _ _ _ us hl => match us, hl with | [_, _], _ => rfl) fun f fd F => ok_exchangedX F B c_check_web c_check_lot
    have c_exchanges : Cal l.prog w K mg base (L2.CX l.prog w) 7 "exchanges" ["web", "word"] (spExchangesX K Ps TO_exchanges C_BadWord) := tO_exchanges.calL tbO_exchanges (fun _ _ _ _ _ _ us hl => match us, hl with | [_, _], _ => rfl) fun f fd F => ok_exchangesX F (Or.inr (rfl)) O_BadWord B gE_least_lots c_check_web c_odd_rings c_even_rings c_lots_of c_exchanges_all
    have c_rings_through : Cal l.prog w K mg base CX0 7 "rings_through" ["web"] (spRingsThrough Ps) := a_rings_through.cal X G (fun _ _ _ _ _ _ us hl => match us, hl with | [_], _ => rfl) fun f fd F => ok_rings_through F B c_check_web c_even_rings c_odd_rings c_many_through
    have c__law_taken : Cal l.prog w K mg base CX0 1 "_law_taken" ["row", "many"] (spTaken K) := a__law_taken.cal X G (fun _ _ _ _ _ _ us hl => match us, hl with | [_, _], _ => rfl) fun f fd F => ok_taken F B
    have c__law_pick : Cal l.prog w K mg base CX0 2 "_law_pick" ["row", "things"] (spLawPick K) := a__law_pick.cal X G (fun _ _ _ _ _ _ us hl => match us, hl with | [_, _], _ => rfl) fun f fd F => ok_law_pick F B c__law_taken
    have c__law_web : Cal l.prog w K mg base CX0 3 "_law_web" ["row", "folk", "top", "most"] (spLawWeb2 K) := a__law_web.cal X G (fun _ _ _ _ _ _ us hl => match us, hl with | [_, _, _, _], _ => rfl) fun f fd F => ok_law_web2 F B c__law_taken c__law_pick
    have c__law_rings : Cal l.prog w K mg base CX0 1 "_law_rings" ["web"] spLawRings2 := a__law_rings.cal X G (fun _ _ _ _ _ _ us hl => match us, hl with | [_], _ => rfl) fun f fd F => ok_law_rings2 F B
    have c__law_spites : Cal l.prog w K mg base CX0 1 "_law_spites" ["web", "ring"] spSpites := a__law_spites.cal X G (fun _ _ _ _ _ _ us hl => match us, hl with | [_, _], _ => rfl) fun f fd F => ok_law_spites F B
    have c__law_lots : Cal l.prog w K mg base CX0 1 "_law_lots" ["many"] spLawLots2 := a__law_lots.cal X G (fun _ _ _ _ _ _ us hl => match us, hl with | [_], _ => rfl) fun f fd F => ok_law_lots2 F B
    have c__law_smallest : Cal l.prog w K mg base CX0 1 "_law_smallest" ["some"] spSmallest := a__law_smallest.cal X G (fun _ _ _ _ _ _ us hl => match us, hl with | [_], _ => rfl) fun f fd F => ok_law_smallest F B
    have c__law_exchanged : Cal l.prog w K mg base CX0 1 "_law_exchanged" ["web", "lot"] spLawExchanged := a__law_exchanged.cal X G (fun _ _ _ _ _ _ us hl => match us, hl with | [_, _], _ => rfl) fun f fd F => ok_law_exchanged F B
    obtain ⟨gW, cdW, GW⟩ := a__law_word.gdef X G (fun _ _ _ _ _ _ us hl => match us, hl with | [_], _ => rfl)
    have c_alike0 : Cal l.prog w K mg base CX0 1 "_law_alike" ["found", "due"] spAlike0 := a_alike.cal X G (fun _ _ _ _ _ _ us hl => match us, hl with | [_, _], _ => rfl) fun f fd F => ok_alike0 F B
    have c_alike1 : Cal l.prog w K mg base CX0 2 "_law_alike" ["found", "due"] (spAlikeS spAlike0) := a_alike.cal X G (fun _ _ _ _ _ _ us hl => match us, hl with | [_, _], _ => rfl) fun f fd F => ok_alikeS (fun vs H Q E h => by rcases h.1 with ⟨i, e⟩ | ⟨i, e⟩ <;> (rw [e]; rfl)) F B c_alike0
    have c_alike2 : Cal l.prog w K mg base CX0 3 "_law_alike" ["found", "due"] (spAlikeS (spAlikeS spAlike0)) := a_alike.cal X G (fun _ _ _ _ _ _ us hl => match us, hl with | [_, _], _ => rfl) fun f fd F => ok_alikeS (fun vs H Q E h => by obtain ⟨a, b, k, xs, ys, e, _⟩ := h; rw [e]; rfl) F B c_alike1
    have c_alikeE : Cal l.prog w K mg base CX0 3 "_law_alike" ["found", "due"] (fun vs H Q E => spAlikeS spAlike0 vs H Q E ∨ spAlikeS (spAlikeS spAlike0) vs H Q E) := a_alike.cal X G (fun _ _ _ _ _ _ us hl => match us, hl with | [_, _], _ => rfl) fun f fd F => fn_or (fn_up (by decide) (ok_alikeS (n := 0) (fun vs H Q E h => by rcases h.1 with ⟨i, e⟩ | ⟨i, e⟩ <;> (rw [e]; rfl)) F B c_alike0)) (ok_alikeS (n := 1) (fun vs H Q E h => by obtain ⟨a, b, k, xs, ys, e, _⟩ := h; rw [e]; rfl) F B c_alike1)
    have c_alikeW : Cal l.prog w K mg base CX0 4 "_law_alike" ["found", "due"] (spAlikeS fun vs H Q E => spAlikeS spAlike0 vs H Q E ∨ spAlikeS (spAlikeS spAlike0) vs H Q E) := a_alike.cal X G (fun _ _ _ _ _ _ us hl => match us, hl with | [_, _], _ => rfl) fun f fd F => ok_alikeS (n := 2) (fun vs H Q E h => by rcases h with h | h <;> (obtain ⟨a, b, k, xs, ys, e, _⟩ := h; rw [e]; rfl)) F B c_alikeE
    exact ok_law ⟨⟨oc, od, kV, doc, pm, an, cL, ct, osl, e, lk, hcd, tbL⟩⟩ (Or.inl rfl) (Or.inr rfl) ol_TO_exchanges B GW TW_BadLot TW_BadWord c__law_taken c__law_pick c__law_web c__law_rings c__law_spites c__law_lots c__law_exchanged c__law_smallest c_alike2 c_alikeW c_exchanged c_exchanges c_rings_through
end Lk

/-! ## HeadK66 -/
set_option Elab.async false
open PySem PySem.W PyProof.Rows in
set_option maxRecDepth 100000 in
set_option maxHeartbeats 0 in
theorem PySem.Challenge.cw_likespite_k66_whole_exchanges_holds : PySem.Challenge.rw_likespite_k66_whole_exchanges.Holds := by
  w_on; o_law; k_head; (case hw => w_witness2)
  k_fill
  refine Lk.walk_tabs (l := PySem.Challenge.rw_likespite_k66_whole_exchanges) (k := 10) (x := "script") (by decide +kernel) rfl ⟨rfl, by decide, by decide⟩ (fun w h Y => by first | exact PySem.W.km_in_of Y | exact PySem.W.kIn_of Y) ?F
  case F =>
    intro w mg fa h X G hfa T
    refine' Lk.law_mk X G hfa T ?zNt ?zNm ?zA_BadLot ?zA_BadWord  ?zFBadLot ?zEBadLot ?zXBadLot_BadWeb ?zXBadLot_BadRules ?zXBadLot_BadState ?zXBadLot_BadLot ?zXBadLot_BadRing ?zXBadLot_BadWord ?zXBadLot_BadHeld ?zXBadLot_NoEven ?zXBadLot_BadLine ?zFBadWord ?zEBadWord ?zXBadWord_BadWeb ?zXBadWord_BadRules ?zXBadWord_BadState ?zXBadWord_BadLot ?zXBadWord_BadRing ?zXBadWord_BadWord ?zXBadWord_BadHeld ?zXBadWord_NoEven ?zXBadWord_BadLine (by decide +kernel) (by decide +kernel) (by decide +kernel) (by decide +kernel) (by decide +kernel) (by decide +kernel) ?za_is_whole ?za_are_tops ?za_is_look ?za_are_looks ?za_wrong_part ?za_check_web ?za_check_lot ?za_closes ?za_goes_on ?za_all_rings ?za_has_even_spites ?za_even_rings ?za_odd_rings ?za_lots_of ?za_has_odd_part ?za_exchanges_all ?za_many_through ?za_exchanged ?za_exchanges ?za_rings_through ?za__law_taken ?za__law_pick ?za__law_web ?za__law_rings ?za__law_spites ?za__law_lots ?za__law_smallest ?za__law_exchanged ?za__law_word ?za_least_lots ?za_alike ?za_law ?zd0 ?zd1 ?zd2 ?zd3 ?ze0_TO_exchanges ?ze1_TO_exchanges ?ze2_TO_exchanges ?ze3_TO_exchanges ?zol_TO_exchanges
    (case zNt => rfl)
    case zNm =>
      refine' Lk.Names.mk ?zn0 ?zn1 ?zn2 ?zn3 ?zn4 ?zn5 ?zn6 ?zn7 ?zn8 ?zn9 ?zn10 ?zn11 ?zn12 ?zn13 ?zn14 ?zn15 ?zn16 ?zn17 ?zn18 (Lk.num_mk ?zm0) (Lk.num_mk ?zm1) (Lk.num_mk ?zm2) (Lk.num_mk ?zm3) ?zcomb
      (case zn0 => k_is)
      (case zn1 => k_is)
      (case zn2 => k_is)
      (case zn3 => k_is)
      (case zn4 => k_is)
      (case zn5 => k_is)
      (case zn6 => k_is)
      (case zn7 => k_is)
      (case zn8 => k_is)
      (case zn9 => k_is)
      (case zn10 => k_is)
      (case zn11 => k_is)
      (case zn12 => k_is)
      (case zn13 => k_is)
      (case zn14 => k_is)
      (case zn15 => k_is)
      (case zn16 => k_is)
      (case zn17 => k_is)
      (case zn18 => k_is)
      (case zm0 => k_is)
      (case zm1 => k_is)
      (case zm2 => k_is)
      (case zm3 => k_is)
      (case zcomb => k_is)
    case zA_BadLot =>
      refine' Lk.OwnAt.mk ?zgC ?zex ?zkC ?zexC ?ztyC ?zisC ?zsC
      (case zgC => first | k_is | kx_is | ks_is | k_exc | kit_is | rfl | decide +kernel)
      (case zex => first | k_is | kx_is | ks_is | k_exc | kit_is | rfl | decide +kernel)
      (case zkC => first | k_is | kx_is | ks_is | k_exc | kit_is | rfl | decide +kernel)
      (case zexC => first | k_is | kx_is | ks_is | k_exc | kit_is | rfl | decide +kernel)
      (case ztyC => first | k_is | kx_is | ks_is | k_exc | kit_is | rfl | decide +kernel)
      (case zisC => first | k_is | kx_is | ks_is | k_exc | kit_is | rfl | decide +kernel)
      (case zsC => first | k_is | kx_is | ks_is | k_exc | kit_is | rfl | decide +kernel)
    case zA_BadWord =>
      refine' Lk.OwnAt.mk ?zgC ?zex ?zkC ?zexC ?ztyC ?zisC ?zsC
      (case zgC => first | k_is | kx_is | ks_is | k_exc | kit_is | rfl | decide +kernel)
      (case zex => first | k_is | kx_is | ks_is | k_exc | kit_is | rfl | decide +kernel)
      (case zkC => first | k_is | kx_is | ks_is | k_exc | kit_is | rfl | decide +kernel)
      (case zexC => first | k_is | kx_is | ks_is | k_exc | kit_is | rfl | decide +kernel)
      (case ztyC => first | k_is | kx_is | ks_is | k_exc | kit_is | rfl | decide +kernel)
      (case zisC => first | k_is | kx_is | ks_is | k_exc | kit_is | rfl | decide +kernel)
      (case zsC => first | k_is | kx_is | ks_is | k_exc | kit_is | rfl | decide +kernel)
    case zFBadLot =>
      refine' Lk.FolkG.mk ?zq1 ?zq2 ?zq3 ?zq4 ?zq5
      (case zq1 => first | k_is | kx_is | ks_is | k_exc | kit_is | rfl | decide +kernel)
      (case zq2 => first | k_is | kx_is | ks_is | k_exc | kit_is | rfl | decide +kernel)
      (case zq3 => first | k_is | kx_is | ks_is | k_exc | kit_is | rfl | decide +kernel)
      (case zq4 => first | k_is | kx_is | ks_is | k_exc | kit_is | rfl | decide +kernel)
      (case zq5 => first | k_is | kx_is | ks_is | k_exc | kit_is | rfl | decide +kernel)
    case zEBadLot =>
      refine' L2.ExcC.mk ?zq1 ?zq2 ?zq3 ?zq4 ?zq5 ?zq6 ?zq7 ?zq8
      (case zq1 => first | k_is | kx_is | ks_is | k_exc | kit_is | rfl | decide +kernel)
      (case zq2 => first | k_is | kx_is | ks_is | k_exc | kit_is | rfl | decide +kernel)
      (case zq3 => first | k_is | kx_is | ks_is | k_exc | kit_is | rfl | decide +kernel)
      (case zq4 => first | k_is | kx_is | ks_is | k_exc | kit_is | rfl | decide +kernel)
      (case zq5 => first | k_is | kx_is | ks_is | k_exc | kit_is | rfl | decide +kernel)
      (case zq6 => first | k_is | kx_is | ks_is | k_exc | kit_is | rfl | decide +kernel)
      (case zq7 => first | k_is | kx_is | ks_is | k_exc | kit_is | rfl | decide +kernel)
      (case zq8 => first | k_is | kx_is | ks_is | k_exc | kit_is | rfl | decide +kernel)
    case zXBadLot_BadWeb =>
      refine' Lk.ErrG.mk ?zq1 ?zq2
      (case zq1 => k_is)
      (case zq2 => first | kit_is | k_is | kx_is | ks_is | k_exc | kit_is | rfl | decide +kernel)
    case zXBadLot_BadRules =>
      refine' Lk.ErrG.mk ?zq1 ?zq2
      (case zq1 => k_is)
      (case zq2 => first | kit_is | k_is | kx_is | ks_is | k_exc | kit_is | rfl | decide +kernel)
    case zXBadLot_BadState =>
      refine' Lk.ErrG.mk ?zq1 ?zq2
      (case zq1 => k_is)
      (case zq2 => first | kit_is | k_is | kx_is | ks_is | k_exc | kit_is | rfl | decide +kernel)
    case zXBadLot_BadLot =>
      refine' Lk.ErrG.mk ?zq1 ?zq2
      (case zq1 => k_is)
      (case zq2 => first | kit_is | k_is | kx_is | ks_is | k_exc | kit_is | rfl | decide +kernel)
    case zXBadLot_BadRing =>
      refine' Lk.ErrG.mk ?zq1 ?zq2
      (case zq1 => k_is)
      (case zq2 => first | kit_is | k_is | kx_is | ks_is | k_exc | kit_is | rfl | decide +kernel)
    case zXBadLot_BadWord =>
      refine' Lk.ErrG.mk ?zq1 ?zq2
      (case zq1 => k_is)
      (case zq2 => first | kit_is | k_is | kx_is | ks_is | k_exc | kit_is | rfl | decide +kernel)
    case zXBadLot_BadHeld =>
      refine' Lk.ErrG.mk ?zq1 ?zq2
      (case zq1 => k_is)
      (case zq2 => first | kit_is | k_is | kx_is | ks_is | k_exc | kit_is | rfl | decide +kernel)
    case zXBadLot_NoEven =>
      refine' Lk.ErrG.mk ?zq1 ?zq2
      (case zq1 => k_is)
      (case zq2 => first | kit_is | k_is | kx_is | ks_is | k_exc | kit_is | rfl | decide +kernel)
    case zXBadLot_BadLine =>
      refine' Lk.ErrG.mk ?zq1 ?zq2
      (case zq1 => k_is)
      (case zq2 => first | kit_is | k_is | kx_is | ks_is | k_exc | kit_is | rfl | decide +kernel)
    case zFBadWord =>
      refine' Lk.FolkG.mk ?zq1 ?zq2 ?zq3 ?zq4 ?zq5
      (case zq1 => first | k_is | kx_is | ks_is | k_exc | kit_is | rfl | decide +kernel)
      (case zq2 => first | k_is | kx_is | ks_is | k_exc | kit_is | rfl | decide +kernel)
      (case zq3 => first | k_is | kx_is | ks_is | k_exc | kit_is | rfl | decide +kernel)
      (case zq4 => first | k_is | kx_is | ks_is | k_exc | kit_is | rfl | decide +kernel)
      (case zq5 => first | k_is | kx_is | ks_is | k_exc | kit_is | rfl | decide +kernel)
    case zEBadWord =>
      refine' L2.ExcC.mk ?zq1 ?zq2 ?zq3 ?zq4 ?zq5 ?zq6 ?zq7 ?zq8
      (case zq1 => first | k_is | kx_is | ks_is | k_exc | kit_is | rfl | decide +kernel)
      (case zq2 => first | k_is | kx_is | ks_is | k_exc | kit_is | rfl | decide +kernel)
      (case zq3 => first | k_is | kx_is | ks_is | k_exc | kit_is | rfl | decide +kernel)
      (case zq4 => first | k_is | kx_is | ks_is | k_exc | kit_is | rfl | decide +kernel)
      (case zq5 => first | k_is | kx_is | ks_is | k_exc | kit_is | rfl | decide +kernel)
      (case zq6 => first | k_is | kx_is | ks_is | k_exc | kit_is | rfl | decide +kernel)
      (case zq7 => first | k_is | kx_is | ks_is | k_exc | kit_is | rfl | decide +kernel)
      (case zq8 => first | k_is | kx_is | ks_is | k_exc | kit_is | rfl | decide +kernel)
    case zXBadWord_BadWeb =>
      refine' Lk.ErrG.mk ?zq1 ?zq2
      (case zq1 => k_is)
      (case zq2 => first | kit_is | k_is | kx_is | ks_is | k_exc | kit_is | rfl | decide +kernel)
    case zXBadWord_BadRules =>
      refine' Lk.ErrG.mk ?zq1 ?zq2
      (case zq1 => k_is)
      (case zq2 => first | kit_is | k_is | kx_is | ks_is | k_exc | kit_is | rfl | decide +kernel)
    case zXBadWord_BadState =>
      refine' Lk.ErrG.mk ?zq1 ?zq2
      (case zq1 => k_is)
      (case zq2 => first | kit_is | k_is | kx_is | ks_is | k_exc | kit_is | rfl | decide +kernel)
    case zXBadWord_BadLot =>
      refine' Lk.ErrG.mk ?zq1 ?zq2
      (case zq1 => k_is)
      (case zq2 => first | kit_is | k_is | kx_is | ks_is | k_exc | kit_is | rfl | decide +kernel)
    case zXBadWord_BadRing =>
      refine' Lk.ErrG.mk ?zq1 ?zq2
      (case zq1 => k_is)
      (case zq2 => first | kit_is | k_is | kx_is | ks_is | k_exc | kit_is | rfl | decide +kernel)
    case zXBadWord_BadWord =>
      refine' Lk.ErrG.mk ?zq1 ?zq2
      (case zq1 => k_is)
      (case zq2 => first | kit_is | k_is | kx_is | ks_is | k_exc | kit_is | rfl | decide +kernel)
    case zXBadWord_BadHeld =>
      refine' Lk.ErrG.mk ?zq1 ?zq2
      (case zq1 => k_is)
      (case zq2 => first | kit_is | k_is | kx_is | ks_is | k_exc | kit_is | rfl | decide +kernel)
    case zXBadWord_NoEven =>
      refine' Lk.ErrG.mk ?zq1 ?zq2
      (case zq1 => k_is)
      (case zq2 => first | kit_is | k_is | kx_is | ks_is | k_exc | kit_is | rfl | decide +kernel)
    case zXBadWord_BadLine =>
      refine' Lk.ErrG.mk ?zq1 ?zq2
      (case zq1 => k_is)
      (case zq2 => first | kit_is | k_is | kx_is | ks_is | k_exc | kit_is | rfl | decide +kernel)
    (case za_is_whole => refine' Lk.fnAt ?zn ?zl ?zc ?zk; (case zn => k_is); (case zl => k_is); (case zc => k_is); (case zk => k_is))
    (case za_are_tops => refine' Lk.fnTb ?zn ?zl ?zc ?zk ?zlc ?zl11; (case zn => k_is); (case zl => k_is); (case zc => k_is); (case zk => k_is); (case zlc => first | k_is | kx_is | ks_is | rfl | decide +kernel); (case zl11 => first | rfl | k_is | kx_is | ks_is | decide +kernel))
    (case za_is_look => refine' Lk.fnAt ?zn ?zl ?zc ?zk; (case zn => k_is); (case zl => k_is); (case zc => k_is); (case zk => k_is))
    (case za_are_looks => refine' Lk.fnTb ?zn ?zl ?zc ?zk ?zlc ?zl11; (case zn => k_is); (case zl => k_is); (case zc => k_is); (case zk => k_is); (case zlc => first | k_is | kx_is | ks_is | rfl | decide +kernel); (case zl11 => first | rfl | k_is | kx_is | ks_is | decide +kernel))
    (case za_wrong_part => refine' Lk.fnAt ?zn ?zl ?zc ?zk; (case zn => k_is); (case zl => k_is); (case zc => k_is); (case zk => k_is))
    (case za_check_web => refine' Lk.fnAt ?zn ?zl ?zc ?zk; (case zn => k_is); (case zl => k_is); (case zc => k_is); (case zk => k_is))
    (case za_check_lot => refine' Lk.fnTb ?zn ?zl ?zc ?zk ?zlc ?zl11; (case zn => k_is); (case zl => k_is); (case zc => k_is); (case zk => k_is); (case zlc => first | k_is | kx_is | ks_is | rfl | decide +kernel); (case zl11 => first | rfl | k_is | kx_is | ks_is | decide +kernel))
    (case za_closes => refine' Lk.fnAt ?zn ?zl ?zc ?zk; (case zn => k_is); (case zl => k_is); (case zc => k_is); (case zk => k_is))
    (case za_goes_on => refine' Lk.fnAt ?zn ?zl ?zc ?zk; (case zn => k_is); (case zl => k_is); (case zc => k_is); (case zk => k_is))
    (case za_all_rings => refine' Lk.fnAt ?zn ?zl ?zc ?zk; (case zn => k_is); (case zl => k_is); (case zc => k_is); (case zk => k_is))
    (case za_has_even_spites => refine' Lk.fnAt ?zn ?zl ?zc ?zk; (case zn => k_is); (case zl => k_is); (case zc => k_is); (case zk => k_is))
    (case za_even_rings => refine' Lk.fnAt ?zn ?zl ?zc ?zk; (case zn => k_is); (case zl => k_is); (case zc => k_is); (case zk => k_is))
    (case za_odd_rings => refine' Lk.fnAt ?zn ?zl ?zc ?zk; (case zn => k_is); (case zl => k_is); (case zc => k_is); (case zk => k_is))
    (case za_lots_of => refine' Lk.fnAt ?zn ?zl ?zc ?zk; (case zn => k_is); (case zl => k_is); (case zc => k_is); (case zk => k_is))
    (case za_has_odd_part => refine' Lk.fnAt ?zn ?zl ?zc ?zk; (case zn => k_is); (case zl => k_is); (case zc => k_is); (case zk => k_is))
    (case za_exchanges_all => refine' Lk.fnTb ?zn ?zl ?zc ?zk ?zlc ?zl11; (case zn => k_is); (case zl => k_is); (case zc => k_is); (case zk => k_is); (case zlc => first | k_is | kx_is | ks_is | rfl | decide +kernel); (case zl11 => first | rfl | k_is | kx_is | ks_is | decide +kernel))
    (case za_many_through => refine' Lk.fnAt ?zn ?zl ?zc ?zk; (case zn => k_is); (case zl => k_is); (case zc => k_is); (case zk => k_is))
    (case za_exchanged => refine' Lk.fnAt ?zn ?zl ?zc ?zk; (case zn => k_is); (case zl => k_is); (case zc => k_is); (case zk => k_is))
    (case za_exchanges => refine' Lk.fnTb ?zn ?zl ?zc ?zk ?zlc ?zl11; (case zn => k_is); (case zl => k_is); (case zc => k_is); (case zk => k_is); (case zlc => first | k_is | kx_is | ks_is | rfl | decide +kernel); (case zl11 => first | rfl | k_is | kx_is | ks_is | decide +kernel))
    (case za_rings_through => refine' Lk.fnAt ?zn ?zl ?zc ?zk; (case zn => k_is); (case zl => k_is); (case zc => k_is); (case zk => k_is))
    (case za__law_taken => refine' Lk.fnAt ?zn ?zl ?zc ?zk; (case zn => k_is); (case zl => k_is); (case zc => k_is); (case zk => k_is))
    (case za__law_pick => refine' Lk.fnAt ?zn ?zl ?zc ?zk; (case zn => k_is); (case zl => k_is); (case zc => k_is); (case zk => k_is))
    (case za__law_web => refine' Lk.fnAt ?zn ?zl ?zc ?zk; (case zn => k_is); (case zl => k_is); (case zc => k_is); (case zk => k_is))
    (case za__law_rings => refine' Lk.fnAt ?zn ?zl ?zc ?zk; (case zn => k_is); (case zl => k_is); (case zc => k_is); (case zk => k_is))
    (case za__law_spites => refine' Lk.fnAt ?zn ?zl ?zc ?zk; (case zn => k_is); (case zl => k_is); (case zc => k_is); (case zk => k_is))
    (case za__law_lots => refine' Lk.fnAt ?zn ?zl ?zc ?zk; (case zn => k_is); (case zl => k_is); (case zc => k_is); (case zk => k_is))
    (case za__law_smallest => refine' Lk.fnAt ?zn ?zl ?zc ?zk; (case zn => k_is); (case zl => k_is); (case zc => k_is); (case zk => k_is))
    (case za__law_exchanged => refine' Lk.fnAt ?zn ?zl ?zc ?zk; (case zn => k_is); (case zl => k_is); (case zc => k_is); (case zk => k_is))
    (case za__law_word => refine' Lk.fnAt ?zn ?zl ?zc ?zk; (case zn => k_is); (case zl => k_is); (case zc => k_is); (case zk => k_is))
    (case za_least_lots => refine' Lk.fnAt ?zn ?zl ?zc ?zk; (case zn => k_is); (case zl => k_is); (case zc => k_is); (case zk => k_is))
    (case za_alike => refine' Lk.fnAt ?zn ?zl ?zc ?zk; (case zn => k_is); (case zl => k_is); (case zc => k_is); (case zk => k_is))
    (case za_law => refine' Lk.fnTb ?zn ?zl ?zc ?zk ?zlc ?zl11; (case zn => k_is); (case zl => k_is); (case zc => k_is); (case zk => k_is); (case zlc => first | k_is | kx_is | ks_is | rfl | decide +kernel); (case zl11 => first | rfl | k_is | kx_is | ks_is | decide +kernel))
    (case zd0 => decide)
    (case zd1 => decide)
    (case zd2 => decide)
    (case zd3 => decide)
    (case ze0_TO_exchanges => decide)
    (case ze1_TO_exchanges => decide)
    (case ze2_TO_exchanges => decide)
    (case ze3_TO_exchanges => decide)
    (case zol_TO_exchanges => decide)

