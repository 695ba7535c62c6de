import PyProof.Rows.All
import Wide.All
import OpenK.AllK
import Wide.FinOn
import HandS.ForMost
import HandS.AnyAll
import HandS.GenList
import HandS.EndTab
import PyProof.TupleOfGen
import HandS.SortRule
import HandS.Conv
import HandS.EndOwn
import HandS.EndBits
import HandS.TupAny
import HandS.IsInst
import HandS.CallLocal
import HandS.Wide
import HandS.Codes
import KE.KBits
import PySem.Challenge.RW_spinfield_k01_polynomials
set_option Elab.async false
set_option linter.all false
set_option maxRecDepth 100000
set_option maxHeartbeats 4000000
/-! Generator expressions over the layer: the generator's own frame as a context, its turns, what wakes it. -/
namespace GXP
open PySem PySem.Spec PyProof.Rows L2
/-- the generator's frame while its consumer stands at A -/
abbrev gcx (X : Cx) (A : Around) (s : Shared) (H : Hp) (ce : Env) (fp : List Addr) : Cx :=
  { X with A := A, s_0 := s, H_0 := H, env := ce, outer := X.stack, stack := ce :: X.stack, ex := fp, fn := fun _ => false, calm := true, pn := [], xe := fun _ _ => False }
/-- the cells of the frame that are taken over -/
theorem clo_look {cells : List (Str × Addr)} {names : List (Str × NameKind)} (hf : ∀ y ∈ names, y.2 = .free → ∃ c, cells.lookup y.1 = some c) {y : Str} {c : Addr} (e : (cloFrom cells names []).lookup y = some c) : cells.lookup y = some c ∧ (y, NameKind.free) ∈ names := by
  rcases cloFrom_mem (PySem.mem_of_lookup e) with z | ⟨z, rfl⟩
  · cases z
  · obtain ⟨d, hd⟩ := hf _ z rfl
    have hd : cells.lookup y = some d := hd
    rw [hd]
    exact ⟨rfl, z⟩
theorem gcx_start {X : Cx} {pins : List (Addr × Obj)} {σ : L2.St} {H : Hp} {s s5 : Shared} {A : Around} {ce : Env} {scope : Scope} {own : List (Str × Nat)} {fp : List Addr} {m0 : Str → Option Value}
    (I : Inv X pins σ H s) (ok : BlkOk X.N X.env.scope scope own) (hN : X.N.Nodup) (nocell : ∀ y ∈ scope.names, y.2 ≠ .cell) (hfp : ∀ b ∈ fp, FpOk X pins H b ∧ b < s.heap.objs.size)
    (hsc : ce.scope = scope) (hL : ce.locals = s.heap.objs.size) (hgl : ce.globals = mainGlobals) (hbl : ce.builtins = builtinsNs) (hcl : ce.cells = cloFrom X.env.cells scope.names []) (hfr : ce.frame = some ce.locals)
    (hA : A.frames = some (ce :: X.stack)) (hh : A.handled = none) (kp : ∀ b o, s.heap.get? b = some o → s5.heap.get? b = some o) (ns : s5.heap.Ns ce.locals m0) (hos : s5.os = s.os) (hb : AllBare s5.gens) :
    Inv (gcx X A s H ce fp) [] (wipe σ (own.map (·.2))) H s5 := by
  have hfree : ∀ y ∈ scope.names, y.2 = .free → ∃ c, X.env.cells.lookup y.1 = some c := fun y hy e => (ok.free y hy e).elim (fun k => I.ok.has _ (.inl k)) (fun k => I.ok.has _ (.inr k))
  have look : ∀ {y c}, ce.cells.lookup y = some c → X.env.cells.lookup y = some c ∧ (y, NameKind.free) ∈ scope.names := fun {y c} e => clo_look hfree (by rw [← hcl]; exact e)
  have cellLt : ∀ {y c}, X.env.cells.lookup y = some c → c < s.heap.objs.size := fun {y c} e => let ⟨_, z⟩ := I.cell y c e; z.lt
  have freeHas : ∀ {y}, scope.names.lookup y = some .free → ∃ c, ce.cells.lookup y = some c ∧ X.env.cells.lookup y = some c := fun {y} e => by
    obtain ⟨c, hc⟩ := mem_lookup (cloFrom_has (cells := X.env.cells) (acc := []) (PySem.mem_of_lookup e))
    rw [← hcl] at hc
    exact ⟨c, hc, (look hc).1⟩
  have okG : (gcx X A s H ce fp).Ok := by
    refine { mod := I.ok.mod, kind := ?kd, glob := hgl, blt := hbl, above := Nat.le_of_eq hL.symm, inj := ?inj, has := ?has, cab := fun _ _ z _ => (by cases z), hd := fun _ => hh, frames := hA, stk := .inr ⟨rfl, hfr⟩, exf := ?exf, bs := I.bs, bsz := Nat.le_trans I.ok.bsz I.sz, noex := ?noex, exfs := ?exfs, funs := I.stack, frf := I.stkFree }
    case kd =>
      show ce.scope.kind = _
      rw [hsc]
      exact ok.kind
    case inj => exact fun y z c e1 e2 => I.ok.inj y z c (look e1).1 (look e2).1
    case has =>
      intro y hy
      have hy : ce.scope.names.lookup y = some .cell ∨ ce.scope.names.lookup y = some .free := hy
      rw [hsc] at hy
      rcases hy with hy | hy
      · exact absurd rfl (nocell _ (PySem.mem_of_lookup hy))
      · exact let ⟨c, h, _⟩ := freeHas hy; ⟨c, h⟩
    case exf =>
      refine fun b hb => ⟨?_, fun y c e z => (hfp b hb).1.2.2.2.2.1 y c (look e).1 z⟩
      show b ≠ ce.locals
      rw [hL]
      exact Nat.ne_of_lt (hfp b hb).2
    case noex =>
      intro b o e hb
      rcases (hfp b hb).1.2.2.2.1 with z | z
      · exact I.ok.noex b o e z
      · have h1 := Heap.lt_size e
        have h2 := I.ok.bsz
        exact absurd (Nat.lt_of_lt_of_le h1 (Nat.le_trans h2 z)) (Nat.lt_irrefl _)
    case exfs =>
      intro b hb z
      rcases List.mem_cons.mp (I.stkSub b z) with z | z
      · exact (hfp b hb).1.2.1 z
      · exact (hfp b hb).1.2.2.1 z
  refine { ok := okG, os := hos, bare := hb, base := Un.kept kp, loc := ⟨m0, ns, ?loc⟩, cell := ?cell, free := ?free, freeC := fun y c e => I.freeC y c (look e).1, pin := fun p hp => absurd (show p ∈ ([] : List (Addr × Obj)) ++ [] from hp) (by simp), hok := I.hok.kept kp, len := by rw [wipe_length]; exact I.len }
  case loc =>
    intro i y v e1 e2 e3
    obtain ⟨e2, hne⟩ := wipe_some e2
    have e3 : ce.scope.names.lookup y = some .local ∨ ce.scope.names.lookup y = some .cell ∨ ce.scope.names.lookup y = some .free := e3
    rw [hsc] at e3
    have hfr : scope.names.lookup y = some .free := by
      rcases e3 with k | k | k
      · exfalso
        rcases ok.own _ (PySem.mem_of_lookup k) (.inl rfl) with h | h
        · obtain ⟨p, hp, hpy⟩ := List.mem_map.mp h
          have h3 := ok.ix p hp
          have : p.1 = y := hpy
          rw [this] at h3
          exact hne (List.mem_map.mpr ⟨p, hp, nodup_ix hN h3 e1⟩)
        · exact h (List.mem_of_getElem? e1)
      · exact absurd rfl (nocell _ (PySem.mem_of_lookup k))
      · exact k
    obtain ⟨c, h1, h2⟩ := freeHas hfr
    have hvis : Vis X.env.scope y := (ok.free _ (PySem.mem_of_lookup hfr) rfl).elim (fun k => .inr (.inl k)) (fun k => .inr (.inr k))
    obtain ⟨m, hn, hl⟩ := I.loc
    obtain ⟨u, r, q⟩ := hl i y v e1 e2 hvis
    refine ⟨u, r, .inr ⟨.inr (by show ce.scope.names.lookup y = _; rw [hsc]; exact hfr), ?_⟩⟩
    rcases q with ⟨k, _⟩ | ⟨_, d, hd, z⟩
    · have k : X.env.scope.names.lookup y = some .local := k
      rcases ok.free _ (PySem.mem_of_lookup hfr) rfl with k' | k' <;> rw [show X.env.scope.names.lookup y = _ from k'] at k <;> cases k
    · rw [h2] at hd
      cases hd
      exact ⟨c, h1, z.keeps kp⟩
  case cell =>
    intro y c e
    obtain ⟨v, z⟩ := I.cell y c (look e).1
    exact ⟨v, z.keeps kp⟩
  case free =>
    show H ce.locals = none
    rw [hL]
    exact I.hok.fresh (Nat.le_refl _)
/-- while the generator sleeps, its consumer writes at cw alone -/
structure Doz (cw : List Addr) (s s' : Shared) : Prop where
  os : s'.os = s.os
  bare : AllBare s'.gens
  keep : ∀ b o, b ∉ cw → s.heap.get? b = some o → s'.heap.get? b = some o
  there : ∀ b ∈ cw, ∃ o, s'.heap.get? b = some o ∧ ∀ v, o.data ≠ .cell v
/-- what stands at cw is left alone by a turn -/
def KeptAt (cw : List Addr) (s₀ s : Shared) : Prop := ∀ b ∈ cw, ∀ o, s₀.heap.get? b = some o → s.heap.get? b = some o
/-- what a consumer does with an item: the items so far, the item, the heap, and what the generator wants to go on -/
abbrev Cy := List V → V → Hp → (List V → Hp → Prop) → Prop
/-- how the items so far show in what the consumer keeps at cw -/
structure Lnk (cw : List Addr) (Lk : List V → Heap → Prop) : Prop where
  st : ∀ ys h h', Lk ys h → (∀ b ∈ cw, ∀ o, h.get? b = some o → h'.get? b = some o) → Lk ys h'
def GYld (Y : Cx) (gp : List (Addr × Obj)) (cw : List Addr) (Lk : List V → Heap → Prop) (cy : Cy) : Protocol := fun _ s₀ v s kap =>
  ∃ (ys : List V) (y : V) (σ : L2.St) (H : Hp) (Nx : List V → Hp → Prop), Inv Y gp σ H s ∧ RelV y v ∧ KeptAt cw s₀ s ∧ (∀ b ∈ cw, H b = none) ∧ Lk ys s.heap ∧ cy ys y H Nx ∧ ∀ ys', Nx ys' H → ∀ s', Doz cw s s' → Lk ys' s'.heap → kap (.send .none) s'
def GFin (Y : Cx) (gp : List (Addr × Obj)) (cw : List Addr) (Lk : List V → Heap → Prop) (Qe : List V → Hp → Prop) : GenEnd := fun _ s₀ r s =>
  r = .ok .next ∧ ∃ (ys : List V) (σ : L2.St) (H : Hp), Inv Y gp σ H s ∧ KeptAt cw s₀ s ∧ (∀ b ∈ cw, H b = none) ∧ Lk ys s.heap ∧ Qe ys H
/-- the turns of a generator expression: W by the turn, a measure and the items so far -/
def Turns (J : It) (g : TG) (tt : TT) (te : TE) (vs : List Nat) (σ : L2.St) (cy : Cy) (Qe : List V → Hp → Prop) (W : Nat → Nat → List V → Hp → Prop) : Prop :=
  ∀ i m ys H, W i m ys H → (J.stop i H ∧ Qe ys H) ∨ (J.go i H ∧ 0 < m ∧ ∃ Nx : List V → Hp → Prop, (∀ ys' H', Nx ys' H' → ∃ m', m' < m ∧ W (i + 1) m' ys' H') ∧
    ∀ x H', J.yld i H x H' → g x (wipe σ vs) H' fun σ2 H2 => wipe σ2 vs = wipe σ vs ∧ tt σ2 H2 fun b H3 => if b = true then te σ2 H3 fun y H4 => cy ys y H4 Nx else Nx ys H3)
/-- the iterator's and the consumer's objects in the generator's frame -/
structure GPlace (Y : Cx) (gp : List (Addr × Obj)) (fp cw : List Addr) : Prop where
  fx : ∀ b ∈ fp, b ∈ Y.ex ∧ b ≠ Y.env.locals ∧ b ∉ Y.fs ∧ (∀ x c, Y.env.cells.lookup x = some c → c ≠ b) ∧ (∀ p ∈ Y.pn ++ gp, p.1 ≠ b) ∧ b ∉ cw
  cx : ∀ b ∈ cw, Y.s_0.heap.objs.size ≤ b ∧ b ≠ Y.env.locals ∧ b ∉ Y.fs ∧ (∀ x c, Y.env.cells.lookup x = some c → c ≠ b) ∧ ∀ p ∈ Y.pn ++ gp, p.1 ≠ b
theorem GPlace.fpOk {Y : Cx} {gp : List (Addr × Obj)} {fp cw : List Addr} (G : GPlace Y gp fp cw) {s₀ : Shared} {H : Hp} (n : ∀ b ∈ fp, H b = none) : ∀ b ∈ fp, FpOk Y (gp ++ pinsAt cw s₀.heap) H b := fun b hb => by
  obtain ⟨h1, h2, h3, h4, h5, h6⟩ := G.fx b hb
  refine ⟨n b hb, h2, h3, .inl h1, h4, fun p hp => ?_⟩
  rw [← List.append_assoc] at hp
  rcases List.mem_append.mp hp with hp | hp
  · exact h5 p hp
  · intro z
    have h7 := (of_pinsAt hp).1
    rw [z] at h7
    exact h6 h7
/-- the consumer's objects are pinned as they stand -/
theorem GPlace.pin {Y : Cx} {gp : List (Addr × Obj)} {fp cw : List Addr} (G : GPlace Y gp fp cw) {σ : L2.St} {H : Hp} {s : Shared} (I : Inv Y gp σ H s) (n : ∀ b ∈ cw, H b = none) (t : ∀ b ∈ cw, ∃ o, s.heap.get? b = some o ∧ ∀ v, o.data ≠ .cell v) :
    Inv Y (gp ++ pinsAt cw s.heap) σ H s :=
  I.pinned (fun b hb => let ⟨h1, h2, h3, h4, h5⟩ := G.cx b hb; ⟨n b hb, h2, h3, .inr h1, h4, h5⟩) t
theorem kept_of {Y : Cx} {gp pl : List (Addr × Obj)} {cw : List Addr} {σ : L2.St} {H : Hp} {s₀ s : Shared} (I : Inv Y ((gp ++ pinsAt cw s₀.heap) ++ pl) σ H s) : KeptAt cw s₀ s := fun b hb o e =>
  (I.pin (b, o) (List.mem_append_right _ (List.mem_append_left _ (List.mem_append_right _ (mem_pinsAt hb e))))).1
/-- asleep: only cw is written -/
theorem GPlace.doz {Y : Cx} {gp : List (Addr × Obj)} {fp cw : List Addr} (G : GPlace Y gp fp cw) {σ : L2.St} {H : Hp} {s s' : Shared} (I : Inv Y gp σ H s) (n : ∀ b ∈ cw, H b = none) (z : Doz cw s s') : Inv Y gp σ H s' := by
  obtain ⟨z1, z2, z3, _⟩ := z
  have nt : ∀ b u, H b = some u → b ∉ cw := fun b u q hb => by
    rw [n b hb] at q
    cases q
  obtain ⟨hh, g, d, t, o⟩ := s'
  have ho : o = s.os := z1
  subst ho
  refine I.step (g' := g) (t' := t) (d' := d) (ch := cw) (fun b hb => ?_) (fun b ob _ _ hc q _ => z3 b ob hc q) (fun b ob _ _ hc q _ => ⟨ob.slots, z3 b ob hc q⟩) (fun _ _ _ _ k => k) (fun b ob hc q => ⟨ob, z3 b ob hc q⟩) (fun _ _ q => q) (fun _ _ _ q => q)
    (fun b ps q => ⟨#[], by rw [q]; simp⟩) (fun m hm => ?_) (fun b u q => ?_) z2
  · obtain ⟨h1, h2, h3, h4, h5⟩ := G.cx b hb
    exact ⟨.inr h1, h2, h4, h5⟩
  · obtain ⟨ob, es, ep, ho, r⟩ := hm
    exact ⟨ob, es, ep, z3 _ ob (fun hb => (G.cx _ hb).2.1 rfl) ho, r⟩
  · refine (I.hok b u q).stay (fun c v hc y => z3 c v ?_ y) (fun _ y => y) fun _ _ y => y
    rcases hc with y | y
    · rw [y]
      exact nt b u q
    · exact nt c _ y
section
variable {Y : Cx} {Aw : Around} {elt tg iter : Expr} {ifs : List Expr} {scope : Scope} {pos : Pos} {it : Addr} {fp cw : List Addr} {gp : List (Addr × Obj)} {tn : Nat → Heap → Prop} {J : It} {g : TG} {tt : TT} {te : TE} {vs : List Nat} {σ : L2.St} {cy : Cy} {Qe : List V → Hp → Prop} {Lk : List V → Heap → Prop}
  {W : Nat → Nat → List V → Hp → Prop}
abbrev gxE (elt tg iter : Expr) (ifs : List Expr) (scope : Scope) (pos : Pos) : Expr := .GeneratorExp elt [⟨tg, iter, ifs, 0⟩] scope pos
theorem gx_loop (hA : Aw.over (.compLoop (gxE elt tg iter ifs scope pos) 0 (.ref it) .none Y.env) [] = Y.A) (hx : Y.xe = fun _ _ => False) (hco : Y.env.scope.isCoroutine = false) (hc : Y.calm = true)
    (T : Turn Y.prog Y.w Y.K tg J fp it tn) (pg : PG Y tg g) (pt : PTs Y ifs tt) (pe : PE Y elt te) (G : GPlace Y gp fp cw) (hLk : Lnk cw Lk) (hW : Turns J g tt te vs σ cy Qe W) :
    ∀ (m n i : Nat) (ys : List V) (s₀ s : Shared) (H : Hp), m ≤ n → Inv Y (gp ++ pinsAt cw s₀.heap) (wipe σ vs) H s → (∀ b ∈ cw, ∃ o, s₀.heap.get? b = some o) → Lk ys s₀.heap → tn i s.heap → (∀ b ∈ fp, H b = none) → W i m ys H →
      Seg (model Y.prog Y.w) Aw (GFin Y gp cw Lk Qe) (GYld Y gp cw Lk cy) n s₀ (.compLoop (gxE elt tg iter ifs scope pos) 0 (.ref it) .none Y.env) ((model Y.prog Y.w).den (.compLoop (gxE elt tg iter ifs scope pos) 0 (.ref it) .none Y.env)) [] s := by
  have cwn : ∀ {s₀ s : Shared} {pl : List (Addr × Obj)} {σ' : L2.St} {H : Hp}, (∀ b ∈ cw, ∃ o, s₀.heap.get? b = some o) → Inv Y ((gp ++ pinsAt cw s₀.heap) ++ pl) σ' H s → ∀ b ∈ cw, H b = none := fun {s₀ s pl σ' H} h I b hb => by
    obtain ⟨o, e⟩ := h b hb
    exact (I.pin (b, o) (List.mem_append_right _ (List.mem_append_left _ (List.mem_append_right _ (mem_pinsAt hb e))))).2.1
  have nil : ∀ {l : List (Addr × Obj)} {σ' : L2.St} {H : Hp} {s : Shared}, Inv Y l σ' H s → Inv Y (l ++ []) σ' H s := fun {l σ' H s} I => by
    rw [List.append_nil]
    exact I
  intro m
  induction m using Nat.strongRecOn with
  | ind m ih =>
    intro n i ys s₀ s H hmn I hcw lk st nf w
    have fk := G.fpOk (s₀ := s₀) nf
    show Seg _ _ _ _ _ _ _ ((compTurn (gxE elt tg iter ifs scope pos) 0 (.ref it) .none Y.env).onRaise (leaving Y.env)) [] s
    rw [compTurn_gen elt tg iter ifs scope pos, Sem.onRaise_eq_wrap]
    refine seg_bind_wrap (wpAny_standAt (seg_bind_wrap ?_))
    rw [hA]
    rcases hW i m ys H w with ⟨stop, q⟩ | ⟨go, m0, Nx, hNx, step⟩
    · refine thnF (T.done Y rfl rfl rfl hc i _ s _ H _ I fk st stop) fun r s6 ⟨hr, I6⟩ => ?_
      subst hr
      exact seg_end (.ok .next) ⟨rfl, ys, _, H, I6.unpinned, kept_of (nil I6), cwn hcw (nil I6), hLk.st _ _ _ lk (kept_of (nil I6)), q⟩
    · refine thnF (T.item Y rfl rfl rfl hc i _ s _ H _ I fk st go) fun r s6 ⟨u, hr, h6⟩ => ?_
      subst hr
      refine seg_bind_wrap ?_
      rw [hA]
      refine thnF h6 fun _ s7 ⟨x, H7, I7, r7, y7, st7, n7⟩ => ?_
      have I7' := I7.pinned (G.fpOk n7) (T.obj _ _ st7)
      have kfp : ∀ {s' : Shared} {σ' : L2.St} {H' : Hp}, Inv Y ((gp ++ pinsAt cw s₀.heap) ++ pinsAt fp s7.heap) σ' H' s' → ∀ b ∈ fp, (∀ o, s7.heap.get? b = some o → s'.heap.get? b = some o) ∧ H' b = none := fun {s' σ' H'} I' b hb => by
        obtain ⟨o, e, _⟩ := T.obj _ _ st7 b hb
        obtain ⟨z1, z2, _⟩ := I'.pin (b, o) (List.mem_append_right _ (List.mem_append_right _ (mem_pinsAt hb e)))
        refine ⟨fun o' e' => ?_, z2⟩
        rw [e] at e'
        cases e'
        exact z1
      have exF : ∀ {e : Value} {s' : Shared} {Z : Prop}, Y.xe e s' → Z := fun {e s' Z} h => by
        rw [hx] at h
        exact False.elim h
      refine seg_bind_wrap ?_
      rw [hA]
      refine wpAny_mono (pg.run _ s7 _ H7 x u _ I7' r7 (step x H7 y7)) (fun _ s8 ⟨σ8, H8, I8, hw8, q8⟩ => ?_) fun _ _ h => exF h
      refine seg_bind_wrap ?_
      rw [hA]
      refine wpAny_mono (pt.run _ s8 σ8 H8 _ I8 q8) (fun b s9 ⟨H9, I9, q9⟩ => ?_) fun _ _ h => exF h
      have hl : (wipe σ vs).length = σ8.length := by rw [← hw8, wipe_length]
      have weak : ∀ {l : List (Addr × Obj)} {H' : Hp} {s' : Shared}, Inv Y l σ8 H' s' → Inv Y l (wipe σ vs) H' s' := fun {l H' s'} I' => I'.weak hl fun j v e => by
        rw [← hw8] at e
        exact (wipe_some e).1
      cases b with
      | false =>
        rw [if_neg Bool.false_ne_true] at q9
        obtain ⟨m', hm, w'⟩ := hNx _ _ q9
        simp only [Bool.false_eq_true, if_false]
        exact seg_again rfl (ih m' hm n (i + 1) ys s₀ s9 H9 (by omega) (weak I9.unpinned) hcw lk (T.keep _ _ _ st7 fun b hb => (kfp I9 b hb).1) (fun b hb => (kfp I9 b hb).2) w')
      | true =>
        rw [if_pos rfl] at q9
        simp only [if_true]
        have hy : ∀ v, yieldOut Y.env v = yieldValue v := fun v => by
          unfold yieldOut
          rw [hco]
          rfl
        simp only [hy]
        rw [Sem.bind_eq_wrap', Sem.bind_eq_wrap', Sem.wrap_wrap, Sem.wrap_wrap]
        refine seg_wrap ?_
        rw [hA]
        refine wpAny_mono (pe.run _ s9 σ8 H9 _ I9 q9) (fun v s10 ⟨y, H10, I10, r10, q10⟩ => ?_) fun _ _ h => exF h
        obtain ⟨n', rfl⟩ : ∃ n', n = n' + 1 := ⟨n - 1, by omega⟩
        have Ig : Inv Y gp σ8 H10 s10 := I10.pins_of fun p hp => I10.pin p (List.mem_append_right _ (List.mem_append_left _ (List.mem_append_left _ hp)))
        refine seg_at (seg_yield rfl rfl rfl ⟨ys, y, σ8, H10, Nx, Ig, r10, kept_of I10, cwn hcw I10, hLk.st _ _ _ lk (kept_of I10), q10, fun ys' hys s' hz lk' => ?_⟩)
        obtain ⟨m', hm, w'⟩ := hNx ys' H10 hys
        have nc := cwn hcw I10
        have Iz := G.doz Ig nc hz
        refine seg_again rfl (ih m' hm n' (i + 1) ys' s' s' H10 (by omega) (weak (G.pin Iz nc hz.there)) (fun b hb => let ⟨o, e, _⟩ := hz.there b hb; ⟨o, e⟩) lk' (T.keep _ _ _ st7 fun b hb o e => ?_) (fun b hb => (kfp I10 b hb).2) w')
        exact hz.keep b o (G.fx b hb).2.2.2.2.2 ((kfp I10 b hb).1 o e)
end
section
variable {Y : Cx} {Aw : Around} {elt tg iter : Expr} {ifs : List Expr} {scope : Scope} {pos : Pos} {it : Addr} {fp cw : List Addr} {gp : List (Addr × Obj)} {tn : Nat → Heap → Prop} {J : It} {g : TG} {tt : TT} {te : TE} {vs : List Nat} {σ : L2.St} {cy : Cy} {Qe : List V → Hp → Prop} {Lk : List V → Heap → Prop}
  {W : Nat → Nat → List V → Hp → Prop}
theorem gx_first (hA : Aw.over (.compLoop (gxE elt tg iter ifs scope pos) 0 (.ref it) .none Y.env) [] = Y.A) (hx : Y.xe = fun _ _ => False) (hco : Y.env.scope.isCoroutine = false) (hc : Y.calm = true)
    (T : Turn Y.prog Y.w Y.K tg J fp it tn) (pg : PG Y tg g) (pt : PTs Y ifs tt) (pe : PE Y elt te) (G : GPlace Y gp fp cw) (hLk : Lnk cw Lk) (hW : Turns J g tt te vs σ cy Qe W)
    {m : Nat} {s : Shared} {H : Hp} (I : Inv Y gp (wipe σ vs) H s) (nc : ∀ b ∈ cw, H b = none) (hcw : ∀ b ∈ cw, ∃ o, s.heap.get? b = some o ∧ ∀ v, o.data ≠ .cell v) (lk : Lk [] s.heap) (st : tn 0 s.heap) (nf : ∀ b ∈ fp, H b = none) (w : W 0 m [] H) :
    Seg (model Y.prog Y.w) Aw (GFin Y gp cw Lk Qe) (GYld Y gp cw Lk cy) m s (.compStart (gxE elt tg iter ifs scope pos) 0 (.ref it) .none Y.env) ((model Y.prog Y.w).den (.compStart (gxE elt tg iter ifs scope pos) 0 (.ref it) .none Y.env)) [] s := by
  have go := gx_loop (pos := pos) hA hx hco hc T pg pt pe G hLk hW m m 0 [] s s H (Nat.le_refl _) (G.pin I nc hcw) (fun b hb => let ⟨o, e, _⟩ := hcw b hb; ⟨o, e⟩) lk st nf w
  show Seg _ _ _ _ _ _ _ ((compStart (gxE elt tg iter ifs scope pos) 0 (.ref it) .none Y.env).onRaise (leaving Y.env)) [] s
  unfold compStart
  rw [Sem.onRaise_eq_wrap]
  show Seg _ _ _ _ _ _ _ ((ask >>= _).wrap _ _ _ _) [] s
  refine seg_bind_wrap (wpAny_askSetting ?_)
  split
  · exact seg_again rfl go
  · have last := T.self (Aw.over (.compStart (gxE elt tg iter ifs scope pos) 0 (.ref it) .none Y.env) []) 0 s
    first
      | exact seg_bind_wrap (wpAny_rule (seg_bind_wrap (wpAny_standAt (seg_bind_wrap (last _ _ st (seg_again rfl go))))))
      | (refine seg_bind_wrap (wpAny_rule ?_); show Seg _ _ _ _ _ _ _ ((standAt iter.pos >>= _).wrap _ _ _ _) [] s; exact seg_bind_wrap (wpAny_standAt (seg_bind_wrap (last _ _ st (seg_again rfl go)))))
end
/-- a generator that was made in X's code: what stood then, its frame's objects, its own object -/
structure GMk (X : Cx) (pins : List (Addr × Obj)) (σ : L2.St) (sg : Shared) (Hg : Hp) (fp : List Addr) (a g : Addr) (go : Obj) : Prop where
  inv : Inv X pins σ Hg sg
  fx : ∀ b ∈ fp, FpOk X pins Hg b
  isGen : ∀ h : Heap, h.get? a = some go → h.IsGen a g
/-- it sleeps; ys is out, at most n more come -/
structure GRun (Y : Cx) (cw : List Addr) (Lk : List V → Heap → Prop) (cy : Cy) (Qe : List V → Hp → Prop) (a g : Addr) (go : Obj) (Aw : Around) (n : Nat) (ys : List V) (s : Shared) : Prop where
  here : s.heap.get? a = some go
  lim : s.heap.NoLimit
  run : ∃ gs, s.gens[g]? = some gs ∧ ∀ s', Doz cw s s' → Lk ys s'.heap → gs.Goes (model Y.prog Y.w) Aw (GFin Y [(a, go)] cw Lk Qe) (GYld Y [(a, go)] cw Lk cy) n (.send .none) s'
theorem Doz.turn {cw : List Addr} {s s' s'' : Shared} (x : Doz cw s s') (y : Doz cw s' s'') : Doz cw s s'' :=
  ⟨y.os.trans x.os, y.bare, fun b o hb e => y.keep b o hb (x.keep b o hb e), y.there⟩
theorem GRun.doz {Y : Cx} {cw : List Addr} {Lk : List V → Heap → Prop} {cy : Cy} {Qe : List V → Hp → Prop} {a g : Addr} {go : Obj} {Aw : Around} {n : Nat} {ys : List V} {s s' : Shared} (R : GRun Y cw Lk cy Qe a g go Aw n ys s) (z : Doz cw s s') (ha : a ∉ cw) (hs : cStatics ∉ cw) (hg : s'.gens = s.gens) :
    GRun Y cw Lk cy Qe a g go Aw n ys s' := by
  obtain ⟨h1, ⟨mc, hn, hnn⟩, gs, h3, h4⟩ := R
  exact ⟨z.keep _ _ ha h1, ⟨mc, hn.at' fun o e => z.keep _ o hs e, hnn⟩, gs, by rw [hg]; exact h3, fun s2 y lk => h4 s2 (z.turn y) lk⟩
section
variable {X : Cx} {pins : List (Addr × Obj)} {σ : L2.St} {sg : Shared} {Hg : Hp} {fp cw : List Addr} {a g : Addr} {go : Obj} {A A1 : Around} {ce : Env} {cy : Cy} {Qe : List V → Hp → Prop} {Lk : List V → Heap → Prop} {s : Shared} {E : Value → Shared → Prop}
/-- back in the consumer's frame -/
theorem GMk.back (M : GMk X pins σ sg Hg fp a g go) {σ' : L2.St} {H : Hp} {s1 s' : Shared} (I : Inv (gcx X A1 sg Hg ce fp) [(a, go)] σ' H s1) (ho : s'.os = s1.os) (kp : ∀ b o, s1.heap.get? b = some o → s'.heap.get? b = some o) (hb : AllBare s'.gens) : Inv X pins σ H s' :=
  M.inv.call' (ch := fp) (ho.trans I.os) (I.base.trans (Un.kept kp)) (I.hok.kept kp) hb fun b hb => ⟨(M.fx b hb).2.2.2.1, (M.fx b hb).2.1, (M.fx b hb).2.2.2.2.1, (M.fx b hb).2.2.2.2.2⟩
/-- what next(generator) gives -/
def GNext (X : Cx) (pins : List (Addr × Obj)) (σ : L2.St) (Y : Cx) (cw : List Addr) (Lk : List V → Heap → Prop) (cy : Cy) (Qe : List V → Hp → Prop) (a g : Addr) (go : Obj) (A : Around) (n : Nat) (s : Shared) (r : Option Value) (s' : Shared) : Prop :=
  KeptAt cw s s' ∧ match r with
  | none => ∃ ys H, Inv X pins σ H s' ∧ (∀ b ∈ cw, H b = none) ∧ Lk ys s'.heap ∧ Qe ys H
  | some v => ∃ ys y H Nx, Inv X pins σ H s' ∧ RelV y v ∧ (∀ b ∈ cw, H b = none) ∧ Lk ys s'.heap ∧ cy ys y H Nx ∧ ∀ ys', Nx ys' H → ∀ s2, Doz cw s' s2 → Lk ys' s2.heap → s2.gens = s'.gens → ∃ n', n = n' + 1 ∧ GRun Y cw Lk cy Qe a g go A n' ys' s2
theorem gx_next (M : GMk X pins σ sg Hg fp a g go) (hLk : Lnk cw Lk) (ha : a ∉ cw) (hs : cStatics ∉ cw) {n : Nat} {ys : List V} (hh : A.handled = none) (hd : A.depth < recursionLimit) (R : GRun (gcx X A1 sg Hg ce fp) cw Lk cy Qe a g go A.in1 n ys s) (hb : AllBare s.gens) (hcw : ∀ b ∈ cw, ∃ o, s.heap.get? b = some o ∧ ∀ v, o.data ≠ .cell v)
    (lk : Lk ys s.heap) : wpAny (model X.prog X.w) A (pyNext (.ref a)) (GNext X pins σ (gcx X A1 sg Hg ce fp) cw Lk cy Qe a g go A.in1 n s) E s := by
  obtain ⟨h1, h2, gs, h3, h4⟩ := R
  have hgl : g < s.gens.size := (Array.getElem?_eq_some_iff.mp h3).1
  have z0 : Doz cw s (s.setGen g .running) := ⟨rfl, allBare_setGen hb rfl, fun _ _ _ e => e, hcw⟩
  refine GenW.wpAny_gsz (n := g + 1) hgl ?_
  refine wpAny_pyNext_genexpQ (P := fun _ s₀ s1 => ∃ (ys : List V) (σ' : L2.St) (H : Hp), Inv (gcx X A1 sg Hg ce fp) [(a, go)] σ' H s1 ∧ KeptAt cw s₀ s1 ∧ (∀ b ∈ cw, H b = none) ∧ Lk ys s1.heap ∧ Qe ys H)
    hh h2 hd (M.isGen _ h1) h3 (h4 _ z0 lk) (fun v s1 gs' hbare hv => ?_) fun s1 hp h' hk => ?_
  · obtain ⟨ys1, y, σ', H, Nx, I, r, kc, nc, lk1, q, wake⟩ := hv
    intro hsz
    have hsz1 : g < s1.gens.size := by
      rw [GenW.setGen_size] at hsz
      exact hsz
    refine ⟨kc, ys1, y, H, Nx, M.back I rfl (fun _ _ e => e) (allBare_setGen I.bare hbare), r, nc, lk1, q, fun ys' hN s2 z lk2 hgs => ?_⟩
    have w2 := wake ys' hN s2 ⟨z.os, z.bare, z.keep, z.there⟩ lk2
    cases n with
    | zero => exact w2.elim
    | succ n' =>
      have R1 : GRun (gcx X A1 sg Hg ce fp) cw Lk cy Qe a g go A.in1 n' ys' (s1.setGen g gs') :=
        ⟨(I.pin (a, go) (List.mem_append_right _ (List.mem_singleton.mpr rfl))).1, I.nolimit, gs', setGen_at hsz1, fun s2 z lk2 => wake ys' hN s2 ⟨z.os, z.bare, z.keep, z.there⟩ lk2⟩
      exact ⟨n', rfl, R1.doz z ha hs hgs⟩
  · obtain ⟨ys1, σ', H, I, kc, nc, lk1, q⟩ := hp
    intro _
    refine ⟨fun b hb o e => hk _ _ (kc b hb o e), ys1, H, M.back I rfl hk (allBare_setGen I.bare rfl), nc, hLk.st _ _ _ lk1 fun b _ o e => hk b o e, q⟩
end
theorem over_gx {A : Around} {elt tg iter : Expr} {ifs : List Expr} {scope : Scope} {pos : Pos} {it : Addr} {ce : Env} : A.over (.compLoop (gxE elt tg iter ifs scope pos) 0 (.ref it) .none ce) [] = A.deeper ce := by
  first
    | rfl
    | (obtain ⟨hd, d, fr, gs, u⟩ := A; simp [Around.over, Around.deeper, marksOver, frameCount, unitsOf, envsOf, guardsOf, pushEnvs, pushGuards, Code.envs, Code.env?, Code.isFrame, Code.guards, Code.isGuard, Code.weight, Code.frames, Code.isCreation, Code.isCaller, Code.cUnits])
/-- the generator has been made and has not begun; at most m items come -/
structure GReady (X : Cx) (pins : List (Addr × Obj)) (σ : L2.St) (m : Nat) (cy : Cy) (Qe : List V → Hp → Prop) (a : Addr) (s : Shared) : Prop where
  ex : ∃ (g : Addr) (go : Obj) (sg : Shared) (Hg : Hp) (fp : List Addr) (ce : Env), GMk X pins σ sg Hg fp a g go ∧ Inv X pins σ Hg s ∧ s.heap.get? a = some go ∧ s.heap.NoLimit ∧
    ∀ (cw : List Addr) (Lk : List V → Heap → Prop) (A : Around) (s2 : Shared), Lnk cw Lk → A.handled = none → A.frames = some X.stack → A.depth ≤ X.A.depth + 1 → A.units ≤ X.A.units + 8 → (∀ b ∈ cw, s.heap.objs.size ≤ b) →
      (∀ b o, s.heap.get? b = some o → s2.heap.get? b = some o) → (∀ b ∈ cw, ∃ o, s2.heap.get? b = some o ∧ ∀ v, o.data ≠ .cell v) → s2.os = s.os → s2.gens = s.gens → Lk [] s2.heap →
      GRun (gcx X (A.deeper ce) sg Hg ce fp) cw Lk cy Qe a g go A m [] s2
section
variable {X : Cx} {pins : List (Addr × Obj)} {σ : L2.St} {H : Hp} {s : Shared} {c P : Addr} {elt iter tg : Expr} {ifs : List Expr} {scope : Scope} {gpos : Pos} {own : List (Str × Nat)} {wi : TI} {g : TG} {tt : TT} {te : TE} {k : Nat} {cy : Cy} {Qe : List V → Hp → Prop}
theorem gx_make (hr : Room (k + 1) X.A) (TB : LamX.TabB X.base X.mg c P) (hcode : X.env.code = .ref c) (hco : scope.isCoroutine = false) (ok : BlkOk X.N X.env.scope scope own) (hN : X.N.Nodup) (nocell : ∀ y ∈ scope.names, y.2 ≠ .cell)
    (h0 : scope.names.lookup (".0" : Str) = some NameKind.local) (hi : PI X tg iter wi)
    (pg : ∀ (A : Around) (s : Shared) (H : Hp) (C : Addr) (cl : List (Str × Addr)) (code : Value) (bi : Addr) (fp : List Addr), Room k A → PG (gcx X A s H (genEnv scope cl C code bi X.env) fp) tg g)
    (pt : ∀ (A : Around) (s : Shared) (H : Hp) (C : Addr) (cl : List (Str × Addr)) (code : Value) (bi : Addr) (fp : List Addr), Room k A → PTs (gcx X A s H (genEnv scope cl C code bi X.env) fp) ifs tt)
    (pe : ∀ (A : Around) (s : Shared) (H : Hp) (C : Addr) (cl : List (Str × Addr)) (code : Value) (bi : Addr) (fp : List Addr), Room k A → PE (gcx X A s H (genEnv scope cl C code bi X.env) fp) elt te)
    (hs : ∀ v, genFold iter X.env v = pure v) (I : Inv X pins σ H s)
    (h : wi σ H fun J H1 => GxR.TabG H1 P ∧ ∀ H2, GxR.Tabbed P H1 H2 → ∃ W m, W 0 m [] H2 ∧ Turns J g tt te (own.map (·.2)) σ cy Qe W) :
    wpAny (model X.prog X.w) X.A (eval (gxE elt tg iter ifs scope gpos) X.env) (fun u s' => ∃ a m, u = .ref a ∧ GReady X pins σ m cy Qe a s') X.xe s := by
  have hfree : ∀ y ∈ scope.names, y.2 = .free → ∃ c, X.env.cells.lookup y.1 = some c := fun y hy e => (ok.free y hy e).elim (fun z => I.ok.has _ (.inl z)) (fun z => I.ok.has _ (.inr z))
  refine wpAny_GeneratorExp_make hco (closure_ok hfree) nocell h0 ok.kind (by have := hr.dp; omega) ?_ hs
  refine thn (hi.run pins s σ H _ I h) fun xv s1 hx => thn hx fun itv s2 h2 => ?_
  obtain ⟨it, fp, tn, J, H2, rfl, I2, T, st2, f2, ⟨ps, hP, ht⟩, q⟩ := h2
  refine ⟨I2.nolimit, ?_⟩
  have hPs : s2.heap.get? P = some { cls := .none, data := .fields ps } := I2.hok P _ hP
  have cd : PySem.W.CodeHd s2.heap c P := TB.code.keeps fun b u e => I2.bk b u e
  have sz : ∀ b ∈ fp, b < s2.heap.objs.size := fun b hb => by
    obtain ⟨o, e, _⟩ := T.obj _ _ st2 b hb
    exact Heap.lt_size e
  have nP : ∀ b ∈ fp, b ≠ P := fun b hb z => by
    have := (f2 b hb).1
    rw [z, hP] at this
    cases this
  have cont : ∀ (code : Value) (h3 : Heap) (tk : Nat) (more : Array Value), Heap.ExtBut P s2.heap h3 → s2.heap.objs.size ≤ h3.objs.size → h3.get? P = some { cls := .none, data := .fields (ps ++ more) } → TriplesOk (ps ++ more).toList →
      wpAny (model X.prog X.w) X.A (builtinsFor X.env.globals X.env.builtins) (fun bi s4 => ∀ h', h'.Ns s4.heap.objs.size (fun y => if y = ".0" then some (.ref it) else none) → Heap.SameBut s4.heap.objs.size (s4.heap.push { cls := .type "frame", data := .dict #[] }) h' →
        ∃ a m, Value.ref h'.objs.size = .ref a ∧ GReady X pins σ m cy Qe a { s4 with
            gens := s4.gens.push (.fresh (.compStart (gxE elt tg iter ifs scope gpos) 0 (.ref it) .none (genEnv scope (cloFrom X.env.cells scope.names []) s4.heap.objs.size code bi X.env))),
            toks := s4.toks + 1 + 1 + 1,
            heap := h'.push { cls := .type "generator", data := .fields #[.int s4.gens.size 0, .str "<genexpr>" (s4.toks + 1), .str (X.env.qual ++ "<genexpr>") (s4.toks + 1 + 1)] } }) X.xe { s2 with heap := h3, toks := tk } := by
    intro code h3 tk more hx3 hsz hP3 ht3
    have kp3 : ∀ b o, b ≠ P → s2.heap.get? b = some o → h3.get? b = some o := fun b o hb e => hx3 b o hb e
    have I3 : Inv X pins σ (upd H2 P (.tbl (ps ++ more))) { s2 with heap := h3, toks := tk } := GxR.inv_tab (g' := s2.gens) (d' := s2.drawn) (t' := tk) I2 hP kp3 hP3 I2.bare
    obtain ⟨W, m, w0, hW⟩ := q (upd H2 P (.tbl (ps ++ more))) ⟨⟨_, upd_same, ht3⟩, fun b hb => upd_ne hb⟩
    have f3 : ∀ b ∈ fp, FpOk X pins (upd H2 P (.tbl (ps ++ more))) b := fun b hb => ⟨by rw [upd_ne (nP b hb)]; exact (f2 b hb).1, (f2 b hb).2⟩
    have st3 : tn 0 h3 := T.keep _ _ _ st2 fun b hb o e => kp3 b o (nP b hb) e
    have sz3 : ∀ b ∈ fp, b < h3.objs.size := fun b hb => Nat.lt_of_lt_of_le (sz b hb) hsz
    obtain ⟨bm, ob, e1, e2, e3, e4, e5, e6, e7, e8⟩ := TB.bm
    refine wpAny_builtinsFor (m := X.mg) (by rw [I3.ok.glob]; exact I3.mod.glob.keeps I3.bk) e1 e2 (I3.bk _ _ e5) e6 e7 e8 ?_
    generalize upd H2 P (.tbl (ps ++ more)) = H3 at I3 w0 f3 hW
    generalize hs3 : ({ s2 with heap := h3, toks := tk } : Shared) = s3 at I3 ⊢
    have e3h : s3.heap = h3 := by rw [← hs3]
    rw [← e3h] at st3 sz3
    intro h' hn' hb'
    have hsz' : h'.objs.size = s3.heap.objs.size + 1 := by rw [hb'.1, Heap.size_push]
    have kp' : ∀ b o, s3.heap.get? b = some o → h'.get? b = some o := fun b o e => hb'.extBut b o (Nat.ne_of_lt (Heap.lt_size e)) (Heap.get?_push_of_some _ e)
    refine ⟨_, m, rfl, ?_⟩
    generalize hgo : ({ cls := .type "generator", data := .fields #[.int s3.gens.size 0, .str "<genexpr>" (s3.toks + 1), .str (X.env.qual ++ "<genexpr>") (s3.toks + 1 + 1)] } : Obj) = go
    have isg : ∀ h : Heap, h.get? h'.objs.size = some go → h.IsGen h'.objs.size s3.gens.size := fun h e => ⟨go, _, _, e, by rw [← hgo], by rw [← hgo], by rw [← hgo]⟩
    have gnc : ∀ v, go.data ≠ .cell v := fun v z => by
      rw [← hgo] at z
      cases z
    have nf : go.data ≠ .freed := fun z => by
      rw [← hgo] at z
      cases z
    have hat : (h'.push go).get? h'.objs.size = some go := by
      rw [← hgo]
      exact Heap.get?_push_size _ rfl
    generalize hce : genEnv scope (cloFrom X.env.cells scope.names []) s3.heap.objs.size code builtinsNs X.env = ce
    have ce1 : ce.scope = scope := by rw [← hce]; rfl
    have ce2 : ce.locals = s3.heap.objs.size := by rw [← hce]; rfl
    have ce3 : ce.globals = mainGlobals := by rw [← hce]; exact I3.ok.glob
    have ce4 : ce.builtins = builtinsNs := by rw [← hce]; rfl
    have ce5 : ce.cells = cloFrom X.env.cells scope.names [] := by rw [← hce]; rfl
    have ce6 : ce.frame = some ce.locals := by rw [← hce]; rfl
    generalize hs5 : ({ s3 with gens := s3.gens.push (.fresh (.compStart (gxE elt tg iter ifs scope gpos) 0 (.ref it) .none ce)), toks := s3.toks + 1 + 1 + 1, heap := h'.push go } : Shared) = s5
    have h5 : s5.heap = h'.push go := by rw [← hs5]
    have g5 : s5.gens = s3.gens.push (.fresh (.compStart (gxE elt tg iter ifs scope gpos) 0 (.ref it) .none ce)) := by rw [← hs5]
    have o5 : s5.os = s3.os := by rw [← hs5]
    have kp5 : ∀ b o, s3.heap.get? b = some o → s5.heap.get? b = some o := fun b o e => by rw [h5]; exact Heap.get?_push_of_some _ (kp' b o e)
    have b5 : AllBare s5.gens := by rw [g5]; exact I3.bare.push rfl
    have M : GMk X pins σ s3 H3 fp h'.objs.size s3.gens.size go := ⟨I3, f3, isg⟩
    have lim5 : s5.heap.NoLimit := I3.nolimit.keeps kp5
    have I5 : Inv X pins σ H3 s5 := I3.call' (ch := []) o5 (Un.kept kp5) (I3.hok.kept kp5) b5 fun b z => by simp at z
    have at5 : s5.heap.get? h'.objs.size = some go := by rw [h5]; exact hat
    have sz5 : s5.heap.objs.size = s3.heap.objs.size + 2 := by rw [h5, Heap.size_push, hsz']
    refine ⟨⟨s3.gens.size, go, s3, H3, fp, ce, M, I5, at5, lim5, fun cw Lk A s6 hLk hh hfr hdp hun hcw kp6 tc os6 gs6 lk => ?_⟩⟩
    have kp36 : ∀ b o, s3.heap.get? b = some o → s6.heap.get? b = some o := fun b o e => kp6 b o (kp5 b o e)
    have hrA : Room k (A.deeper ce) := by
      refine ⟨hh, ?_, ?_⟩
      · have := hr.dp
        show A.depth + 1 + 3 * k + 5 < _
        omega
      · have := hr.un
        show A.units + 3 + 16 * k + 200 < _
        omega
    have nsC : s6.heap.Ns ce.locals (fun y => if y = ".0" then some (.ref it) else none) := by
      rw [ce2]
      exact (hn'.push go).keeps fun b o e => kp6 b o (by rw [h5]; exact e)
    have b6 : AllBare s6.gens := by rw [gs6]; exact b5
    have I6 : Inv (gcx X (A.deeper ce) s3 H3 ce fp) [] (wipe σ (own.map (·.2))) H3 s6 :=
      gcx_start I3 ok hN nocell (fun b hb => ⟨f3 b hb, sz3 b hb⟩) ce1 ce2 ce3 ce4 ce5 ce6 (Around.frames_deeper hfr) hh kp36 nsC (os6.trans o5) b6
    have young : ∀ b, s3.heap.objs.size < b → H3 b = none ∧ b ≠ ce.locals ∧ b ∉ frs X.stack ∧ (∀ x c, ce.cells.lookup x = some c → c ≠ b) := fun b hb => by
      refine ⟨I3.hok.fresh (Nat.le_of_lt hb), by rw [ce2]; exact Nat.ne_of_gt hb, fun z => ?_, fun x d e z => ?_⟩
      · rcases List.mem_cons.mp (I3.stkSub b z) with z | z
        · exact absurd (Nat.lt_trans (by rw [z]; exact I3.lt) hb) (Nat.lt_irrefl _)
        · exact I3.nofs (Nat.le_of_lt hb) z
      · obtain ⟨v, zc⟩ := I6.cell x d e
        rw [ce5] at e
        obtain ⟨u, zd⟩ := I3.cell x d (clo_look hfree e).1
        have := zd.lt
        rw [z] at this
        exact absurd (Nat.lt_trans this hb) (Nat.lt_irrefl _)
    have ga : s3.heap.objs.size < h'.objs.size := by rw [hsz']; exact Nat.lt_succ_self _
    have I6' : Inv (gcx X (A.deeper ce) s3 H3 ce fp) [(h'.objs.size, go)] (wipe σ (own.map (·.2))) H3 s6 := I6.pins_of fun p hp => by
      rw [List.mem_singleton.mp hp]
      obtain ⟨y1, y2, y3, _⟩ := young _ ga
      exact ⟨kp6 _ _ at5, y1, y2, y3, gnc⟩
    have cwlt : ∀ b ∈ cw, s3.heap.objs.size < b ∧ b ≠ h'.objs.size := fun b hb => by
      have h1 : s3.heap.objs.size + 2 ≤ b := by rw [← sz5]; exact hcw b hb
      refine ⟨Nat.lt_of_lt_of_le (Nat.lt_succ_of_lt (Nat.lt_succ_self _)) h1, fun z => ?_⟩
      rw [z, hsz'] at h1
      exact absurd (Nat.lt_of_succ_le h1) (Nat.lt_irrefl _)
    have G : GPlace (gcx X (A.deeper ce) s3 H3 ce fp) [(h'.objs.size, go)] fp cw := by
      refine ⟨fun b hb => ⟨hb, (I6.ok.exf b hb).1, I6.ok.exfs b hb, fun x d e => (I6.ok.exf b hb).2 x d e, fun p hp => ?_, fun z => ?_⟩, fun b hb => ?_⟩
      · rw [List.mem_singleton.mp (show p ∈ [(h'.objs.size, go)] from hp)]
        exact fun z => absurd (Nat.lt_trans (sz3 b hb) (by rw [← z]; exact ga)) (Nat.lt_irrefl _)
      · exact absurd (Nat.lt_trans (sz3 b hb) (cwlt b z).1) (Nat.lt_irrefl _)
      · obtain ⟨y1, y2, y3, y4⟩ := young b (cwlt b hb).1
        refine ⟨Nat.le_of_lt (cwlt b hb).1, y2, y3, y4, fun p hp => ?_⟩
        rw [List.mem_singleton.mp (show p ∈ [(h'.objs.size, go)] from hp)]
        exact (cwlt b hb).2.symm
    have nc : ∀ b ∈ cw, H3 b = none := fun b hb => (young b (cwlt b hb).1).1
    refine ⟨kp6 _ _ at5, lim5.keeps kp6, .fresh (.compStart (gxE elt tg iter ifs scope gpos) 0 (.ref it) .none ce), by rw [gs6, g5]; exact Array.getElem?_push_size .., fun s7 z lk7 => ⟨rfl, ?_⟩⟩
    have I7 := G.doz I6' nc z
    have st7 : tn 0 s7.heap := T.keep _ _ _ st3 fun b hb o e => z.keep b o (fun hc => absurd (Nat.lt_trans (sz3 b hb) (cwlt b hc).1) (Nat.lt_irrefl _)) (kp36 b o e)
    have pg' := pg (A.deeper ce) s3 H3 s3.heap.objs.size (cloFrom X.env.cells scope.names []) code builtinsNs fp hrA
    have pt' := pt (A.deeper ce) s3 H3 s3.heap.objs.size (cloFrom X.env.cells scope.names []) code builtinsNs fp hrA
    have pe' := pe (A.deeper ce) s3 H3 s3.heap.objs.size (cloFrom X.env.cells scope.names []) code builtinsNs fp hrA
    rw [hce] at pg' pt' pe'
    exact gx_first (Y := gcx X (A.deeper ce) s3 H3 ce fp) over_gx rfl (by show ce.scope.isCoroutine = false; rw [ce1]; exact hco) rfl T pg' pt' pe' G hLk hW I7 nc z.there lk7 st7 (fun b hb => (f3 b hb).1) w0
  cases hf : codeAmong gpos ps.toList with
  | none =>
    refine wpAny_genexprCodeX hcode (cd.code hPs ht) (cd.tab hPs) hf fun c' h' tk hx hge hlt hco' _ htab' _ => ?_
    obtain ⟨o1, vs, f1, tf, fl, tg, inF, tx, tt, op, _, _, _, _, _, _, _, _, _, htr, _⟩ := hco'
    exact cont _ h' tk _ hx (Nat.le_trans hge (Nat.le_of_lt hlt)) htab'.2 htr
  | some cv =>
    refine wpAny_genexprCode_hit hcode (cd.code hPs ht) hf ?_
    exact cont cv s2.heap s2.toks #[] (Heap.ExtBut.refl _ _) (Nat.le_refl _) (by rw [Array.append_empty]; exact hPs) (by rw [Array.append_empty]; exact ht)
end
end GXP
namespace GXP
open PySem PySem.Spec PyProof.Rows L2
/-! the consumers -/
/-- the list that the consumer fills -/
abbrev tmpL (acc : Array Value) (c : Nat) : Obj := { cls := .type "list", dict := none, data := .seq acc c, slots := #[] }
def LkT (S : Addr) (ys : List V) (h : Heap) : Prop := ∃ acc c, h.get? S = some (tmpL acc c) ∧ Vals ys acc.toList ∧ ys.length ≤ sizeLine
theorem lnkT (S : Addr) : Lnk [S] (LkT S) := ⟨fun _ _ _ ⟨acc, c, e, r⟩ k => ⟨acc, c, k S (List.mem_singleton.mpr rfl) _ e, r⟩⟩
def cyT : Cy := fun ys y H Nx => ys.length < sizeLine ∧ Nx (ys ++ [y]) H
theorem lnkN : Lnk [] (fun _ _ => True) := ⟨fun _ _ _ _ _ => trivial⟩
/-- all, any: b0 ends it -/
def cyB (b0 : Bool) (Qf : Hp → Prop) : Cy := fun ys y H Nx => ∃ b, y = .bl b ∧ if b = b0 then Qf H else Nx (ys ++ [y]) H
def sumV : List V → Int
  | [] => 0
  | .int z :: r => z + sumV r
  | _ :: r => sumV r
theorem sumV_snoc : ∀ (ys : List V) (z : Int), sumV (ys ++ [.int z]) = sumV ys + z
  | [], z => by simp [sumV]
  | y :: r, z => by
    have ih := sumV_snoc r z
    cases y <;> simp only [List.cons_append, sumV, ih] <;> omega
def LkS (S : Addr) (ys : List V) (h : Heap) : Prop := ∃ t c, h.get? S = some (tmpL #[.int (sumV ys) t] c)
theorem lnkS (S : Addr) : Lnk [S] (LkS S) := ⟨fun _ _ _ ⟨t, c, e⟩ k => ⟨t, c, k S (List.mem_singleton.mpr rfl) _ e⟩⟩
def cyS : Cy := fun ys y H Nx => ∃ z, y = .int z ∧ InLong z ∧ InLong (sumV ys + z) ∧ Nx (ys ++ [y]) H
section
variable {X : Cx} {pins : List (Addr × Obj)} {σ : L2.St} {sg : Shared} {Hg : Hp} {fp : List Addr} {a g S : Addr} {go : Obj} {A A1 : Around} {ce : Env} {Qe : List V → Hp → Prop} {R : Result → Shared → Prop}
theorem gx_drain (M : GMk X pins σ sg Hg fp a g go) (hh : A.handled = none) (hd : A.depth < recursionLimit) (hSa : a ∉ [S]) (hSc : cStatics ∉ [S]) {res : Value}
    (fin : ∀ (s' : Shared) (ys : List V) (H : Hp) (acc : Array Value) (c : Nat), Inv X pins σ H s' → H S = none → s'.heap.get? S = some (tmpL acc c) → Vals ys acc.toList → ys.length ≤ sizeLine → Qe ys H → R (.ok (.ret res)) s') :
    ∀ (n : Nat) (ys : List V) (s : Shared), GRun (gcx X A1 sg Hg ce fp) [S] (LkT S) cyT Qe a g go A.in1.in1 n ys s → LkT S ys s.heap → AllBare s.gens → codeAny (model X.prog X.w) A (.builtin "list.extend.loop" ⟨[.ref S, .ref a, res], []⟩) R s := by
  have E0 := F.entry_extend_loop
  intro n
  induction n with
  | zero =>
    intro ys s G lk hb
    obtain ⟨acc, c, eS, r, hz⟩ := id lk
    refine codeAny_builtin E0 ?_
    rw [Around.under_plainId F.plain_extend_loop]
    refine wpAny_bind (thnF (gx_next M (lnkT S) hSa hSc (A := A.in1) hh hd G hb (fun b hb => ?_) lk) fun r s1 hN => ?_)
    · rw [List.mem_singleton.mp hb]
      exact ⟨_, eS, fun v z => by cases z⟩
    · obtain ⟨kc, hN⟩ := hN
      cases r with
      | none =>
        obtain ⟨ys1, H1, I1, n1, ⟨acc1, c1, e1, r1, z1⟩, q1⟩ := hN
        exact wpAny_pure (fin s1 ys1 H1 acc1 c1 I1 (n1 S (List.mem_singleton.mpr rfl)) e1 r1 z1 q1)
      | some v =>
        obtain ⟨ys1, y, H1, Nx, I1, ry, n1, ⟨acc1, c1, e1, r1, z1⟩, ⟨hlt, hN1⟩, wake⟩ := hN
        have hs : acc1.size < sizeLine := by
          have := r1.length
          simp only [Array.length_toList] at this
          omega
        show wpAny _ A.in1 (updateSeq S (·.push v) >>= _) _ _ _
        refine wpAny_bind (wpAny_updateSeq e1 rfl ?_ (Nat.le_of_lt hs) (by show (acc1.push v).size ≤ sizeLine + 1; rw [Array.size_push]; omega))
        have o1 := Heap.get?_update_self (Obj.mapSeq (·.push v)) e1 rfl
        refine (wake (ys1 ++ [y]) hN1 { s1 with heap := s1.heap.update S (Obj.mapSeq (·.push v)) } ⟨rfl, I1.bare, fun b o hb e => ?_, fun b hb => ?_⟩ ⟨_, _, o1, ?_, ?_⟩ rfl).elim (fun n' h => (Nat.succ_ne_zero n' h.1.symm).elim)
        · exact (Heap.get?_update_other _ _ (fun z => hb (List.mem_singleton.mpr z.symm))).trans e
        · rw [List.mem_singleton.mp hb]
          exact ⟨_, o1, fun v z => by cases z⟩
        · rw [Array.toList_push]
          exact r1.append (.cons ry .nil)
        · rw [List.length_append]
          exact hlt
  | succ n ih =>
    intro ys s G lk hb
    obtain ⟨acc, c, eS, r, hz⟩ := id lk
    refine codeAny_builtin E0 ?_
    rw [Around.under_plainId F.plain_extend_loop]
    refine wpAny_bind (thnF (gx_next M (lnkT S) hSa hSc (A := A.in1) hh hd G hb (fun b hb => ?_) lk) fun r s1 hN => ?_)
    · rw [List.mem_singleton.mp hb]
      exact ⟨_, eS, fun v z => by cases z⟩
    · obtain ⟨kc, hN⟩ := hN
      cases r with
      | none =>
        obtain ⟨ys1, H1, I1, n1, ⟨acc1, c1, e1, r1, z1⟩, q1⟩ := hN
        exact wpAny_pure (fin s1 ys1 H1 acc1 c1 I1 (n1 S (List.mem_singleton.mpr rfl)) e1 r1 z1 q1)
      | some v =>
        obtain ⟨ys1, y, H1, Nx, I1, ry, n1, ⟨acc1, c1, e1, r1, z1⟩, ⟨hlt, hN1⟩, wake⟩ := hN
        have hs : acc1.size < sizeLine := by
          have := r1.length
          simp only [Array.length_toList] at this
          omega
        show wpAny _ A.in1 (updateSeq S (·.push v) >>= _) _ _ _
        refine wpAny_bind (wpAny_updateSeq e1 rfl (wpAny_pure ⟨plainId_quiet F.plain_extend_loop _, ?_⟩) (Nat.le_of_lt hs) (by show (acc1.push v).size ≤ sizeLine + 1; rw [Array.size_push]; omega))
        have o1 := Heap.get?_update_self (Obj.mapSeq (·.push v)) e1 rfl
        have lk2 : LkT S (ys1 ++ [y]) (s1.heap.update S (Obj.mapSeq (·.push v))) := ⟨_, _, o1, by rw [Array.toList_push]; exact r1.append (.cons ry .nil), by rw [List.length_append]; exact hlt⟩
        obtain ⟨n', hn, G'⟩ := wake (ys1 ++ [y]) hN1 { s1 with heap := s1.heap.update S (Obj.mapSeq (·.push v)) } ⟨rfl, I1.bare, fun b o hb e => (Heap.get?_update_other _ _ (fun z => hb (List.mem_singleton.mpr z.symm))).trans e, fun b hb => by
          rw [List.mem_singleton.mp hb]
          exact ⟨_, o1, fun v z => by cases z⟩⟩ lk2 rfl
        cases hn
        exact ih (ys1 ++ [y]) _ G' lk2 I1.bare
end
end GXP
namespace GXP
open PySem PySem.Spec PyProof.Rows L2
section
variable {X : Cx} {pins : List (Addr × Obj)} {σ : L2.St} {sg : Shared} {Hg : Hp} {fp : List Addr} {a g S : Addr} {go : Obj} {A A1 : Around} {ce : Env} {Qe : List V → Hp → Prop} {Qf : Hp → Prop} {R : Result → Shared → Prop}
theorem gx_all (M : GMk X pins σ sg Hg fp a g go) (hh : A.handled = none) (hd : A.depth < recursionLimit)
    (fin : ∀ (s' : Shared) (H : Hp) (b : Bool), Inv X pins σ H s' → (b = true → ∃ ys, Qe ys H) → (b = false → Qf H) → R (.ok (.ret (.bool b))) s') :
    ∀ (n : Nat) (ys : List V) (s : Shared), GRun (gcx X A1 sg Hg ce fp) [] (fun _ _ => True) (cyB false Qf) Qe a g go A.in1.in1 n ys s → AllBare s.gens → codeAny (model X.prog X.w) A (.builtin "all.loop" ⟨[.ref a], []⟩) R s := by
  have E0 := F.entry_all_loop
  intro n
  induction n with
  | zero =>
    intro ys s G hb
    refine codeAny_builtin E0 ?_
    rw [Around.under_plainId F.plain_all_loop]
    refine wpAny_bind (thnF (gx_next M lnkN (by simp) (by simp) (A := A.in1) hh hd G hb (fun b hb => by cases hb) trivial) fun r s1 ⟨_, hN⟩ => ?_)
    cases r with
    | none =>
      obtain ⟨ys1, H1, I1, _, _, q1⟩ := hN
      exact wpAny_bind (wpAny_rule (wpAny_pure (fin s1 H1 true I1 (fun _ => ⟨ys1, q1⟩) (fun z => by cases z))))
    | some v =>
      obtain ⟨ys1, y, H1, Nx, I1, ry, _, _, ⟨b, rfl, q⟩, wake⟩ := hN
      cases ry
      refine wpAny_bind (wpAny_holding (wpAny_truthy_bool (wpAny_bind (wpAny_letGo ?_))))
      cases b with
      | true =>
        rw [if_neg (by decide)] at q
        obtain ⟨n', h, _⟩ := wake _ q s1 ⟨rfl, I1.bare, fun _ _ _ e => e, fun b hb => by cases hb⟩ trivial rfl
        cases h
      | false =>
        rw [if_pos rfl] at q
        exact wpAny_bind (wpAny_rule (wpAny_pure (fin s1 H1 false I1 (fun z => by cases z) (fun _ => q))))
  | succ n ih =>
    intro ys s G hb
    refine codeAny_builtin E0 ?_
    rw [Around.under_plainId F.plain_all_loop]
    refine wpAny_bind (thnF (gx_next M lnkN (by simp) (by simp) (A := A.in1) hh hd G hb (fun b hb => by cases hb) trivial) fun r s1 ⟨_, hN⟩ => ?_)
    cases r with
    | none =>
      obtain ⟨ys1, H1, I1, _, _, q1⟩ := hN
      exact wpAny_bind (wpAny_rule (wpAny_pure (fin s1 H1 true I1 (fun _ => ⟨ys1, q1⟩) (fun z => by cases z))))
    | some v =>
      obtain ⟨ys1, y, H1, Nx, I1, ry, _, _, ⟨b, rfl, q⟩, wake⟩ := hN
      cases ry
      refine wpAny_bind (wpAny_holding (wpAny_truthy_bool (wpAny_bind (wpAny_letGo ?_))))
      cases b with
      | true =>
        rw [if_neg (by decide)] at q
        obtain ⟨n', h, G'⟩ := wake _ q s1 ⟨rfl, I1.bare, fun _ _ _ e => e, fun b hb => by cases hb⟩ trivial rfl
        cases h
        exact wpAny_pure ⟨plainId_quiet F.plain_all_loop _, ih _ s1 G' I1.bare⟩
      | false =>
        rw [if_pos rfl] at q
        exact wpAny_bind (wpAny_rule (wpAny_pure (fin s1 H1 false I1 (fun z => by cases z) (fun _ => q))))
theorem gx_any (M : GMk X pins σ sg Hg fp a g go) (hh : A.handled = none) (hd : A.depth < recursionLimit)
    (fin : ∀ (s' : Shared) (H : Hp) (b : Bool), Inv X pins σ H s' → (b = false → ∃ ys, Qe ys H) → (b = true → Qf H) → R (.ok (.ret (.bool b))) s') :
    ∀ (n : Nat) (ys : List V) (s : Shared), GRun (gcx X A1 sg Hg ce fp) [] (fun _ _ => True) (cyB true Qf) Qe a g go A.in1.in1 n ys s → AllBare s.gens → codeAny (model X.prog X.w) A (.builtin "any.loop" ⟨[.ref a], []⟩) R s := by
  have E0 := F.entry_any_loop
  intro n
  induction n with
  | zero =>
    intro ys s G hb
    refine codeAny_builtin E0 ?_
    rw [Around.under_plainId F.plain_any_loop]
    refine wpAny_bind (thnF (gx_next M lnkN (by simp) (by simp) (A := A.in1) hh hd G hb (fun b hb => by cases hb) trivial) fun r s1 ⟨_, hN⟩ => ?_)
    cases r with
    | none =>
      obtain ⟨ys1, H1, I1, _, _, q1⟩ := hN
      exact wpAny_bind (wpAny_rule (wpAny_pure (fin s1 H1 false I1 (fun _ => ⟨ys1, q1⟩) (fun z => by cases z))))
    | some v =>
      obtain ⟨ys1, y, H1, Nx, I1, ry, _, _, ⟨b, rfl, q⟩, wake⟩ := hN
      cases ry
      refine wpAny_bind (wpAny_holding (wpAny_truthy_bool (wpAny_bind (wpAny_letGo ?_))))
      cases b with
      | false =>
        rw [if_neg (by decide)] at q
        obtain ⟨n', h, _⟩ := wake _ q s1 ⟨rfl, I1.bare, fun _ _ _ e => e, fun b hb => by cases hb⟩ trivial rfl
        cases h
      | true =>
        rw [if_pos rfl] at q
        exact wpAny_bind (wpAny_rule (wpAny_pure (fin s1 H1 true I1 (fun z => by cases z) (fun _ => q))))
  | succ n ih =>
    intro ys s G hb
    refine codeAny_builtin E0 ?_
    rw [Around.under_plainId F.plain_any_loop]
    refine wpAny_bind (thnF (gx_next M lnkN (by simp) (by simp) (A := A.in1) hh hd G hb (fun b hb => by cases hb) trivial) fun r s1 ⟨_, hN⟩ => ?_)
    cases r with
    | none =>
      obtain ⟨ys1, H1, I1, _, _, q1⟩ := hN
      exact wpAny_bind (wpAny_rule (wpAny_pure (fin s1 H1 false I1 (fun _ => ⟨ys1, q1⟩) (fun z => by cases z))))
    | some v =>
      obtain ⟨ys1, y, H1, Nx, I1, ry, _, _, ⟨b, rfl, q⟩, wake⟩ := hN
      cases ry
      refine wpAny_bind (wpAny_holding (wpAny_truthy_bool (wpAny_bind (wpAny_letGo ?_))))
      cases b with
      | false =>
        rw [if_neg (by decide)] at q
        obtain ⟨n', h, G'⟩ := wake _ q s1 ⟨rfl, I1.bare, fun _ _ _ e => e, fun b hb => by cases hb⟩ trivial rfl
        cases h
        exact wpAny_pure ⟨plainId_quiet F.plain_any_loop _, ih _ s1 G' I1.bare⟩
      | true =>
        rw [if_pos rfl] at q
        exact wpAny_bind (wpAny_rule (wpAny_pure (fin s1 H1 true I1 (fun z => by cases z) (fun _ => q))))
theorem gx_sum (M : GMk X pins σ sg Hg fp a g go) (hh : A.handled = none) (hd : A.depth < recursionLimit) (hSa : a ∉ [S]) (hSc : cStatics ∉ [S])
    (fin : ∀ (s' : Shared) (ys : List V) (H : Hp) (t : Tok), Inv X pins σ H s' → H S = none → Qe ys H → R (.ok (.ret (.int (sumV ys) t))) s') :
    ∀ (n : Nat) (ys : List V) (s : Shared), GRun (gcx X A1 sg Hg ce fp) [S] (LkS S) cyS Qe a g go A.in1.in1 n ys s → LkS S ys s.heap → AllBare s.gens → codeAny (model X.prog X.w) A (.builtin "sum.loop" ⟨[.ref a, .ref S, rawInt 0, rawInt 0], []⟩) R s := by
  have E0 := F.entry_sum_loop
  have cwt : ∀ {ys : List V} {s : Shared}, LkS S ys s.heap → ∀ b ∈ [S], ∃ o, s.heap.get? b = some o ∧ ∀ v, o.data ≠ .cell v := fun {ys s} lk b hb => by
    obtain ⟨t, c, e⟩ := lk
    rw [List.mem_singleton.mp hb]
    exact ⟨_, e, fun v z => by cases z⟩
  have turn : ∀ (n : Nat) (ys : List V) (s : Shared), GRun (gcx X A1 sg Hg ce fp) [S] (LkS S) cyS Qe a g go A.in1.in1 n ys s → LkS S ys s.heap → AllBare s.gens →
      (∀ ys2 s2, (∃ n', n = n' + 1 ∧ GRun (gcx X A1 sg Hg ce fp) [S] (LkS S) cyS Qe a g go A.in1.in1 n' ys2 s2) → LkS S ys2 s2.heap → AllBare s2.gens → codeAny (model X.prog X.w) A (.builtin "sum.loop" ⟨[.ref a, .ref S, rawInt 0, rawInt 0], []⟩) R s2) →
      codeAny (model X.prog X.w) A (.builtin "sum.loop" ⟨[.ref a, .ref S, rawInt 0, rawInt 0], []⟩) R s := by
    intro n ys s G lk hb next
    obtain ⟨t, c, eS⟩ := id lk
    refine codeAny_builtin E0 ?_
    rw [Around.under_plainId F.plain_sum_loop]
    show wpAny _ A.in1 (seqItems? (.ref S) >>= _) _ _ s
    refine wpAny_bind (wpAny_seqItems eS rfl ?_)
    show wpAny _ A.in1 (tryCatch (pyNext (.ref a)) _ >>= _) _ _ s
    refine wpAny_bind (wpAny_tryCatch (thnF (gx_next M (lnkS S) hSa hSc (A := A.in1) hh hd G hb (cwt lk) lk) fun r s1 ⟨kc, hN⟩ => ?_))
    have eS1 := kc S (List.mem_singleton.mpr rfl) _ eS
    cases r with
    | none =>
      obtain ⟨ys1, H1, I1, n1, ⟨t1, c1, e1⟩, q1⟩ := hN
      have hd1 := congrArg Obj.data (Option.some.inj (eS1.symm.trans e1))
      simp only [Data.seq.injEq, Array.mk.injEq, List.cons.injEq, Value.int.injEq, and_true] at hd1
      rw [hd1.1.1]
      exact wpAny_pure (fin s1 ys1 H1 _ I1 (n1 S (List.mem_singleton.mpr rfl)) q1)
    | some v =>
      obtain ⟨ys1, y, H1, Nx, I1, ry, n1, ⟨t1, c1, e1⟩, ⟨z, rfl, ⟨f1, f2⟩, ⟨f3, f4⟩, hN1⟩, wake⟩ := hN
      obtain ⟨tz, rfl⟩ := ry
      have hd1 := congrArg Obj.data (Option.some.inj (eS1.symm.trans e1))
      simp only [Data.seq.injEq, Array.mk.injEq, List.cons.injEq, Value.int.injEq, and_true] at hd1
      rw [hd1.1.1]
      have hc : ((decide (-(2 ^ 63) ≤ z) && decide (z < 2 ^ 63)) && (decide (-(2 ^ 63) ≤ sumV ys1 + z) && decide (sumV ys1 + z < 2 ^ 63))) = true := by
        simp only [Bool.and_eq_true, decide_eq_true_eq]
        exact ⟨⟨f1, f2⟩, f3, f4⟩
      show wpAny _ A.in1 (if (_ : Bool) = true then (mkInt (sumV ys1 + z) >>= _) else _) _ _ _
      split
      · refine wpAny_bind (wpAny_mkInt ?_)
        show wpAny _ A.in1 (updateSeq S (fun _ => #[.int (sumV ys1 + z) s1.toks]) >>= _) _ _ _
        have o1 := Heap.get?_update_self (Obj.mapSeq (fun _ => #[Value.int (sumV ys1 + z) s1.toks])) e1 rfl
        have lk2 : LkS S (ys1 ++ [.int z]) (s1.heap.update S (Obj.mapSeq (fun _ => #[Value.int (sumV ys1 + z) s1.toks]))) := ⟨s1.toks, _, by rw [sumV_snoc]; exact o1⟩
        refine wpAny_bind (wpAny_updateSeq e1 rfl (wpAny_pure ⟨plainId_quiet F.plain_sum_loop _, ?_⟩))
        refine next (ys1 ++ [.int z]) _ (wake _ hN1 { s1 with heap := s1.heap.update S (Obj.mapSeq (fun _ => #[Value.int (sumV ys1 + z) s1.toks])), toks := s1.toks + 1 } ⟨rfl, I1.bare, fun b o hb e => (Heap.get?_update_other _ _ (fun q => hb (List.mem_singleton.mpr q.symm))).trans e, cwt lk2⟩ lk2 rfl) lk2 I1.bare
      · rename_i hneg
        exact absurd hc hneg
  intro n
  induction n with
  | zero =>
    intro ys s G lk hb
    exact turn 0 ys s G lk hb fun ys2 s2 ⟨n', h, _⟩ => by cases h
  | succ n ih =>
    intro ys s G lk hb
    refine turn (n + 1) ys s G lk hb fun ys2 s2 ⟨n', h, G'⟩ lk2 hb2 => ?_
    cases h
    exact ih ys2 s2 G' lk2 hb2
end
end GXP
namespace GXP
open PySem PySem.Spec PyProof.Rows L2
section
variable {X : Cx} {pins : List (Addr × Obj)} {σ : L2.St} {a : Addr} {A : Around} {Qe : List V → Hp → Prop} {s : Shared} {m : Nat} {E : Value → Shared → Prop}
theorem gx_collect (hG : GReady X pins σ m cyT Qe a s) (hh : A.handled = none) (hf : A.frames = some X.stack) (hd : A.depth ≤ X.A.depth + 1) (hu : A.units + 2 ≤ X.A.units + 8) (hl : A.depth < recursionLimit) {Q : List Value → Shared → Prop}
    (hQ : ∀ (items : List Value) (s' : Shared) (ys : List V) (H : Hp), Inv X pins σ H s' → Vals ys items → ys.length ≤ sizeLine → Qe ys H → Q items s') : wpAny (model X.prog X.w) A (collect (.ref a)) Q E s := by
  obtain ⟨g, go, sg, Hg, fp, ce, M, I0, ha, lim, ready⟩ := hG.ex
  have hgen := fun (h : Heap) (e : h.get? a = some go) => M.isGen h e
  have hSa : s.heap.objs.size ≠ a := fun z => by
    have := Heap.lt_size ha
    rw [← z] at this
    exact Nat.lt_irrefl _ this
  have hSc : s.heap.objs.size ≠ cStatics := fun z => by
    obtain ⟨_, hn, _⟩ := lim
    have := hn.lt
    rw [← z] at this
    exact Nat.lt_irrefl _ this
  unfold collect
  refine wpAny_bind (wpAny_runValue (codeAny_builtin F.entry_proto_collect ?_))
  rw [Around.under_plainId F.plain_proto_collect]
  show wpAny _ A.in1 (newList [] >>= fun l => again (.builtin "list.__iadd__" ⟨[l, .ref a], []⟩)) _ _ s
  refine wpAny_bind (wpAny_newObj_type (wpAny_pure ⟨plainId_quiet F.plain_list_iadd _, codeAny_builtin F.entry_list_iadd ?_⟩))
  rw [Around.under_plainId F.plain_list_iadd]
  show wpAny _ A.in1 (Builtin.List.listExtendWith (.ref s.heap.objs.size) (.ref a) (.ref s.heap.objs.size)) _ _ _
  unfold Builtin.List.listExtendWith
  have k1 : ∀ b o, s.heap.get? b = some o → (s.heap.push { cls := .type "list", data := .seq ([] : List Value).toArray }).get? b = some o := fun b o e => Heap.get?_push_of_some _ e
  refine wpAny_bind (wpAny_typeOf (Heap.IsGen.typeIs (s := { s with heap := _ }) (hgen _ (k1 _ _ ha))) ?_)
  have q1 : Builtin.List.listSameRef (.ref s.heap.objs.size) (.ref a) = false := by simp [Builtin.List.listSameRef, hSa]
  have q2 : (Value.type "generator" == Value.type "list") = false := by decide
  have q3 : (Value.type "generator" == Value.type "tuple") = false := by decide
  simp only [q1, q2, q3, Bool.or_false, Bool.false_eq_true, if_false]
  refine wpAny_bind (wpAny_pyIter_gen (s := { s with heap := _ }) (hgen _ (k1 _ _ ha)) (wpAny_bind (wpAny_holding ?_)))
  unfold Builtin.List.listLengthHint
  refine wpAny_bind (wpAny_specialOf (Heap.IsGen.typeIs (s := { s with heap := _ }) (hgen _ (k1 _ _ ha))) F.gen_no_len ?_)
  show wpAny _ A.in1 (specialOf (Value.ref a) (Str.ofString "__length_hint__") >>= _) _ _ _
  refine wpAny_bind (wpAny_specialOf (Heap.IsGen.typeIs (s := { s with heap := _ }) (hgen _ (k1 _ _ ha))) F.gen_no_hint (wpAny_pure ?_))
  show wpAny _ A.in1 (rule "list.extend.makes-room" >>= fun _ => Builtin.List.listTouch (.ref s.heap.objs.size) >>= fun _ =>
    again (.builtin "list.extend.loop" ⟨[.ref s.heap.objs.size, .ref a, .ref s.heap.objs.size], []⟩)) _ _ _
  refine wpAny_bind (wpAny_rule (wpAny_bind ?_))
  have o1 : (s.heap.push { cls := .type "list", data := .seq ([] : List Value).toArray }).get? s.heap.objs.size = some { cls := .type "list", data := .seq ([] : List Value).toArray } := Heap.get?_push_size _ rfl
  show wpAny _ A.in1 (updateSeq s.heap.objs.size (·.push .none) >>= fun _ => updateSeq s.heap.objs.size (·.pop)) _ _ _
  refine wpAny_bind (wpAny_updateSeq o1 rfl ?_)
  have o2 := Heap.get?_update_self (Obj.mapSeq (·.push Value.none)) o1 rfl
  refine wpAny_updateSeq o2 rfl (wpAny_pure ⟨plainId_quiet F.plain_extend_loop _, ?_⟩)
  have o3 := Heap.get?_update_self (Obj.mapSeq (·.pop)) o2 rfl
  have k3 : ∀ b o, s.heap.get? b = some o → (((s.heap.push { cls := .type "list", data := .seq ([] : List Value).toArray }).update s.heap.objs.size (Obj.mapSeq (·.push Value.none))).update s.heap.objs.size (Obj.mapSeq (·.pop))).get? b = some o := fun b o e =>
    have hb : s.heap.objs.size ≠ b := fun z => Nat.lt_irrefl b (by have := Heap.lt_size e; rw [z] at this; exact this)
    (Heap.get?_update_other _ _ hb).trans ((Heap.get?_update_other _ _ hb).trans (k1 b o e))
  have lk0 : LkT s.heap.objs.size [] (((s.heap.push { cls := .type "list", data := .seq ([] : List Value).toArray }).update s.heap.objs.size (Obj.mapSeq (·.push Value.none))).update s.heap.objs.size (Obj.mapSeq (·.pop))) := ⟨_, _, o3, .nil, Nat.zero_le _⟩
  have G := ready [s.heap.objs.size] (LkT s.heap.objs.size) A.in1.in1 { s with heap := ((s.heap.push { cls := .type "list", data := .seq ([] : List Value).toArray }).update s.heap.objs.size (Obj.mapSeq (·.push Value.none))).update s.heap.objs.size (Obj.mapSeq (·.pop)) } (lnkT _) hh hf hd hu
    (fun b hb => by rw [List.mem_singleton.mp hb]; exact Nat.le_refl _) k3 (fun b hb => by rw [List.mem_singleton.mp hb]; exact ⟨_, o3, fun v z => by cases z⟩) rfl rfl lk0
  refine gx_drain M hh hl (fun hm => hSa (List.mem_singleton.mp hm).symm) (fun hm => hSc (List.mem_singleton.mp hm).symm) (fun s' ys H acc c I' n' e' r' z' q' => ?_) m [] _ G lk0 I0.bare
  show wpAny _ A (load s.heap.objs.size >>= _) _ _ s'
  exact wpAny_bind (wpAny_load e' (wpAny_pure (hQ acc.toList s' ys H I' r' z' q')))
theorem call_tuple_gx (hr : Room 1 X.A) (hf : X.A.frames = some X.stack) {Q : VK} (hG : GReady X pins σ m cyT (fun ys H => ∀ p, H p = none → Q (.ref p) (upd H p (.tup ys))) a s) :
    wpAny (model X.prog X.w) X.A (call (.type "tuple") [.ref a]) (EP X pins σ Q) E s := by
  obtain ⟨g, go, sg, Hg, fp, ce, M, I0, ha, lim, ready⟩ := id hG.ex
  have hTI : s.TypeIs (.ref a) "generator" := (M.isGen _ ha).typeIs
  refine callType_codes (Q₁ := fun obj s1 => s1.TypeIs obj "tuple" ∧ EP X pins σ Q obj s1) F.called_tuple (F.typeCall_tuple_1 _) F.entry_object_init (codeAny_of_tree ?_) fun obj s1 h1 =>
    ⟨h1.1, F.args_object_init_2 obj _, object_init_meets F.called_tuple.init.lookup F.called_tuple.made (by decide) X.prog X.w X.A.in1 _ s1 ⟨h1.1, rfl, h1.2⟩⟩
  show wpAny _ X.A.in1.in1 (do checkBuiltinCall "tuple.__new__" ⟨[.type "tuple", .ref a], []⟩; again (.builtin "tuple.__new__" ⟨[.type "tuple", .ref a], []⟩)) _ _ s
  refine wpAny_bind (wpAny_of_eq (F.newCall_tuple_1 _) (wpAny_pure ⟨plainId_quiet F.plain_tuple_new _, codeAny_builtin F.entry_tuple_new ?_⟩))
  rw [Around.under_plainId F.plain_tuple_new]
  have hsub := sub_tuple_self
  have hinit := init_tuple_lookup
  have hmh := madeHere_tuple
  have hr1 := hr.dp
  have hr2 := hr.hd
  have col := fun (Q : List Value → Shared → Prop) (E : Value → Shared → Prop) hQ => gx_collect (A := X.A.in1.in1) (E := E) (Q := Q) hG hr2 hf (Nat.le_succ _) (by show X.A.units + 1 + 1 + 2 ≤ _; omega) (by show X.A.depth < _; omega) hQ
  wp_walk using wpAny_typeOf hTI, col
  intro items s' ys H I' r' z' q'
  show wpAny _ _ (Builtin.Tuple.tupleExact items.toArray >>= fun v => ret v) _ _ _
  unfold Builtin.Tuple.tupleExact
  refine wpAny_bind (wpAny_newObj_type (wpAny_pure ?_) ?_)
  · have hn : H s'.heap.objs.size = none := I'.hok.fresh (Nat.le_refl _)
    refine ⟨⟨_, Heap.get?_push_size _ rfl, rfl⟩, .ref s'.heap.objs.size, _, I'.laid (t' := s'.toks) (o := .tup ys) (fun b o e => Heap.get?_push_of_some _ e) (Nat.le_refl _) ⟨z', items, r', ?_⟩, rfl, q' _ hn⟩
    exact ⟨_, Heap.get?_push_size _ rfl, rfl, 0, rfl⟩
  · show items.toArray.size ≤ sizeLine
    rw [List.size_toArray, ← r'.length]
    exact z'
theorem call_all_gx (hr : Room 1 X.A) (hf : X.A.frames = some X.stack) {Q : VK} (hG : GReady X pins σ m (cyB false (Q (.bl false))) (fun _ H => Q (.bl true) H) a s) :
    wpAny (model X.prog X.w) X.A (call (.builtin "all") [.ref a]) (EP X pins σ Q) E s := by
  obtain ⟨g, go, sg, Hg, fp, ce, M, I0, ha, lim, ready⟩ := id hG.ex
  have hr1 := hr.dp
  refine call_function_tree F.kind_all F.plain_all F.entry_all (F.args_all1 _) ?_
  unfold Builtin.«all»
  refine wpAny_bind (m := oneArg "all" _) (wpAny_pure (wpAny_bind (wpAny_pyIter_gen (M.isGen _ ha) (wpAny_pure ⟨plainId_quiet F.plain_all_loop _, ?_⟩))))
  have G := ready [] (fun _ _ => True) X.A.in1.in1 s lnkN hr.hd hf (Nat.le_succ _) (by show X.A.units + 1 + 1 ≤ _; omega) (fun b hb => by cases hb) (fun _ _ e => e) (fun b hb => by cases hb) rfl rfl trivial
  refine gx_all M hr.hd (by omega) (fun s' H b I' h1 h2 => ?_) m [] s G I0.bare
  cases b with
  | true =>
    obtain ⟨_, q⟩ := h1 rfl
    exact ⟨.bl true, H, I', rfl, q⟩
  | false => exact ⟨.bl false, H, I', rfl, h2 rfl⟩
theorem call_any_gx (hr : Room 1 X.A) (hf : X.A.frames = some X.stack) {Q : VK} (hG : GReady X pins σ m (cyB true (Q (.bl true))) (fun _ H => Q (.bl false) H) a s) :
    wpAny (model X.prog X.w) X.A (call (.builtin "any") [.ref a]) (EP X pins σ Q) E s := by
  obtain ⟨g, go, sg, Hg, fp, ce, M, I0, ha, lim, ready⟩ := id hG.ex
  have hr1 := hr.dp
  refine call_function_tree F.kind_any F.plain_any F.entry_any (F.args_any1 _) ?_
  unfold Builtin.«any»
  refine wpAny_bind (m := oneArg "any" _) (wpAny_pure (wpAny_bind (wpAny_pyIter_gen (M.isGen _ ha) (wpAny_pure ⟨plainId_quiet F.plain_any_loop _, ?_⟩))))
  have G := ready [] (fun _ _ => True) X.A.in1.in1 s lnkN hr.hd hf (Nat.le_succ _) (by show X.A.units + 1 + 1 ≤ _; omega) (fun b hb => by cases hb) (fun _ _ e => e) (fun b hb => by cases hb) rfl rfl trivial
  refine gx_any M hr.hd (by omega) (fun s' H b I' h1 h2 => ?_) m [] s G I0.bare
  cases b with
  | false =>
    obtain ⟨_, q⟩ := h1 rfl
    exact ⟨.bl false, H, I', rfl, q⟩
  | true => exact ⟨.bl true, H, I', rfl, h2 rfl⟩
theorem call_sum_gx (hr : Room 1 X.A) (hf : X.A.frames = some X.stack) {Q : VK} (hG : GReady X pins σ m cyS (fun ys H => Q (.int (sumV ys)) H) a s) :
    wpAny (model X.prog X.w) X.A (call (.builtin "sum") [.ref a]) (EP X pins σ Q) E s := by
  obtain ⟨g, go, sg, Hg, fp, ce, M, I0, ha, lim, ready⟩ := id hG.ex
  have hr1 := hr.dp
  have hSa : s.heap.objs.size ≠ a := fun z => by
    have := Heap.lt_size ha
    rw [← z] at this
    exact Nat.lt_irrefl _ this
  have hSc : s.heap.objs.size ≠ cStatics := fun z => by
    obtain ⟨_, hn, _⟩ := lim
    have := hn.lt
    rw [← z] at this
    exact Nat.lt_irrefl _ this
  refine call_function_tree F.kind_sum F.plain_sum F.entry_sum (F.args_sum1 _) ?_
  unfold Builtin.«sum»
  simp only [List.length_cons, List.length_nil]; rw [if_neg (by decide)]
  refine wpAny_bind (wpAny_of_eq (show Builtin.Builtins.bindParams "sum" ["start"] 0 { } = pure [none] from rfl) (wpAny_bind (wpAny_pyIter_gen (M.isGen _ ha) (wpAny_bind (wpAny_mkInt (wpAny_bind (wpAny_pure ?_)))))))
  simp only [List.forIn_cons, List.forIn_nil]; refine wpAny_bind (wpAny_bind (wpAny_bind (wpAny_isInstance (T := "int") (b := false) (typeIs_int _ _ _) PySem.sub_int_str ?_)))
  simp only [Bool.false_eq_true, if_false]; refine wpAny_pure (wpAny_bind (wpAny_bind (wpAny_isInstance (T := "int") (b := false) (typeIs_int _ _ _) sub_int_bytes ?_)))
  simp only [Bool.false_eq_true, if_false]; refine wpAny_pure (wpAny_bind (wpAny_bind (wpAny_isInstance (T := "int") (b := false) (typeIs_int _ _ _) sub_int_bytearray ?_)))
  simp only [Bool.false_eq_true, if_false]; refine wpAny_pure (wpAny_pure (wpAny_bind (wpAny_newObj_type (wpAny_pure ⟨plainId_quiet F.plain_sum_loop _, ?_⟩))))
  have o1 : (s.heap.push { cls := .type "list", data := .seq ([.int 0 s.toks] : List Value).toArray }).get? s.heap.objs.size = some { cls := .type "list", data := .seq ([.int 0 s.toks] : List Value).toArray } := Heap.get?_push_size _ rfl
  have lk0 : LkS s.heap.objs.size [] (s.heap.push { cls := .type "list", data := .seq ([.int 0 s.toks] : List Value).toArray }) := ⟨s.toks, 0, o1⟩
  have G := ready [s.heap.objs.size] (LkS s.heap.objs.size) X.A.in1.in1 { s with heap := s.heap.push { cls := .type "list", data := .seq ([.int 0 s.toks] : List Value).toArray }, toks := s.toks + 1 } (lnkS _) hr.hd hf (Nat.le_succ _) (by show X.A.units + 1 + 1 ≤ _; omega)
    (fun b hb => by rw [List.mem_singleton.mp hb]; exact Nat.le_refl _) (fun b o e => Heap.get?_push_of_some _ e) (fun b hb => by rw [List.mem_singleton.mp hb]; exact ⟨_, o1, fun v z => by cases z⟩) rfl rfl lk0
  refine gx_sum M hr.hd (by omega) (fun hm => hSa (List.mem_singleton.mp hm).symm) (fun hm => hSc (List.mem_singleton.mp hm).symm) (fun s' ys H t I' n' q' => ?_) m [] _ G lk0 I0.bare
  exact ⟨.int (sumV ys), H, I', ⟨t, rfl⟩, q'⟩
end
end GXP
namespace GXP
open PySem PySem.Spec PyProof.Rows L2
/-- F(elt for target in iter if ..): what its reading asks; P the table of the def's code object -/
def tGx (P : Addr) (wi : TI) (g : TG) (tt : TT) (te : TE) (vs : List Nat) (cy : VK → Cy) (Qe : VK → List V → Hp → Prop) : TE := fun σ H Q =>
  wi σ H fun J H1 => GxR.TabG H1 P ∧ ∀ H2, GxR.Tabbed P H1 H2 → ∃ W m, W 0 m [] H2 ∧ Turns J g tt te vs σ (cy Q) (Qe Q) W
section
variable {X : Cx} {c P : Addr} {elt iter tg : Expr} {ifs : List Expr} {scope : Scope} {p pos gpos : Pos} {own : List (Str × Nat)} {wi : TI} {g : TG} {tt : TT} {te : TE} {k : Nat}
/-- what is asked of the expression itself -/
structure GxOk (X : Cx) (k : Nat) (c P : Addr) (elt tg iter : Expr) (ifs : List Expr) (scope : Scope) (own : List (Str × Nat)) (wi : TI) (g : TG) (tt : TT) (te : TE) : Prop where
  hr : Room (k + 1) X.A
  hc : X.calm = true
  tb : LamX.TabB X.base X.mg c P
  code : X.env.code = .ref c
  co : scope.isCoroutine = false
  ok : BlkOk X.N X.env.scope scope own
  nd : X.N.Nodup
  nocell : ∀ y ∈ scope.names, y.2 ≠ .cell
  dot : scope.names.lookup (".0" : Str) = some NameKind.local
  pi : PI X tg iter wi
  pg : ∀ (A : Around) (s : Shared) (H : Hp) (C : Addr) (cl : List (Str × Addr)) (code : Value) (bi : Addr) (fp : List Addr), Room k A → PG (gcx X A s H (genEnv scope cl C code bi X.env) fp) tg g
  pt : ∀ (A : Around) (s : Shared) (H : Hp) (C : Addr) (cl : List (Str × Addr)) (code : Value) (bi : Addr) (fp : List Addr), Room k A → PTs (gcx X A s H (genEnv scope cl C code bi X.env) fp) ifs tt
  pe : ∀ (A : Around) (s : Shared) (H : Hp) (C : Addr) (cl : List (Str × Addr)) (code : Value) (bi : Addr) (fp : List Addr), Room k A → PE (gcx X A s H (genEnv scope cl C code bi X.env) fp) elt te
  fold : ∀ v, genFold iter X.env v = pure v
theorem GxOk.make (G : GxOk X k c P elt tg iter ifs scope own wi g tt te) {cy : Cy} {Qe : List V → Hp → Prop} {pins : List (Addr × Obj)} {s : Shared} {σ : L2.St} {H : Hp} (I : Inv X pins σ H s)
    (h : wi σ H fun J H1 => GxR.TabG H1 P ∧ ∀ H2, GxR.Tabbed P H1 H2 → ∃ W m, W 0 m [] H2 ∧ Turns J g tt te (own.map (·.2)) σ cy Qe W) :
    wpAny (model X.prog X.w) X.A (eval (gxE elt tg iter ifs scope gpos) X.env) (fun u s' => ∃ a m, u = .ref a ∧ GReady X pins σ m cy Qe a s') X.xe s :=
  gx_make G.hr G.tb G.code G.co G.ok G.nd G.nocell G.dot G.pi G.pg G.pt G.pe G.fold I h
theorem pe_tupleGx (hg : Gl X "tuple") (hm : X.mg "tuple" = none) (G : GxOk X k c P elt tg iter ifs scope own wi g tt te)
    (he : starEach [gxE elt tg iter ifs scope gpos] X.env = (false, eval (gxE elt tg iter ifs scope gpos) X.env) :: starEach [] X.env := by rfl) :
    PE X (.Call (.Name "tuple" p) [gxE elt tg iter ifs scope gpos] [] pos) (tGx P wi g tt te (own.map (·.2)) (fun _ => cyT) fun Q ys H => ∀ p, H p = none → Q (.ref p) (upd H p (.tup ys))) := by
  refine ⟨fun pins s σ H Q I h => ?_⟩
  refine wpAny_Call_Name_kw (ld_blt I hg hm (by decide +kernel : bootBuiltins "tuple" = some (.type "tuple")) (PyProof.Rows.callWith_type1 ?_ he (by rfl)))
  rw [he]
  show wpAny _ _ (spliced ((false, eval (gxE elt tg iter ifs scope gpos) X.env) :: backTo pos (starEach [] X.env))) _ _ s
  exact Calls.spliced_cons (thn (G.make I h) fun u s1 ⟨a, m, e, hG⟩ => e ▸ Calls.spliced_nil (call_tuple_gx (G.hr.mono (by omega)) I.ok.frames hG))
theorem pe_allGx (hg : Gl X "all") (hm : X.mg "all" = none) (G : GxOk X k c P elt tg iter ifs scope own wi g tt te)
    (he : starEach [gxE elt tg iter ifs scope gpos] X.env = (false, eval (gxE elt tg iter ifs scope gpos) X.env) :: starEach [] X.env := by rfl) :
    PE X (.Call (.Name "all" p) [gxE elt tg iter ifs scope gpos] [] pos) (tGx P wi g tt te (own.map (·.2)) (fun Q => cyB false (Q (.bl false))) fun Q _ H => Q (.bl true) H) := by
  refine ⟨fun pins s σ H Q I h => ?_⟩
  refine wpAny_Call_Name_kw (ld_blt I hg hm (by decide +kernel : bootBuiltins "all" = some (.builtin "all")) (PyProof.Rows.callWith_builtin1 ?_ he (by rfl)))
  rw [he]
  show wpAny _ _ (spliced ((false, eval (gxE elt tg iter ifs scope gpos) X.env) :: backTo pos (starEach [] X.env))) _ _ s
  exact Calls.spliced_cons (thn (G.make I h) fun u s1 ⟨a, m, e, hG⟩ => e ▸ Calls.spliced_nil (call_all_gx (G.hr.mono (by omega)) I.ok.frames hG))
theorem pe_anyGx (hg : Gl X "any") (hm : X.mg "any" = none) (G : GxOk X k c P elt tg iter ifs scope own wi g tt te)
    (he : starEach [gxE elt tg iter ifs scope gpos] X.env = (false, eval (gxE elt tg iter ifs scope gpos) X.env) :: starEach [] X.env := by rfl) :
    PE X (.Call (.Name "any" p) [gxE elt tg iter ifs scope gpos] [] pos) (tGx P wi g tt te (own.map (·.2)) (fun Q => cyB true (Q (.bl true))) fun Q _ H => Q (.bl false) H) := by
  refine ⟨fun pins s σ H Q I h => ?_⟩
  refine wpAny_Call_Name_kw (ld_blt I hg hm (by decide +kernel : bootBuiltins "any" = some (.builtin "any")) (PyProof.Rows.callWith_builtin1 ?_ he (by rfl)))
  rw [he]
  show wpAny _ _ (spliced ((false, eval (gxE elt tg iter ifs scope gpos) X.env) :: backTo pos (starEach [] X.env))) _ _ s
  exact Calls.spliced_cons (thn (G.make I h) fun u s1 ⟨a, m, e, hG⟩ => e ▸ Calls.spliced_nil (call_any_gx (G.hr.mono (by omega)) I.ok.frames hG))
theorem pe_sumGx (hg : Gl X "sum") (hm : X.mg "sum" = none) (G : GxOk X k c P elt tg iter ifs scope own wi g tt te)
    (he : starEach [gxE elt tg iter ifs scope gpos] X.env = (false, eval (gxE elt tg iter ifs scope gpos) X.env) :: starEach [] X.env := by rfl) :
    PE X (.Call (.Name "sum" p) [gxE elt tg iter ifs scope gpos] [] pos) (tGx P wi g tt te (own.map (·.2)) (fun _ => cyS) fun Q ys H => Q (.int (sumV ys)) H) := by
  refine ⟨fun pins s σ H Q I h => ?_⟩
  refine wpAny_Call_Name_kw (ld_blt I hg hm (by decide +kernel : bootBuiltins "sum" = some (.builtin "sum")) (PyProof.Rows.callWith_builtin1 ?_ he (by rfl)))
  rw [he]
  show wpAny _ _ (spliced ((false, eval (gxE elt tg iter ifs scope gpos) X.env) :: backTo pos (starEach [] X.env))) _ _ s
  exact Calls.spliced_cons (thn (G.make I h) fun u s1 ⟨a, m, e, hG⟩ => e ▸ Calls.spliced_nil (call_sum_gx (G.hr.mono (by omega)) I.ok.frames hG))
end
/-! readings over a list, a tuple, a range: an invariant by the turn, the items so far, the heap -/
section
variable {K : PySem.W.Frag} {a : Addr} {xs : List V} {g : TG} {tt : TT} {te : TE} {vs : List Nat} {σ : L2.St} {cy : Cy} {Qe : List V → Hp → Prop} {H0 : Hp}
theorem gx_tup (Pv : Nat → List V → Hp → Prop) (h0 : Pv 0 [] H0) (hl : ∀ i ys H, i ≤ xs.length → Pv i ys H → SqT K H a xs)
    (hs : ∀ i x ys H, xs[i]? = some x → Pv i ys H → g x (wipe σ vs) H fun σ2 H2 => wipe σ2 vs = wipe σ vs ∧ tt σ2 H2 fun b H3 => if b = true then te σ2 H3 fun y H4 => cy ys y H4 (Pv (i + 1)) else Pv (i + 1) ys H3)
    (hd : ∀ ys H, Pv xs.length ys H → Qe ys H) : ∃ W m, W 0 m [] H0 ∧ Turns (Itt K a) g tt te vs σ cy Qe W := by
  refine ⟨fun i m ys H => m = xs.length - i ∧ i ≤ xs.length ∧ Pv i ys H, xs.length, ⟨rfl, Nat.zero_le _, h0⟩, ?_⟩
  rintro i m ys H ⟨rfl, hi, p⟩
  have q := hl i ys H hi p
  by_cases hlt : i < xs.length
  · refine .inr ⟨⟨xs, _, q, List.getElem?_eq_getElem hlt⟩, by omega, Pv (i + 1), fun ys' H' p' => ⟨_, by omega, rfl, hlt, p'⟩, fun x H' y => ?_⟩
    obtain ⟨rfl, y⟩ := y
    exact hs i x ys _ (y xs q) p
  · have e : i = xs.length := by omega
    subst e
    exact .inl ⟨⟨xs, q, Nat.le_refl _⟩, hd ys H p⟩
theorem gx_list (Pv : Nat → List V → Hp → Prop) (h0 : Pv 0 [] H0) (hl : ∀ i ys H, i ≤ xs.length → Pv i ys H → SqL K H a xs)
    (hs : ∀ i x ys H, xs[i]? = some x → Pv i ys H → g x (wipe σ vs) H fun σ2 H2 => wipe σ2 vs = wipe σ vs ∧ tt σ2 H2 fun b H3 => if b = true then te σ2 H3 fun y H4 => cy ys y H4 (Pv (i + 1)) else Pv (i + 1) ys H3)
    (hd : ∀ ys H, Pv xs.length ys H → Qe ys H) : ∃ W m, W 0 m [] H0 ∧ Turns (Itl K a) g tt te vs σ cy Qe W := by
  refine ⟨fun i m ys H => m = xs.length - i ∧ i ≤ xs.length ∧ Pv i ys H, xs.length, ⟨rfl, Nat.zero_le _, h0⟩, ?_⟩
  rintro i m ys H ⟨rfl, hi, p⟩
  have q := hl i ys H hi p
  by_cases hlt : i < xs.length
  · refine .inr ⟨⟨xs, _, q, List.getElem?_eq_getElem hlt⟩, by omega, Pv (i + 1), fun ys' H' p' => ⟨_, by omega, rfl, hlt, p'⟩, fun x H' y => ?_⟩
    obtain ⟨rfl, y⟩ := y
    exact hs i x ys _ (y xs q) p
  · have e : i = xs.length := by omega
    subst e
    exact .inl ⟨⟨xs, q, Nat.le_refl _⟩, hd ys H p⟩
theorem gx_range {lo : Int} {n : Nat} (Pv : Nat → List V → Hp → Prop) (h0 : Pv 0 [] H0)
    (hs : ∀ i ys H, i < n → Pv i ys H → g (.int (lo + i)) (wipe σ vs) H fun σ2 H2 => wipe σ2 vs = wipe σ vs ∧ tt σ2 H2 fun b H3 => if b = true then te σ2 H3 fun y H4 => cy ys y H4 (Pv (i + 1)) else Pv (i + 1) ys H3)
    (hd : ∀ ys H, Pv n ys H → Qe ys H) : ∃ W m, W 0 m [] H0 ∧ Turns (Itr lo n) g tt te vs σ cy Qe W := by
  refine ⟨fun i m ys H => m = n - i ∧ i ≤ n ∧ Pv i ys H, n, ⟨rfl, Nat.zero_le _, h0⟩, ?_⟩
  rintro i m ys H ⟨rfl, hi, p⟩
  by_cases hlt : i < n
  · refine .inr ⟨hlt, by omega, Pv (i + 1), fun ys' H' p' => ⟨_, by omega, rfl, hlt, p'⟩, fun x H' y => ?_⟩
    obtain ⟨rfl, rfl⟩ := y
    exact hs i ys _ hlt p
  · have e : i = n := by omega
    subst e
    exact .inl ⟨Nat.le_refl _, hd ys H p⟩
end
end GXP
/-! ### sorted(d) of a dict whose keys are pairs of ints, any number of them -/
namespace SDT
open PySem PySem.Spec PyProof.Rows L2
def keyAt (H : Hp) (b : Addr) : Int × Int := match H b with
  | some (.tup [.int i, .int j]) => (i, j)
  | _ => (0, 0)
def keyOf (H : Hp) (v : Value) : Int × Int := match v with
  | .ref b => keyAt H b
  | _ => (0, 0)
theorem keyAt_of {H : Hp} {b : Addr} {i j : Int} (e : H b = some (.tup [.int i, .int j])) : keyAt H b = (i, j) := by
  unfold keyAt
  rw [e]
def pairKey (k : Int × Int) : List Key := [Sum.inl k.1, Sum.inl k.2]
/-- b holds the pair k -/
abbrev PairAt (H : Hp) (k : Int × Int) (b : Addr) : Prop := H b = some (.tup [.int k.1, .int k.2])
def rSortedDT : List V → Hp → VK → Prop := fun vs H Q => ∃ (d : Addr) (kvs : List (List Key × V)) (ks : List (Int × Int)), vs = [V.ref d] ∧ Rd H d (.dT kvs) ∧ kvs.map (·.1) = ks.map pairKey ∧
  ∀ (ys : List (Int × Int)) (bs : List Addr) (p : Addr), ys.Perm ks → ys.Pairwise (fun x y => SrtO.lexB y x = false) → Paired (PairAt H) ys bs → H p = none → Q (.ref p) (upd H p (.lst (bs.map V.ref)))
theorem paired_keys {H : Hp} : ∀ {kvs : List (List Key × V)} {xs : List (List Key × Addr × Value)} {ks : List (Int × Int)}, KT H kvs xs → kvs.map (·.1) = ks.map pairKey → (∀ x ∈ xs, ∃ k : Int × Int, PairAt H k x.2.1) ∧ xs.map (fun x => keyAt H x.2.1) = ks
  | _, _, [], .nil, _ => ⟨fun x m => absurd m List.not_mem_nil, rfl⟩
  | _, _, _ :: _, .nil, e => by cases e
  | _, _, [], .cons _ _, e => by cases e
  | _, _, k :: ks, .cons h t, e => by
    obtain ⟨e1, e2⟩ := List.cons.inj e
    obtain ⟨h1, h2, _⟩ := h
    dsimp only at e1
    rw [e1] at h2
    have q : PairAt H k _ := h2
    obtain ⟨r1, r2⟩ := paired_keys t e2
    refine ⟨fun x m => ?_, ?_⟩
    · rcases List.mem_cons.mp m with rfl | m
      · exact ⟨k, q⟩
      · exact r1 x m
    · rw [List.map_cons, keyAt_of q, r2]
theorem paired_of {H : Hp} : ∀ {bs : List Addr}, (∀ b ∈ bs, ∃ k : Int × Int, PairAt H k b) → Paired (PairAt H) (bs.map (keyAt H)) bs
  | [], _ => .nil
  | b :: bs, h => by
    refine .cons ?_ (paired_of fun x m => h x (List.mem_cons_of_mem _ m))
    obtain ⟨k, e⟩ := h b List.mem_cons_self
    rw [keyAt_of e]
    exact e
theorem refs_of : ∀ {us : List Value}, (∀ u ∈ us, ∃ a, u = Value.ref a) → ∃ bs : List Addr, us = bs.map Value.ref
  | [], _ => ⟨[], rfl⟩
  | u :: us, h => by
    obtain ⟨bs, e⟩ := refs_of (us := us) fun x m => h x (List.mem_cons_of_mem _ m)
    obtain ⟨a, e2⟩ := h u List.mem_cons_self
    exact ⟨a :: bs, by rw [e, e2]; rfl⟩
section
variable {X : Cx}
theorem cr_sortedDT (hc : X.calm = true) : CallR X (.builtin "sorted") rSortedDT := by
  intro pins s σ H xs us Q I r h
  obtain ⟨d, kvs, ks, rfl, hd, hks, q⟩ := h
  obtain ⟨u, rfl, rx⟩ := vals1 r
  cases rx
  obtain ⟨z, hs, ps, pr, o, es, ep, ho, hx, hdt, he, hn⟩ := (show ObjOk X.prog X.w H s.heap d (.dT kvs) from hd.ok I.hok)
  have l1 : es.size = ps.length := size_of_entries he
  have l2 : kvs.length = ps.length := Paired.length pr
  obtain ⟨pk, ek⟩ := paired_keys pr hks
  refine Calls.call_function_entry PyProof.Rows.kind_sorted PyProof.Rows.plain_sorted PyProof.Rows.entry_sorted (PyProof.Rows.args_sorted1 _) ?_
  unfold Builtin.«sorted»
  refine wpAny_bind (m := checkCount "sorted" 1 1 _) (wpAny_pure ?_)
  refine wpAny_bind (PySem.W.kdu_collect (A := X.A.in1) (kdl_raw hs hx hdt) (I.ok.hd hc) ho (by omega) fun h' tk acc hk it => ?_)
  have ea : acc.toList = ps.map fun x => Value.ref x.2.1 := by
    have hl : acc.toList.length = ps.length := by rw [Array.length_toList, it.1]; exact l1
    apply List.ext_getElem?
    intro j
    rw [List.getElem?_map]
    cases hj : acc.toList[j]? with
    | none =>
      have h1 := List.getElem?_eq_none_iff.mp hj
      rw [List.getElem?_eq_none (by omega)]
      all_goals rfl
    | some v =>
      obtain ⟨en, hen, hv⟩ := it.2 j v (by rw [← Array.getElem?_toList]; exact hj)
      have qe := entry_at he j
      rw [hen] at qe
      cases hb : ps[j]? with
      | none =>
        rw [hb] at qe
        exact nomatch (show some en = none from qe)
      | some b =>
        rw [hb] at qe
        have e2 : en = entryOfKey (tupleKind (mixKind X.prog X.w)) b := Option.some.inj qe
        rw [hv, e2]
        all_goals rfl
  have hal : acc.toList.length = ps.length := by rw [ea, List.length_map]
  have I1 : Inv X pins σ H { s with heap := h', toks := tk } := I.kept hk
  refine wpAny_bind (wpAny_newList ?_ (by rw [hal]; omega))
  have hoL : (h'.push (seqObj "list" acc.toList.toArray 0)).get? h'.objs.size = some (seqObj "list" acc.toList.toArray 0) := Heap.get?_push_size _ rfl
  show wpAny _ _ _ _ _ { s with heap := h'.push (seqObj "list" acc.toList.toArray 0), toks := tk }
  have pair : ∀ v ∈ acc.toList, Srt.IsPair (h'.push (seqObj "list" acc.toList.toArray 0)) v (keyOf H v).1 (keyOf H v).2 := fun v m => by
    rw [ea] at m
    obtain ⟨x, hm, rfl⟩ := List.mem_map.mp m
    obtain ⟨k, hk2⟩ := pk x hm
    obtain ⟨_, its2, r2, o2, ho2, hc2, n2, hd2⟩ := I1.hok _ _ hk2
    obtain ⟨u1, u2, rfl, ri, rj⟩ := vals2 r2
    obtain ⟨t1, rfl⟩ := ri
    obtain ⟨t2, rfl⟩ := rj
    have e : keyOf H (Value.ref x.2.1) = k := keyAt_of hk2
    rw [e]
    exact ⟨x.2.1, o2, t1, t2, n2, rfl, Heap.get?_push_of_some _ ho2, hc2, hd2⟩
  refine wpAny_bind (wpAny_holding (wpAny_call_entry PyProof.Rows.slot_list_sort ⟨_, hoL, rfl⟩ PyProof.Rows.entry_list_sort
    (SrtO.list_sort_ord (s := { s with heap := h'.push (seqObj "list" acc.toList.toArray 0), toks := tk }) (SrtO.swo_lex (keyOf H)) hoL (by rw [hal]; omega)
      (fun h2 => SrtO.pairs_sortableO (by omega) pair fun o1 e c => ?_) fun out h1 h2 => ⟨_, rfl, ?_⟩)
    (PyProof.Rows.args_list_sort _)))
  · have e' : some o1 = some (seqObj "list" acc.toList.toArray 0) := e.symm.trans hoL
    cases e'
    exact absurd (Value.type.inj c) (by decide)
  obtain ⟨e', he'⟩ := PyProof.Rows.sortedHeap_at (vs := acc.toList) (out := out.toArray) hoL
  have hm : ∀ u ∈ out, ∃ x ∈ ps, u = Value.ref x.2.1 := fun u hu => by
    have := h2.perm.mem_iff.mp hu
    rw [ea] at this
    obtain ⟨x, hx, e⟩ := List.mem_map.mp this
    exact ⟨x, hx, e.symm⟩
  obtain ⟨bs, rfl⟩ := refs_of (us := out) fun u hu => by
    obtain ⟨x, _, e⟩ := hm u hu
    exact ⟨_, e⟩
  have hb : ∀ b ∈ bs, ∃ k : Int × Int, PairAt H k b := fun b hb => by
    obtain ⟨x, hx, e⟩ := hm _ (List.mem_map.mpr ⟨b, hb, rfl⟩)
    cases e
    exact pk x hx
  have ev : (bs.map Value.ref).map (keyOf H) = bs.map (keyAt H) := by
    rw [List.map_map]
    rfl
  have hp : (bs.map (keyAt H)).Perm ks := by
    have := h2.perm.map (keyOf H)
    rw [ev, ea, List.map_map] at this
    rw [← ek]
    exact this
  have hsr : (bs.map (keyAt H)).Pairwise fun x y => SrtO.lexB y x = false := by
    rw [← ev]
    exact SrtO.srtd_map (f := keyOf H) (lt := SrtO.lexB) h1
  have hlen : (bs.map V.ref).length ≤ sizeLine := by
    have := h2.perm.length_eq
    rw [List.length_map] at this
    rw [List.length_map]
    omega
  refine wpAny_pure ⟨_, rfl, .ref h'.objs.size, upd H h'.objs.size (.lst (bs.map V.ref)), I1.laid (t' := tk) (fun b u e => ?_) (Nat.le_refl _)
    (show ObjOk X.prog X.w _ _ _ (.lst (bs.map V.ref)) from ⟨hlen, bs.map Value.ref, e', vals_refs bs, he'⟩), rfl, q _ bs _ hp hsr (paired_of hb) (I1.hok.fresh (Nat.le_refl _))⟩
  have hb : b < h'.objs.size := Heap.lt_size e
  rw [PyProof.Rows.sortedHeap_old (Nat.ne_of_lt hb) (by rw [size_push']; exact Nat.lt_succ_of_lt hb)]
  exact Heap.get?_push_of_some _ e
end
end SDT
namespace PM
/-- terms: the pair of exponents and the coefficient -/
abbrev Ex := Int × Int
abbrev Trm := Ex × Int
def ltE (p q : Ex) : Prop := p.1 < q.1 ∨ (p.1 = q.1 ∧ p.2 < q.2)
instance (p q : Ex) : Decidable (ltE p q) := by
  unfold ltE
  exact inferInstance
theorem ltE_trans {p q r : Ex} (h : ltE p q) (k : ltE q r) : ltE p r := by
  unfold ltE at *
  omega
theorem ltE_irr {p : Ex} : ¬ ltE p p := by
  unfold ltE
  omega
theorem ltE_ne {p q : Ex} (h : ltE p q) : p ≠ q := fun e => by
  subst e
  exact ltE_irr h
theorem ltE_or {p q : Ex} (h : ¬ ltE p q) (k : p ≠ q) : ltE q p := by
  unfold ltE at *
  have k : ¬ (p.1 = q.1 ∧ p.2 = q.2) := fun z => k (Prod.ext z.1 z.2)
  omega
/-- the value of a list of terms under a weighing of the exponents -/
def lin (f : Ex → Int) : List Trm → Int
  | [] => 0
  | t :: r => t.2 * f t.1 + lin f r
def Eqv (p q : List Trm) : Prop := ∀ f, lin f p = lin f q
theorem Eqv.refl (p : List Trm) : Eqv p p := fun _ => rfl
theorem Eqv.symm {p q : List Trm} (h : Eqv p q) : Eqv q p := fun f => (h f).symm
theorem Eqv.trans {p q r : List Trm} (h : Eqv p q) (k : Eqv q r) : Eqv p r := fun f => (h f).trans (k f)
theorem lin_append (f : Ex → Int) : ∀ p q : List Trm, lin f (p ++ q) = lin f p + lin f q
  | [], q => by simp [lin]
  | t :: r, q => by
    simp only [List.cons_append, lin, lin_append f r q]
    omega
theorem Eqv.append {p p' q q' : List Trm} (h : Eqv p p') (k : Eqv q q') : Eqv (p ++ q) (p' ++ q') := fun f => by
  rw [lin_append, lin_append, h f, k f]
theorem Eqv.perm {p q : List Trm} (h : p.Perm q) : Eqv p q := fun f => by
  induction h with
  | nil => rfl
  | cons x _ ih => simp only [lin, ih]
  | swap x y l =>
    simp only [lin]
    omega
  | trans _ _ a b => exact a.trans b
/-- strictly ascending, no coefficient 0 -/
def Canon (p : List Trm) : Prop := p.Pairwise (fun s t => ltE s.1 t.1) ∧ ∀ t ∈ p, t.2 ≠ 0
theorem lin_zero {f : Ex → Int} : ∀ {p : List Trm}, (∀ t ∈ p, f t.1 = 0) → lin f p = 0
  | [], _ => rfl
  | t :: r, h => by
    rw [lin, h t List.mem_cons_self, lin_zero (p := r) fun s hs => h s (List.mem_cons_of_mem _ hs)]
    simp
theorem canon_uniq : ∀ {p q : List Trm}, Canon p → Canon q → Eqv p q → p = q
  | [], [], _, _, _ => rfl
  | [], t :: r, _, hq, h => by
    exfalso
    have e := h fun x => if x = t.1 then 1 else 0
    have z : lin (fun x => if x = t.1 then (1 : Int) else 0) r = 0 := lin_zero fun s hs => if_neg (ltE_ne ((List.pairwise_cons.mp hq.1).1 s hs)).symm
    simp only [lin, z, if_pos] at e
    exact hq.2 t List.mem_cons_self (by omega)
  | t :: r, [], hp, _, h => by
    exfalso
    have e := h fun x => if x = t.1 then 1 else 0
    have z : lin (fun x => if x = t.1 then (1 : Int) else 0) r = 0 := lin_zero fun s hs => if_neg (ltE_ne ((List.pairwise_cons.mp hp.1).1 s hs)).symm
    simp only [lin, z, if_pos] at e
    exact hp.2 t List.mem_cons_self (by omega)
  | t :: r, u :: w, hp, hq, h => by
    have p1 := List.pairwise_cons.mp hp.1
    have q1 := List.pairwise_cons.mp hq.1
    have key : t.1 = u.1 := by
      by_cases e : t.1 = u.1
      · exact e
      · exfalso
        by_cases l : ltE t.1 u.1
        · have z1 : lin (fun x => if x = t.1 then (1 : Int) else 0) r = 0 := lin_zero fun s hs => if_neg (ltE_ne (p1.1 s hs)).symm
          have z2 : lin (fun x => if x = t.1 then (1 : Int) else 0) (u :: w) = 0 := lin_zero fun s hs => by
            refine if_neg (Ne.symm ?_)
            rcases List.mem_cons.mp hs with rfl | hs
            · exact e
            · exact ltE_ne (ltE_trans l (q1.1 s hs))
          have e2 := h fun x => if x = t.1 then 1 else 0
          rw [z2] at e2
          simp only [lin, z1, if_pos] at e2
          exact hp.2 t List.mem_cons_self (by omega)
        · have l := ltE_or l e
          have z1 : lin (fun x => if x = u.1 then (1 : Int) else 0) w = 0 := lin_zero fun s hs => if_neg (ltE_ne (q1.1 s hs)).symm
          have z2 : lin (fun x => if x = u.1 then (1 : Int) else 0) (t :: r) = 0 := lin_zero fun s hs => by
            refine if_neg (Ne.symm ?_)
            rcases List.mem_cons.mp hs with rfl | hs
            · exact Ne.symm e
            · exact ltE_ne (ltE_trans l (p1.1 s hs))
          have e2 := h fun x => if x = u.1 then 1 else 0
          rw [z2] at e2
          simp only [lin, z1, if_pos] at e2
          exact hq.2 u List.mem_cons_self (by omega)
    have z1 : lin (fun x => if x = t.1 then (1 : Int) else 0) r = 0 := lin_zero fun s hs => if_neg (ltE_ne (p1.1 s hs)).symm
    have z2 : lin (fun x => if x = t.1 then (1 : Int) else 0) w = 0 := lin_zero fun s hs => if_neg (by rw [key]; exact (ltE_ne (q1.1 s hs)).symm)
    have e2 := h fun x => if x = t.1 then 1 else 0
    simp only [lin, z1, z2] at e2
    simp only [if_true, if_pos key.symm] at e2
    have ec : t.2 = u.2 := by omega
    have et : t = u := Prod.ext key ec
    have er : Eqv r w := fun f => by
      have e3 := h f
      simp only [lin, et] at e3
      omega
    rw [et, canon_uniq ⟨p1.2, fun s hs => hp.2 s (List.mem_cons_of_mem _ hs)⟩ ⟨q1.2, fun s hs => hq.2 s (List.mem_cons_of_mem _ hs)⟩ er]
/-- a term put into a list in order -/
def ins (t : Trm) : List Trm → List Trm
  | [] => if t.2 = 0 then [] else [t]
  | u :: r => if ltE t.1 u.1 then (if t.2 = 0 then u :: r else t :: u :: r) else if t.1 = u.1 then (if t.2 + u.2 = 0 then r else (t.1, t.2 + u.2) :: r) else u :: ins t r
def canon (ts : List Trm) : List Trm := ts.foldr ins []
theorem lin_ins (f : Ex → Int) (t : Trm) : ∀ p : List Trm, lin f (ins t p) = t.2 * f t.1 + lin f p
  | [] => by
    unfold ins
    split
    · rename_i h
      rw [h]
      simp [lin]
    · simp [lin]
  | u :: r => by
    unfold ins
    split
    · split
      · rename_i h
        rw [h]
        simp
      · simp [lin]
    · split
      · rename_i e
        split
        · rename_i h
          simp only [lin]
          rw [← e]
          have : t.2 * f t.1 + u.2 * f t.1 = 0 := by
            rw [← Int.add_mul, h, Int.zero_mul]
          omega
        · simp only [lin]
          rw [← e, Int.add_mul]
          omega
      · simp only [lin, lin_ins f t r]
        omega
theorem eqv_canon (ts : List Trm) : Eqv (canon ts) ts := fun f => by
  induction ts with
  | nil => rfl
  | cons t r ih =>
    show lin f (ins t (canon r)) = _
    rw [lin_ins, ih]
    rfl
theorem mem_ins {t s : Trm} : ∀ {p : List Trm}, s ∈ ins t p → s.1 = t.1 ∨ s ∈ p
  | [], h => by
    unfold ins at h
    split at h
    · cases h
    · rw [List.mem_singleton] at h
      exact .inl (by rw [h])
  | u :: r, h => by
    unfold ins at h
    split at h
    · split at h
      · exact .inr h
      · rcases List.mem_cons.mp h with h | h
        · exact .inl (by rw [h])
        · exact .inr h
    · split at h
      · split at h
        · exact .inr (List.mem_cons_of_mem _ h)
        · rcases List.mem_cons.mp h with h | h
          · exact .inl (by rw [h])
          · exact .inr (List.mem_cons_of_mem _ h)
      · rcases List.mem_cons.mp h with h | h
        · exact .inr (h ▸ List.mem_cons_self)
        · rcases mem_ins h with h | h
          · exact .inl h
          · exact .inr (List.mem_cons_of_mem _ h)
theorem canon_ins {t : Trm} : ∀ {p : List Trm}, Canon p → Canon (ins t p)
  | [], _ => by
    unfold ins
    split
    · exact ⟨List.Pairwise.nil, fun s hs => by cases hs⟩
    · rename_i h
      exact ⟨List.pairwise_singleton _ _, fun s hs => by
        rw [List.mem_singleton] at hs
        rw [hs]
        exact h⟩
  | u :: r, hp => by
    have p1 := List.pairwise_cons.mp hp.1
    have tl : Canon r := ⟨p1.2, fun s hs => hp.2 s (List.mem_cons_of_mem _ hs)⟩
    unfold ins
    split
    · rename_i l
      split
      · exact hp
      · rename_i h
        refine ⟨List.pairwise_cons.mpr ⟨fun s hs => ?_, hp.1⟩, fun s hs => ?_⟩
        · rcases List.mem_cons.mp hs with rfl | hs
          · exact l
          · exact ltE_trans l (p1.1 s hs)
        · rcases List.mem_cons.mp hs with rfl | hs
          · exact h
          · exact hp.2 s hs
    · rename_i l
      split
      · rename_i e
        split
        · exact tl
        · rename_i h
          refine ⟨List.pairwise_cons.mpr ⟨fun s hs => ?_, p1.2⟩, fun s hs => ?_⟩
          · show ltE t.1 s.1
            rw [e]
            exact p1.1 s hs
          · rcases List.mem_cons.mp hs with rfl | hs
            · exact h
            · exact hp.2 s (List.mem_cons_of_mem _ hs)
      · rename_i e
        have ih := canon_ins (t := t) tl
        refine ⟨List.pairwise_cons.mpr ⟨fun s hs => ?_, ih.1⟩, fun s hs => ?_⟩
        · rcases mem_ins hs with h | h
          · rw [h]
            exact ltE_or l e
          · exact p1.1 s h
        · rcases List.mem_cons.mp hs with rfl | hs
          · exact hp.2 s List.mem_cons_self
          · exact ih.2 s hs
theorem canon_canon (ts : List Trm) : Canon (canon ts) := by
  induction ts with
  | nil => exact ⟨List.Pairwise.nil, fun s hs => by cases hs⟩
  | cons t r ih => exact canon_ins ih
theorem canon_of {p ts : List Trm} (h : Canon p) (e : Eqv p ts) : p = canon ts := canon_uniq h (canon_canon ts) (e.trans (eqv_canon ts).symm)
theorem canon_congr {p q : List Trm} (h : Eqv p q) : canon p = canon q := canon_uniq (canon_canon p) (canon_canon q) ((eqv_canon p).trans (h.trans (eqv_canon q).symm))
theorem canon_self {p : List Trm} (h : Canon p) : canon p = p := (canon_of h (Eqv.refl p)).symm
/-! products -/
def addE (p q : Ex) : Ex := (p.1 + q.1, p.2 + q.2)
def mulT (p q : List Trm) : List Trm := p.flatMap fun x => q.map fun y => (addE x.1 y.1, x.2 * y.2)
theorem lin_scale (f : Ex → Int) (x : Trm) : ∀ q : List Trm, lin f (q.map fun y => (addE x.1 y.1, x.2 * y.2)) = x.2 * lin (fun y => f (addE x.1 y)) q
  | [] => by simp [lin]
  | y :: r => by
    simp only [List.map_cons, lin, lin_scale f x r]
    rw [Int.mul_add, Int.mul_assoc]
theorem lin_mul (f : Ex → Int) (q : List Trm) : ∀ p : List Trm, lin f (mulT p q) = lin (fun x => lin (fun y => f (addE x y)) q) p
  | [] => rfl
  | x :: r => by
    show lin f ((q.map fun y => (addE x.1 y.1, x.2 * y.2)) ++ mulT r q) = _
    rw [lin_append, lin_scale, lin_mul f q r]
    rfl
theorem lin_congr {f g : Ex → Int} (h : ∀ x, f x = g x) (p : List Trm) : lin f p = lin g p := by
  rw [show f = g from funext h]
theorem lin_add (f g : Ex → Int) : ∀ p : List Trm, lin (fun x => f x + g x) p = lin f p + lin g p
  | [] => by simp [lin]
  | t :: r => by
    simp only [lin, lin_add f g r]
    rw [Int.mul_add]
    omega
theorem lin_smul (c : Int) (f : Ex → Int) : ∀ p : List Trm, lin (fun x => c * f x) p = c * lin f p
  | [] => by simp [lin]
  | t :: r => by
    simp only [lin, lin_smul c f r]
    rw [Int.mul_add, Int.mul_left_comm]
theorem lin_const0 : ∀ p : List Trm, lin (fun _ => 0) p = 0
  | [] => rfl
  | t :: r => by simp [lin, lin_const0 r]
theorem lin_swap (g : Ex → Ex → Int) (q : List Trm) : ∀ p : List Trm, lin (fun x => lin (fun y => g x y) q) p = lin (fun y => lin (fun x => g x y) p) q
  | [] => by simp only [lin, lin_const0]
  | t :: r => by
    simp only [lin]
    rw [lin_swap g q r, lin_add, lin_smul]
theorem Eqv.mul {p p' q q' : List Trm} (h : Eqv p p') (k : Eqv q q') : Eqv (mulT p q) (mulT p' q') := fun f => by
  rw [lin_mul, lin_mul, h, lin_congr fun x => k _]
theorem mul_comm (p q : List Trm) : Eqv (mulT p q) (mulT q p) := fun f => by
  rw [lin_mul, lin_mul, lin_swap]
  refine lin_congr (fun y => lin_congr (fun x => ?_) _) _
  unfold addE
  rw [Int.add_comm, Int.add_comm x.2]
theorem mul_assoc (p q r : List Trm) : Eqv (mulT (mulT p q) r) (mulT p (mulT q r)) := fun f => by
  rw [lin_mul, lin_mul, lin_mul]
  refine lin_congr (fun x => ?_) _
  rw [lin_mul]
  refine lin_congr (fun y => lin_congr (fun z => ?_) _) _
  unfold addE
  simp only [Int.add_assoc]
def one : List Trm := [((0, 0), 1)]
theorem one_mul (p : List Trm) : Eqv (mulT one p) p := fun f => by
  rw [lin_mul]
  show (1 : Int) * lin _ p + 0 = _
  rw [Int.one_mul, Int.add_zero]
  refine lin_congr (fun y => ?_) _
  unfold addE
  simp
/-- powers -/
def pw (p : List Trm) : Nat → List Trm
  | 0 => one
  | n + 1 => mulT (pw p n) p
theorem pw_add (p : List Trm) (i : Nat) : ∀ j, Eqv (mulT (pw p i) (pw p j)) (pw p (i + j))
  | 0 => (mul_comm _ _).trans (one_mul _)
  | j + 1 => (mul_assoc _ _ _).symm.trans (Eqv.mul (pw_add p i j) (Eqv.refl p))
theorem pw_congr {p q : List Trm} (h : Eqv p q) : ∀ n, Eqv (pw p n) (pw q n)
  | 0 => Eqv.refl _
  | n + 1 => Eqv.mul (pw_congr h n) h
/-! the size of coefficients -/
def norm : List Trm → Nat
  | [] => 0
  | t :: r => t.2.natAbs + norm r
theorem norm_append : ∀ p q : List Trm, norm (p ++ q) = norm p + norm q
  | [], q => by simp [norm]
  | t :: r, q => by
    simp only [List.cons_append, norm, norm_append r q]
    omega
theorem norm_ins (t : Trm) : ∀ p : List Trm, norm (ins t p) ≤ t.2.natAbs + norm p
  | [] => by
    unfold ins
    split <;> simp [norm]
  | u :: r => by
    unfold ins
    split
    · split <;> simp [norm]
    · split
      · split
        · simp only [norm]
          omega
        · simp only [norm]
          omega
      · have := norm_ins t r
        simp only [norm]
        omega
theorem norm_canon : ∀ ts : List Trm, norm (canon ts) ≤ norm ts
  | [] => Nat.le_refl _
  | t :: r => by
    show norm (ins t (canon r)) ≤ _
    have h1 := norm_ins t (canon r)
    have h2 := norm_canon r
    simp only [norm]
    omega
theorem norm_scale (x : Trm) : ∀ q : List Trm, norm (q.map fun y => (addE x.1 y.1, x.2 * y.2)) = x.2.natAbs * norm q
  | [] => by simp [norm]
  | y :: r => by
    simp only [List.map_cons, norm, norm_scale x r]
    rw [Nat.mul_add, Int.natAbs_mul]
theorem norm_mul (q : List Trm) : ∀ p : List Trm, norm (mulT p q) = norm p * norm q
  | [] => by simp [norm, mulT]
  | x :: r => by
    show norm ((q.map fun y => (addE x.1 y.1, x.2 * y.2)) ++ mulT r q) = _
    rw [norm_append, norm_scale, norm_mul q r]
    simp only [norm]
    rw [Nat.add_mul]
theorem norm_mem {t : Trm} : ∀ {p : List Trm}, t ∈ p → t.2.natAbs ≤ norm p
  | u :: r, h => by
    rcases List.mem_cons.mp h with rfl | h
    · simp only [norm]
      omega
    · have := norm_mem h
      simp only [norm]
      omega
theorem length_canon_le : ∀ ts : List Trm, (canon ts).length ≤ ts.length
  | [] => Nat.le_refl _
  | t :: r => by
    have h : ∀ p : List Trm, (ins t p).length ≤ p.length + 1 := by
      intro p
      induction p with
      | nil =>
        unfold ins
        split <;> simp
      | cons u w ih =>
        unfold ins
        split
        · split <;> simp
        · split
          · split <;> simp <;> omega
          · simp only [List.length_cons]
            omega
    have h2 := length_canon_le r
    have h3 := h (canon r)
    show (ins t (canon r)).length ≤ _
    simp only [List.length_cons]
    omega
theorem length_mul (p q : List Trm) : (mulT p q).length = p.length * q.length := by
  induction p with
  | nil => simp [mulT]
  | cons x r ih =>
    show ((q.map fun y => (addE x.1 y.1, x.2 * y.2)) ++ mulT r q).length = _
    rw [List.length_append, List.length_map, ih, List.length_cons, Nat.add_mul]
    omega
/-! a dict that gathers: pairs in the order in which they came, no key twice -/
def look (d : List Trm) (k : Ex) : Int := match d.find? (fun p => decide (p.1 = k)) with
  | some p => p.2
  | none => 0
def put (d : List Trm) (k : Ex) (v : Int) : List Trm := if d.any (fun p => decide (p.1 = k)) then d.map (fun p => if p.1 = k then (p.1, v) else p) else d ++ [(k, v)]
def addTo (d : List Trm) (t : Trm) : List Trm := put d t.1 (look d t.1 + t.2)
def gather (ts : List Trm) : List Trm := ts.foldl addTo []
def keys (d : List Trm) : List Ex := d.map (·.1)
theorem keys_put (d : List Trm) (k : Ex) (v : Int) : keys (put d k v) = if k ∈ keys d then keys d else keys d ++ [k] := by
  have h : (d.any fun p => decide (p.1 = k)) = true ↔ k ∈ keys d := by
    rw [List.any_eq_true]
    unfold keys
    constructor
    · rintro ⟨p, hp, e⟩
      exact List.mem_map.mpr ⟨p, hp, of_decide_eq_true e⟩
    · intro h
      obtain ⟨p, hp, e⟩ := List.mem_map.mp h
      exact ⟨p, hp, decide_eq_true e⟩
  unfold put
  by_cases hk : k ∈ keys d
  · rw [if_pos (h.mpr hk), if_pos hk]
    unfold keys
    rw [List.map_map]
    refine List.map_congr_left fun p _ => ?_
    show (if p.1 = k then (p.1, v) else p).1 = p.1
    split <;> rfl
  · rw [if_neg (fun z => hk (h.mp z)), if_neg hk]
    unfold keys
    rw [List.map_append]
    rfl
theorem nodup_put {d : List Trm} (h : (keys d).Nodup) (k : Ex) (v : Int) : (keys (put d k v)).Nodup := by
  rw [keys_put]
  split
  · exact h
  · rename_i hk
    rw [List.nodup_append]
    refine ⟨h, List.pairwise_singleton _ _, fun a ha b hb => ?_⟩
    rw [List.mem_singleton] at hb
    rw [hb]
    exact fun e => hk (e ▸ ha)
theorem look_none {d : List Trm} {k : Ex} (h : k ∉ keys d) : look d k = 0 := by
  unfold look
  rw [List.find?_eq_none.mpr]
  intro p hp e
  exact h (List.mem_map.mpr ⟨p, hp, of_decide_eq_true e⟩)
theorem look_cons (p : Trm) (d : List Trm) (k : Ex) : look (p :: d) k = if p.1 = k then p.2 else look d k := by
  unfold look
  rw [List.find?_cons]
  by_cases h : p.1 = k
  · simp [h]
  · simp [h]
theorem lin_map_put (f : Ex → Int) (k : Ex) (v : Int) : ∀ {d : List Trm}, (keys d).Nodup → k ∈ keys d → lin f (d.map fun p => if p.1 = k then (p.1, v) else p) = lin f d + (v - look d k) * f k
  | [], _, h => by simp [keys] at h
  | p :: r, hn, hk => by
    have n1 : p.1 ∉ keys r ∧ (keys r).Nodup := List.nodup_cons.mp hn
    rw [look_cons]
    simp only [List.map_cons, lin]
    by_cases e : p.1 = k
    · rw [if_pos e, if_pos e]
      have z : r.map (fun p => if p.1 = k then (p.1, v) else p) = r := by
        refine (List.map_congr_left fun q hq => if_neg fun z => n1.1 (List.mem_map.mpr ⟨q, hq, by rw [z, e]⟩)).trans (List.map_id' r)
      rw [z, ← e, Int.sub_mul]
      show v * f p.1 + lin f r = _
      omega
    · have hk2 : k ∈ keys r := by
        rcases List.mem_cons.mp (show k ∈ p.1 :: keys r from hk) with z | z
        · exact absurd z.symm e
        · exact z
      rw [if_neg e, if_neg e, lin_map_put f k v n1.2 hk2]
      omega
theorem lin_put (f : Ex → Int) {d : List Trm} (hn : (keys d).Nodup) (k : Ex) (v : Int) : lin f (put d k v) = lin f d + (v - look d k) * f k := by
  have h : (d.any fun p => decide (p.1 = k)) = true ↔ k ∈ keys d := by
    rw [List.any_eq_true]
    unfold keys
    constructor
    · rintro ⟨p, hp, e⟩
      exact List.mem_map.mpr ⟨p, hp, of_decide_eq_true e⟩
    · intro h
      obtain ⟨p, hp, e⟩ := List.mem_map.mp h
      exact ⟨p, hp, decide_eq_true e⟩
  unfold put
  by_cases hk : k ∈ keys d
  · rw [if_pos (h.mpr hk), lin_map_put f k v hn hk]
  · rw [if_neg (fun z => hk (h.mp z)), lin_append, look_none hk]
    simp [lin]
theorem gather_go (f : Ex → Int) : ∀ (ts d : List Trm), (keys d).Nodup → (keys (ts.foldl addTo d)).Nodup ∧ lin f (ts.foldl addTo d) = lin f d + lin f ts
  | [], d, h => ⟨h, by simp [lin]⟩
  | t :: r, d, h => by
    have n := nodup_put h t.1 (look d t.1 + t.2)
    obtain ⟨h1, h2⟩ := gather_go f r (addTo d t) n
    refine ⟨h1, ?_⟩
    show lin f (r.foldl addTo (addTo d t)) = _
    rw [h2]
    unfold addTo
    rw [lin_put f h]
    simp only [lin]
    rw [show look d t.1 + t.2 - look d t.1 = t.2 by omega]
    omega
theorem gather_nodup (ts : List Trm) : (keys (gather ts)).Nodup := (gather_go (fun _ => 0) ts [] List.nodup_nil).1
theorem gather_eqv (ts : List Trm) : Eqv (gather ts) ts := fun f => by
  have h := (gather_go f ts [] List.nodup_nil).2
  simp only [lin] at h
  unfold gather
  omega
theorem length_put (d : List Trm) (k : Ex) (v : Int) : (put d k v).length ≤ d.length + 1 := by
  unfold put
  split
  · rw [List.length_map]
    omega
  · rw [List.length_append]
    exact Nat.le_refl _
theorem length_gather_go : ∀ (ts d : List Trm), (ts.foldl addTo d).length ≤ d.length + ts.length
  | [], d => Nat.le_refl _
  | t :: r, d => by
    have h1 := length_gather_go r (addTo d t)
    have h2 : (addTo d t).length ≤ d.length + 1 := length_put _ _ _
    show (r.foldl addTo (addTo d t)).length ≤ _
    simp only [List.length_cons]
    omega
theorem look_of_mem : ∀ {d : List Trm} {p : Trm}, (keys d).Nodup → p ∈ d → look d p.1 = p.2
  | q :: r, p, hn, hp => by
    have n1 : q.1 ∉ keys r ∧ (keys r).Nodup := List.nodup_cons.mp hn
    rw [look_cons]
    rcases List.mem_cons.mp hp with rfl | hp
    · rw [if_pos rfl]
    · rw [if_neg (fun e => n1.1 (List.mem_map.mpr ⟨p, hp, e.symm⟩)), look_of_mem n1.2 hp]
/-- what is read off by keys in order -/
def read (d : List Trm) (ks : List Ex) : List Trm := (ks.filter fun k => decide (look d k ≠ 0)).map fun k => (k, look d k)
theorem lin_read (f : Ex → Int) (d : List Trm) : ∀ ks : List Ex, lin f (read d ks) = lin f (ks.map fun k => (k, look d k))
  | [] => rfl
  | k :: r => by
    have ih := lin_read f d r
    unfold read at *
    rw [List.filter_cons]
    by_cases h : look d k = 0
    · simp only [h, ne_eq, not_true_eq_false, decide_false, Bool.false_eq_true, if_false, List.map_cons, lin]
      rw [ih]
      simp
    · rw [if_pos (decide_eq_true h)]
      simp only [List.map_cons, lin, ih]
theorem map_look {d : List Trm} (hn : (keys d).Nodup) : (keys d).map (fun k => (k, look d k)) = d := by
  unfold keys
  rw [List.map_map]
  refine (List.map_congr_left fun p hp => ?_).trans (List.map_id' d)
  show (p.1, look d p.1) = p
  rw [look_of_mem hn hp]
theorem read_canon {ts d : List Trm} {ks : List Ex} (hn : (keys d).Nodup) (he : Eqv d ts) (hp : ks.Perm (keys d)) (hs : ks.Pairwise fun a b => ¬ ltE b a) : read d ks = canon ts := by
  refine canon_of ⟨?_, fun t ht => ?_⟩ fun f => ?_
  · have h2 : ks.Pairwise ltE := by
      exact (List.Pairwise.and hs (hp.nodup_iff.mpr hn)).imp fun h => ltE_or h.1 (Ne.symm h.2)
    unfold read
    rw [List.pairwise_map]
    exact h2.sublist List.filter_sublist
  · obtain ⟨k, hk, rfl⟩ := List.mem_map.mp ht
    exact of_decide_eq_true (List.mem_filter.mp hk).2
  · rw [lin_read]
    have h3 : (ks.map fun k => (k, look d k)).Perm d := by
      have := hp.map fun k => (k, look d k)
      rw [map_look hn] at this
      exact this
    rw [Eqv.perm h3 f]
    exact he f
end PM
/-! ### heaps that grow: what is no table stays, tables stay tables -/
namespace EXT
open PySem PySem.Spec PyProof.Rows L2 SDT PM
structure Ext (H H' : Hp) : Prop where
  keep : ∀ b x, H b = some x → (∀ ps, x ≠ .tbl ps) → H' b = some x
  tabs : ∀ b ps, H b = some (.tbl ps) → ∃ qs, H' b = some (.tbl qs) ∧ (TriplesOk ps.toList → TriplesOk qs.toList)
theorem Ext.tab {H H' : Hp} (s : Ext H H') {b : Addr} (h : GxR.TabG H b) : GxR.TabG H' b := by
  obtain ⟨ps, h1, h2⟩ := h
  obtain ⟨qs, g1, g2⟩ := s.tabs b ps h1
  exact ⟨qs, g1, g2 h2⟩
theorem Ext.refl (H : Hp) : Ext H H := ⟨fun _ _ e _ => e, fun _ ps h => ⟨ps, h, id⟩⟩
theorem Ext.trans {H H1 H2 : Hp} (a : Ext H H1) (b : Ext H1 H2) : Ext H H2 := ⟨fun c x e n => b.keep c x (a.keep c x e n) n, fun c ps h => by
  obtain ⟨qs, g1, g2⟩ := a.tabs c ps h
  obtain ⟨rs, k1, k2⟩ := b.tabs c qs g1
  exact ⟨rs, k1, fun z => k2 (g2 z)⟩⟩
theorem Ext.own {H H1 : Hp} {d : Addr} {o : HO} (s : Ext H H1) (hd : H d = none) : Ext H (upd H1 d o) := by
  refine ⟨fun b x e n => ?_, fun b ps h => ?_⟩
  · rw [upd_ne (ne_of_none e hd)]
    exact s.keep b x e n
  · obtain ⟨qs, g1, g2⟩ := s.tabs b ps h
    exact ⟨qs, by rw [upd_ne (ne_of_none h hd)]; exact g1, g2⟩
theorem ext_upd {H : Hp} {p : Addr} {o : HO} (h : H p = none) : Ext H (upd H p o) := (Ext.refl H).own h
theorem Ext.new {H H1 : Hp} {p : Addr} {o : HO} (s : Ext H H1) (h : H1 p = none) : Ext H (upd H1 p o) := s.trans (ext_upd h)
theorem ext_tabbed {H H' : Hp} {P : Addr} (t : GxR.TabG H P) (h : GxR.Tabbed P H H') : Ext H H' := by
  obtain ⟨ps, e0, _⟩ := t
  refine ⟨fun b x e n => ?_, fun b qs g => ?_⟩
  · rw [h.2 b (fun z => ?_)]
    · exact e
    · rw [z, e0] at e
      exact n ps (Option.some.inj e).symm
  · by_cases z : b = P
    · obtain ⟨rs, g1, g2⟩ := h.1
      rw [z]
      exact ⟨rs, g1, fun _ => g2⟩
    · exact ⟨qs, by rw [h.2 b z]; exact g, id⟩
theorem Ext.tabbed {H H1 H2 : Hp} {P : Addr} (s : Ext H H1) (t : GxR.TabG H1 P) (h : GxR.Tabbed P H1 H2) : Ext H H2 := s.trans (ext_tabbed t h)
theorem Ext.free {H H' : Hp} {p : Addr} (s : Ext H H') (h : H' p = none) : H p = none := by
  cases e : H p with
  | none => rfl
  | some x =>
    cases x with
    | tbl ps =>
      obtain ⟨qs, g, _⟩ := s.tabs p ps e
      rw [h] at g
      cases g
    | _ =>
      have := s.keep p _ e (fun ps z => by cases z)
      rw [h] at this
      cases this
theorem _root_.L2.Same.ext {H H' : Hp} (s : Same H H') : Ext H H' := ⟨fun b x e _ => s b x e, fun b ps e => ⟨ps, s _ _ e, id⟩⟩
section
variable {K : PySem.W.Frag} {H H' : Hp} (s : Ext H H')
include s
theorem Ext.rdL {a : Addr} {xs : List V} (h : Rd H a (.lst xs)) : Rd H' a (.lst xs) := by
  rcases h with h | ⟨o, h⟩
  · exact .inl (s.keep _ _ h (fun _ z => by cases z))
  · exact .inr ⟨o, s.keep _ _ h (fun _ z => by cases z)⟩
theorem Ext.rdT {a : Addr} {xs : List V} (h : Rd H a (.tup xs)) : Rd H' a (.tup xs) := by
  rcases h with h | ⟨o, h⟩
  · exact .inl (s.keep _ _ h (fun _ z => by cases z))
  · exact .inr ⟨o, s.keep _ _ h (fun _ z => by cases z)⟩
theorem Ext.seq {a : Addr} {xs : List V} (h : SqL K H a xs) : SqL K H' a xs := h.imp s.rdL id
theorem Ext.tup {a : Addr} {xs : List V} (h : SqT K H a xs) : SqT K H' a xs := h.imp s.rdT id
theorem Ext.at {a : Addr} {xs : List V} (h : H a = some (.tup xs)) : H' a = some (.tup xs) := s.keep _ _ h (fun _ z => by cases z)
theorem Ext.dt {a : Addr} {xs : List (List Key × V)} (h : H a = some (.dT xs)) : H' a = some (.dT xs) := s.keep _ _ h (fun _ z => by cases z)
theorem Ext.lst {a : Addr} {xs : List V} (h : H a = some (.lst xs)) : H' a = some (.lst xs) := s.keep _ _ h (fun _ z => by cases z)
end
mutual
theorem dp_ext {K : PySem.W.Frag} {H H' : Hp} (s : Ext H H') : ∀ {v : V} {d : PyData}, Dp K H v d → Dp K H' v d
  | _, _, .non => .non
  | _, _, .bl b => .bl b
  | _, _, .int i => .int i
  | _, _, .str x => .str x
  | _, _, .lst h t => .lst (s.seq h) (dpAll_ext s t)
  | _, _, .tup h t => .tup (s.tup h) (dpAll_ext s t)
theorem dpAll_ext {K : PySem.W.Frag} {H H' : Hp} (s : Ext H H') : ∀ {vs : List V} {ds : List PyData}, DpAll K H vs ds → DpAll K H' vs ds
  | _, _, .nil => .nil
  | _, _, .cons h t => .cons (dp_ext s h) (dpAll_ext s t)
end
theorem Ext.pairs {H H' : Hp} (s : Ext H H') : ∀ {ks : List (Int × Int)} {bs : List Addr}, Paired (PairAt H) ks bs → Paired (PairAt H') ks bs
  | _, _, .nil => .nil
  | _, _, .cons h t => .cons (s.at h) (s.pairs t)
/-! ### terms and polynomials in the heap -/
/-- v is the term t -/
def TermAt (K : PySem.W.Frag) (H : Hp) (v : V) (t : Trm) : Prop := ∃ a b, v = .ref a ∧ SqT K H a [.ref b, .int t.2] ∧ SqT K H b [.int t.1.1, .int t.1.2]
/-- the same, the key known to be one -/
def TermT (H : Hp) (v : V) (t : Trm) : Prop := ∃ a b, v = .ref a ∧ H a = some (.tup [.ref b, .int t.2]) ∧ PairAt H t.1 b
theorem TermT.at {K : PySem.W.Frag} {H : Hp} {v : V} {t : Trm} (h : TermT H v t) : TermAt K H v t := by
  obtain ⟨a, b, e, h1, h2⟩ := h
  exact ⟨a, b, e, .inl (.inl h1), .inl (.inl h2)⟩
theorem Ext.termT {H H' : Hp} (s : Ext H H') {v : V} {t : Trm} (h : TermT H v t) : TermT H' v t := by
  obtain ⟨a, b, e, h1, h2⟩ := h
  exact ⟨a, b, e, s.at h1, s.at h2⟩
theorem Ext.term {K : PySem.W.Frag} {H H' : Hp} (s : Ext H H') {v : V} {t : Trm} (h : TermAt K H v t) : TermAt K H' v t := by
  obtain ⟨a, b, e, h1, h2⟩ := h
  exact ⟨a, b, e, s.tup h1, s.tup h2⟩
theorem paired_imp {α β : Type} {R R' : α → β → Prop} (h : ∀ a b, R a b → R' a b) : ∀ {as : List α} {bs : List β}, Paired R as bs → Paired R' as bs
  | _, _, .nil => .nil
  | _, _, .cons x t => .cons (h _ _ x) (paired_imp h t)
/-- the item of a pairing at a place -/
theorem paired_at {α β : Type} {R : α → β → Prop} : ∀ {as : List α} {bs : List β} {i : Nat} {a : α}, Paired R as bs → as[i]? = some a → ∃ b, bs[i]? = some b ∧ R a b
  | _, _, _, _, .nil, h => by simp at h
  | _, _, 0, _, .cons x t, h => by
    simp only [List.getElem?_cons_zero, Option.some.injEq] at h
    subst h
    exact ⟨_, rfl, x⟩
  | _, _, i + 1, _, .cons x t, h => by
    simp only [List.getElem?_cons_succ] at h
    obtain ⟨b, h1, h2⟩ := paired_at t h
    exact ⟨b, by simpa using h1, h2⟩
theorem paired_app {α β : Type} {R : α → β → Prop} : ∀ {as : List α} {bs : List β} {as' : List α} {bs' : List β}, Paired R as bs → Paired R as' bs' → Paired R (as ++ as') (bs ++ bs')
  | _, _, _, _, .nil, k => k
  | _, _, _, _, .cons x t, k => .cons x (paired_app t k)
theorem paired_snoc {α β : Type} {R : α → β → Prop} {as : List α} {bs : List β} {a : α} {b : β} (h : Paired R as bs) (x : R a b) : Paired R (as ++ [a]) (bs ++ [b]) := paired_app h (.cons x .nil)
/-- vs are the terms ts -/
abbrev Terms (K : PySem.W.Frag) (H : Hp) (vs : List V) (ts : List Trm) : Prop := Paired (TermAt K H) vs ts
abbrev TermsT (H : Hp) (vs : List V) (ts : List Trm) : Prop := Paired (TermT H) vs ts
theorem Ext.terms {K : PySem.W.Frag} {H H' : Hp} (s : Ext H H') {vs : List V} {ts : List Trm} (h : Terms K H vs ts) : Terms K H' vs ts := paired_imp (fun _ _ => s.term) h
theorem Ext.termsT {H H' : Hp} (s : Ext H H') {vs : List V} {ts : List Trm} (h : TermsT H vs ts) : TermsT H' vs ts := paired_imp (fun _ _ => s.termT) h
theorem terms_of {K : PySem.W.Frag} {H : Hp} {vs : List V} {ts : List Trm} (h : TermsT H vs ts) : Terms K H vs ts := paired_imp (fun _ _ h => h.at) h
/-- a tuple of terms at p -/
def PolyAt (K : PySem.W.Frag) (H : Hp) (p : Addr) (ts : List Trm) : Prop := ∃ vs, SqT K H p vs ∧ Terms K H vs ts
def PolyT (H : Hp) (p : Addr) (ts : List Trm) : Prop := ∃ vs, H p = some (.tup vs) ∧ TermsT H vs ts
theorem PolyT.at {K : PySem.W.Frag} {H : Hp} {p : Addr} {ts : List Trm} (h : PolyT H p ts) : PolyAt K H p ts := by
  obtain ⟨vs, h1, h2⟩ := h
  exact ⟨vs, .inl (.inl h1), terms_of h2⟩
theorem Ext.poly {K : PySem.W.Frag} {H H' : Hp} (s : Ext H H') {p : Addr} {ts : List Trm} (h : PolyAt K H p ts) : PolyAt K H' p ts := by
  obtain ⟨vs, h1, h2⟩ := h
  exact ⟨vs, s.tup h1, s.terms h2⟩
theorem Ext.polyT {H H' : Hp} (s : Ext H H') {p : Addr} {ts : List Trm} (h : PolyT H p ts) : PolyT H' p ts := by
  obtain ⟨vs, h1, h2⟩ := h
  exact ⟨vs, s.at h1, s.termsT h2⟩
/-- a term, a polynomial as data -/
def termD (t : Trm) : PyData := .tuple [.tuple [.int t.1.1, .int t.1.2], .int t.2]
def polyD (ts : List Trm) : PyData := .tuple (ts.map termD)
theorem TermAt.dp {K : PySem.W.Frag} {H : Hp} {v : V} {t : Trm} (h : TermAt K H v t) : Dp K H v (termD t) := by
  obtain ⟨a, b, rfl, h1, h2⟩ := h
  exact .tup h1 (.cons (.tup h2 (.cons (.int _) (.cons (.int _) .nil))) (.cons (.int _) .nil))
theorem terms_dp {K : PySem.W.Frag} {H : Hp} : ∀ {vs : List V} {ts : List Trm}, Terms K H vs ts → DpAll K H vs (ts.map termD)
  | _, _, .nil => .nil
  | _, _, .cons h t => .cons h.dp (terms_dp t)
theorem PolyAt.dp {K : PySem.W.Frag} {H : Hp} {p : Addr} {ts : List Trm} (h : PolyAt K H p ts) : Dp K H (.ref p) (polyD ts) := by
  obtain ⟨vs, h1, h2⟩ := h
  exact .tup h1 (terms_dp h2)
/-! ### a dict of exponents -/
def kvsOf (d : List Trm) : List (List Key × V) := d.map fun t => (pairKey t.1, .int t.2)
theorem pairKey_inj {k j : Ex} (h : pairKey k = pairKey j) : k = j := by
  obtain ⟨h1, h2⟩ := List.cons.inj h
  obtain ⟨h3, _⟩ := List.cons.inj h2
  exact Prod.ext (Sum.inl.inj h1) (Sum.inl.inj h3)
theorem valV_kvs (k : Ex) : ∀ d : List Trm, valV (kvsOf d) (pairKey k) = if k ∈ keys d then some (.int (look d k)) else none
  | [] => rfl
  | t :: d => by
    by_cases e : t.1 = k
    · rw [show kvsOf (t :: d) = (pairKey t.1, V.int t.2) :: kvsOf d from rfl, valV_pos (by rw [e]), if_pos (by rw [← e]; exact List.mem_map.mpr ⟨t, List.mem_cons_self, rfl⟩), look_cons, if_pos e]
    · rw [show kvsOf (t :: d) = (pairKey t.1, V.int t.2) :: kvsOf d from rfl, valV_neg (fun z => e (pairKey_inj z)), valV_kvs k d, look_cons, if_neg e]
      have : (k ∈ keys (t :: d)) ↔ k ∈ keys d := by
        show k ∈ t.1 :: keys d ↔ _
        rw [List.mem_cons]
        exact ⟨fun z => z.resolve_left fun q => e q.symm, .inr⟩
      by_cases m : k ∈ keys d
      · rw [if_pos m, if_pos (this.mpr m)]
      · rw [if_neg m, if_neg (fun z => m (this.mp z))]
theorem getD_kvs (d : List Trm) (k : Ex) : (valV (kvsOf d) (pairKey k)).getD (.int 0) = .int (look d k) := by
  rw [valV_kvs]
  by_cases m : k ∈ keys d
  · rw [if_pos m]
    rfl
  · rw [if_neg m, look_none m]
    rfl
theorem put_kvs (d : List Trm) (k : Ex) (v : Int) : putK (kvsOf d) (pairKey k) (.int v) = kvsOf (put d k v) := by
  have e : ((kvsOf d).any fun kv => decide (kv.1 = pairKey k)) = d.any fun p => decide (p.1 = k) := by
    unfold kvsOf
    rw [List.any_map]
    congr 1
    funext t
    show decide (pairKey t.1 = pairKey k) = decide (t.1 = k)
    by_cases z : t.1 = k
    · rw [decide_eq_true z, decide_eq_true (by rw [z])]
    · rw [decide_eq_false z, decide_eq_false (fun q => z (pairKey_inj q))]
  unfold putK put
  rw [e]
  by_cases z : (d.any fun p => decide (p.1 = k)) = true
  · rw [if_pos z, if_pos z]
    unfold kvsOf
    rw [List.map_map, List.map_map]
    refine List.map_congr_left fun t _ => ?_
    show (if pairKey t.1 = pairKey k then (pairKey t.1, V.int v) else (pairKey t.1, V.int t.2)) = _
    by_cases q : t.1 = k
    · rw [if_pos (by rw [q])]
      simp only [Function.comp, if_pos q]
    · rw [if_neg (fun w => q (pairKey_inj w))]
      simp only [Function.comp, if_neg q]
  · rw [if_neg z, if_neg z]
    unfold kvsOf
    rw [List.map_append]
    rfl
theorem length_kvs (d : List Trm) : (kvsOf d).length = d.length := by
  unfold kvsOf
  rw [List.length_map]
theorem keys_kvs (d : List Trm) : (kvsOf d).map (·.1) = (keys d).map pairKey := by
  unfold kvsOf keys
  rw [List.map_map, List.map_map]
  rfl
theorem lex_lt {p q : Ex} : SrtO.lexB p q = false ↔ ¬ ltE p q := SrtO.lexB_no
end EXT
/-! ### a def whose code object is known -/
namespace L2
open PySem PySem.Spec PyProof.Rows
structure FunC (K : PySem.W.Frag) (x qual : Str) (st : Stmt) (f : Addr) (fd : FuncData) (c : Addr) : Prop where
  ex : ∃ (oc : Value) (od : Option Addr) (kV doc pm : Value) (an : Option Addr) (ct : Value) (osl : Array (Option Value)),
    fd = PySem.W.fnOf x qual (defArgs st) (defBody st) (defScope st) .none kV doc pm an (.ref c) ct ∧ K.lookup f = some ⟨oc, od, .func fd, osl⟩ ∧ PySem.W.codeIn K (.ref c) qual = true
  kp : PySem.W.keepIn K (.ref f) = true
section
variable {P : Program} {w : World} {K : PySem.W.Frag} {mg : Str → Option Value} {base : Heap}
theorem FunC.ok {x qual : Str} {st : Stmt} {f c : Addr} {fd : FuncData} {N ps : List Str} {k : Nat} {sp : Sp} (F : FunC K x qual st f fd c) (S : FnScope N ps (defScope st)) (len : ∀ vs H Q E, sp vs H Q E → vs.length = ps.length)
    (hbody : ∀ (A : Around) (outer : List Env) (s : Shared) (H : Hp) (vs : List V) (Q : VK) (E : XK), Room k (A.deeper (envOfC qual (defScope st) s.heap.objs.size f (.ref c))) → sp vs H Q E →
      ∃ t, PSs (cxOf CX0 P w K mg base N qual (defScope st) f (.ref c) A outer s H E).nox (defBody st) t ∧ t { nx := fun _ H' => Q .non H', rt := Q } (start N vs) H) :
    FnOk P w K mg base CX0 (k + 1) f fd ps sp := by
  obtain ⟨oc, od, kV, doc, pm, an, ct, osl, e, lk, hcd⟩ := F.ex
  subst e
  refine fn_of lk hcd S len fun A outer s H vs Q E hr hsp => ?_
  obtain ⟨t, h, q⟩ := hbody A outer s H vs Q E hr hsp
  exact ⟨t, h.nox, q⟩
theorem FunC.binds {x qual : Str} {st : Stmt} {f c : Addr} {fd : FuncData} {ps : List Str} (F : FunC K x qual st f fd c)
    (h : ∀ (kV doc pm : Value) (an : Option Addr) (cdv ct : Value) (us : List Value), us.length = ps.length → bindArgs (PySem.W.fnOf x qual (defArgs st) (defBody st) (defScope st) .none kV doc pm an cdv ct) ⟨us, []⟩ = pure (ps.zip us)) : Binds K fd ps [] := by
  obtain ⟨oc, od, kV, doc, pm, an, ct, osl, e, lk, hcd⟩ := F.ex
  subst e
  exact .all (h kV doc pm an (.ref c) ct)
theorem funC_mk {x qual : Str} {st : Stmt} {f c : Addr} {oc : Value} {od an : Option Addr} {osl : Array (Option Value)} {kV doc pm ct : Value} (l : K.lookup f = some ⟨oc, od, .func (PySem.W.fnOf x qual (defArgs st) (defBody st) (defScope st) .none kV doc pm an (.ref c) ct), osl⟩)
    (h : PySem.W.codeIn K (.ref c) qual = true) (k : PySem.W.keepIn K (.ref f) = true) : FunC K x qual st f (PySem.W.fnOf x qual (defArgs st) (defBody st) (defScope st) .none kV doc pm an (.ref c) ct) c := ⟨⟨oc, od, kV, doc, pm, an, ct, osl, rfl, l, h⟩, k⟩
end
end L2
/-! ### the end: the tables of all defs -/
namespace LamX
open PySem PySem.Spec PyProof.Rows L2
/-- the table of each def of the text is empty -/
def AllTab (q : Program) (K : PySem.W.Frag) (h : Heap) : Prop := ∀ (y : Str) (f c P : Addr) (o : Obj) (fd : FuncData) (e : Value) (dd : Option Addr) (vs : Array Value) (sl : Array (Option Value)), ((recsOf q).any fun r => r.name == y) = true →
  PySem.W.nsIn K mainGlobals y = some (some (.ref f)) → K.lookup f = some o → o.data = .func fd → fd.code = .ref c → K.lookup c = some ⟨e, dd, .fields vs, sl⟩ → vs[11]? = some (.ref P) → h.get? P = some { cls := .none, data := .fields #[] }
theorem walk_ofAll {l : PySem.W.OpenLaw} {n k : Nat} {q : Program} {loose : List Str} {XP : (Str → Option Value) → Heap → Prop} {YP : World → Heap → Prop} {d : DefRec} {K : Params → PySem.W.Frag} {CX : World → CXT} {x : Str}
    (hn : l.most = some n) (hn2 : n ≤ sizeLine) (hdf : d.params.defaults = []) (hr : Room k callerA) (hY : ∀ (w : World) (h : Heap), YP w h → (K w.params).In h)
    (F : ∀ (w : World) (mg : Str → Option Value) (fa : Addr) (h : Heap), YP w h → (K w.params).In h → h.Ns mainGlobals mg → mg d.name = some (.ref fa) → AllTab q (K w.params) h → LawAtS l w (K w.params) (CX w) k n x mg fa h)
    (hCX : ∀ (w : World) (H : Hp) (s : Shared) (e : Value) (s' : Shared), CX w [] H s (fun _ _ _ => False) e s' → False) :
    PySem.W.WalkO q loose XP YP l.row.toRowW d [] (fun f vs => PySem.call f vs) := by
  refine Att.attach_callB hn hdf fun w s₀ s₁ mg mb fa o pm cd doc a vs ns G Y ho hd hcd hmg hobj hints hlen hbits hg => ?_
  have KX := hY w _ Y
  have own : AllTab q (K w.params) s₁.heap := fun y f c P o1 fd1 e dd vs1 sl hrec k0 k1 k2 k3 k4 k5 => by
    obtain ⟨dL, hm, hn1⟩ := List.any_eq_true.mp hrec
    have hn2 : dL.name = y := beq_iff_eq.mp hn1
    obtain ⟨a', o', fd', c', P', h1, h2, h3, h4, h5, h6⟩ := G.T.tab dL hm
    rw [hn2, PySem.W.mg_of KX G.T.g k0] at h1
    cases h1
    have g1 := KX _ _ k1
    rw [g1] at h2
    cases h2
    rw [k2] at h3
    cases h3
    rw [k3] at h4
    cases h4
    obtain ⟨⟨oc, vc, e1, _, e3, e4⟩, hP⟩ := h6
    have g2 := KX _ _ k4
    rw [g2] at e1
    cases e1
    cases e3
    rw [k5] at e4
    cases e4
    exact hP
  obtain ⟨fd, cs, sp, hT, nT, C, hb, hsp, hF⟩ := F w mg fa _ Y KX G.T.g hmg own
  exact law_callTs KX G.T.g G.T.b G.T.builtins G.T.nolimit hg hT nT C G.T.bmain hobj hints (Nat.le_trans hlen hn2) hr hF hb (fun H hH hS => hsp H a ns hlen hbits hH hS) fun H e s' => hCX w H s₁ e s'
end LamX
namespace L2
open PySem PySem.Spec PyProof.Rows
/-- a list or a tuple, walked -/
def iSeq (K : PySem.W.Frag) (tl : TE) : TI := fun σ H R => tl σ H fun x H1 => ∃ a, x = .ref a ∧ (((∃ xs, SqL K H1 a xs) ∧ R (Itl K a) H1) ∨ ((∃ xs, SqT K H1 a xs) ∧ R (Itt K a) H1))
theorem pi_seq {X : Cx} {tg l : Expr} {tl : TE} (hl : PE X l tl) : PI X tg l (iSeq X.K tl) := by
  refine ⟨fun pins s σ H R I h => ?_⟩
  refine thn (hl.run pins s σ H _ I h) fun v s1 ⟨x, H1, I1, r1, a, e, q1⟩ => ?_
  subst e
  cases r1
  rcases q1 with ⟨⟨xs, hq⟩, q⟩ | ⟨⟨xs, hq⟩, q⟩
  · obtain ⟨its, rv, p, hz⟩ := I1.list hq
    refine wpAny_pyIter_list p.isList ⟨s1.heap.objs.size, [s1.heap.objs.size], _, _, H1, rfl, I1.kept (t' := s1.toks) fun b o e => Heap.get?_push_of_some _ e, turn_list a _, ⟨_, Heap.get?_push_size _ rfl, rfl, rfl⟩, fun b hb => ?_, q⟩
    obtain rfl : b = s1.heap.objs.size := by simpa using hb
    exact I1.fpOk (Nat.le_refl _) (I1.hok.fresh (Nat.le_refl _))
  · obtain ⟨its, rv, p, hz⟩ := I1.tuple hq
    refine wpAny_pyIter_tuple (show s1.heap.IsTuple a its.toArray from p) ⟨s1.heap.objs.size, [s1.heap.objs.size], _, _, H1, rfl, I1.kept (t' := s1.toks) fun b o e => Heap.get?_push_of_some _ e, turn_tuple a _, ⟨_, Heap.get?_push_size _ rfl, rfl, rfl⟩, fun b hb => ?_, q⟩
    obtain rfl : b = s1.heap.objs.size := by simpa using hb
    exact I1.fpOk (Nat.le_refl _) (I1.hok.fresh (Nat.le_refl _))
/-- walking a list or a tuple: one invariant -/
theorem for_seq {K : PySem.W.Frag} {a : Addr} {xs : List V} {g : TG} {tb : TS} {D : Ends} {σ : St} {H H0 : Hp} (ha : SqL K H0 a xs ∨ SqT K H0 a xs) (Pv : Nat → St → Hp → Prop) (h0 : Pv 0 σ H) (hl : ∀ i σ H1, i ≤ xs.length → Pv i σ H1 → EXT.Ext H0 H1)
    (hs : ∀ i x σ H, xs[i]? = some x → Pv i σ H → g x σ H fun σ2 H2 => tb { D with nx := Pv (i + 1), ct := Pv (i + 1), bk := D.nx } σ2 H2) (hd : ∀ σ H, Pv xs.length σ H → D.nx σ H) :
    let G : It → Prop := fun J => ∃ W : Nat → Nat → St → Hp → Prop, (∃ m, W 0 m σ H) ∧ ∀ i m σ H, W i m σ H →
      ((J.stop i H ∧ D.nx σ H) ∨ (J.go i H ∧ ∃ N : St → Hp → Prop, (∀ σ' H', N σ' H' → ∃ m', m' < m ∧ W (i + 1) m' σ' H') ∧ ∀ x H', J.yld i H x H' → g x σ H' fun σ2 H2 => tb { D with nx := N, ct := N, bk := D.nx } σ2 H2))
    ((∃ xs, SqL K H a xs) ∧ G (Itl K a)) ∨ ((∃ xs, SqT K H a xs) ∧ G (Itt K a)) := by
  rcases ha with h | h
  · exact .inl ⟨⟨xs, (hl _ _ _ (Nat.zero_le _) h0).seq h⟩, for_list Pv h0 (fun i σ H1 hi p => (hl i σ H1 hi p).seq h) hs hd⟩
  · exact .inr ⟨⟨xs, (hl _ _ _ (Nat.zero_le _) h0).tup h⟩, for_tup Pv h0 (fun i σ H1 hi p => (hl i σ H1 hi p).tup h) hs hd⟩
end L2
namespace KP
open PySem PySem.Spec PyProof.Rows L2 EXT SDT GXP
open PM (Trm Ex canon mulT look put gather keys addTo pw one addE Canon)
def topS (i : Nat) : Stmt := PySem.Challenge.pw_spinfield_k01_polynomials.main.body.getD i (.Pass ⟨0, 0, 0, 0⟩)
abbrev s_repeated : Stmt := topS 1
abbrev n_repeated : List Str := ["base", "exponent", "one", "combine", "result", "square", "left"]
theorem sc_repeated : FnScope n_repeated ["base", "exponent", "one", "combine"] (defScope s_repeated) := ⟨rfl, rfl, rfl, by decide +kernel, rfl, by decide +kernel, by decide +kernel⟩
abbrev s_polynomial : Stmt := topS 4
abbrev n_polynomial : List Str := ["terms", "found", "a", "b", "c"]
theorem sc_polynomial : FnScope n_polynomial ["terms"] (defScope s_polynomial) := ⟨rfl, rfl, rfl, by decide +kernel, rfl, by decide +kernel, by decide +kernel⟩
abbrev s_in_order : Stmt := topS 5
abbrev n_in_order : List Str := ["found", "pair"]
theorem sc_in_order : FnScope n_in_order ["found"] (defScope s_in_order) := ⟨rfl, rfl, rfl, by decide +kernel, rfl, by decide +kernel, by decide +kernel⟩
abbrev s_plus : Stmt := topS 6
abbrev n_plus : List Str := ["p", "q"]
theorem sc_plus : FnScope n_plus ["p", "q"] (defScope s_plus) := ⟨rfl, rfl, rfl, by decide +kernel, rfl, by decide +kernel, by decide +kernel⟩
abbrev s_minus : Stmt := topS 7
abbrev n_minus : List Str := ["p", "q", "pair", "c"]
theorem sc_minus : FnScope n_minus ["p", "q"] (defScope s_minus) := ⟨rfl, rfl, rfl, by decide +kernel, rfl, by decide +kernel, by decide +kernel⟩
abbrev s_times : Stmt := topS 8
abbrev n_times : List Str := ["p", "q", "found", "a", "b", "c", "d", "e", "f", "pair"]
theorem sc_times : FnScope n_times ["p", "q"] (defScope s_times) := ⟨rfl, rfl, rfl, by decide +kernel, rfl, by decide +kernel, by decide +kernel⟩
abbrev s_power : Stmt := topS 9
abbrev n_power : List Str := ["p", "exponent"]
theorem sc_power : FnScope n_power ["p", "exponent"] (defScope s_power) := ⟨rfl, rfl, rfl, by decide +kernel, rfl, by decide +kernel, by decide +kernel⟩
abbrev s_shared : Stmt := topS 10
abbrev n_shared : List Str := ["p", "divisor", "_", "c", "pair"]
theorem sc_shared : FnScope n_shared ["p", "divisor"] (defScope s_shared) := ⟨rfl, rfl, rfl, by decide +kernel, rfl, by decide +kernel, by decide +kernel⟩
abbrev s_law_cell : Stmt := topS 12
abbrev n_law_cell : List Str := ["script", "k"]
theorem sc_law_cell : FnScope n_law_cell ["script", "k"] (defScope s_law_cell) := ⟨rfl, rfl, rfl, by decide +kernel, rfl, by decide +kernel, by decide +kernel⟩
abbrev s_law_mix : Stmt := topS 13
abbrev n_law_mix : List Str := ["cell", "k", "number"]
theorem sc_law_mix : FnScope n_law_mix ["cell", "k"] (defScope s_law_mix) := ⟨rfl, rfl, rfl, by decide +kernel, rfl, by decide +kernel, by decide +kernel⟩
abbrev s_law_row : Stmt := topS 14
abbrev n_law_row : List Str := ["cell", "count", "bound", "found", "rest", "k"]
theorem sc_law_row : FnScope n_law_row ["cell", "count", "bound"] (defScope s_law_row) := ⟨rfl, rfl, rfl, by decide +kernel, rfl, by decide +kernel, by decide +kernel⟩
abbrev s_law_tuples : Stmt := topS 15
abbrev n_law_tuples : List Str := ["value", "part"]
theorem sc_law_tuples : FnScope n_law_tuples ["value"] (defScope s_law_tuples) := ⟨rfl, rfl, rfl, by decide +kernel, rfl, by decide +kernel, by decide +kernel⟩
abbrev s_law_poly : Stmt := topS 16
abbrev n_law_poly : List Str := ["terms", "found", "key", "number"]
theorem sc_law_poly : FnScope n_law_poly ["terms"] (defScope s_law_poly) := ⟨rfl, rfl, rfl, by decide +kernel, rfl, by decide +kernel, by decide +kernel⟩
abbrev s_law_product : Stmt := topS 17
abbrev n_law_product : List Str := ["p", "q", "terms", "a", "b", "m", "c", "d", "n"]
theorem sc_law_product : FnScope n_law_product ["p", "q"] (defScope s_law_product) := ⟨rfl, rfl, rfl, by decide +kernel, rfl, by decide +kernel, by decide +kernel⟩
abbrev s_law_terms : Stmt := topS 18
abbrev n_law_terms : List Str := ["cell", "most", "rest", "k"]
theorem sc_law_terms : FnScope n_law_terms ["cell", "most"] (defScope s_law_terms) := ⟨rfl, rfl, rfl, by decide +kernel, rfl, by decide +kernel, by decide +kernel⟩
abbrev s_law : Stmt := topS 19
abbrev n_law : List Str := ["script", "first", "second", "exponent", "divisor", "lists", "p", "q", "opposite", "key", "number", "raised", "k", "due", "got", "value", "whole", "parts"]
theorem sc_law : FnScope n_law ["script"] (defScope s_law) := ⟨rfl, rfl, rfl, by decide +kernel, rfl, by decide +kernel, by decide +kernel⟩
structure Top (K : PySem.W.Frag) (mg : Str → Option Value) : Type where
  f_repeated : Addr
  d_repeated : FuncData
  F_repeated : Fun K "repeated" "repeated" s_repeated f_repeated d_repeated
  b_repeated : Binds K d_repeated ["base", "exponent", "one", "combine"] []
  g_repeated : mg "repeated" = some (.ref f_repeated)
  f_polynomial : Addr
  d_polynomial : FuncData
  F_polynomial : Fun K "polynomial" "polynomial" s_polynomial f_polynomial d_polynomial
  b_polynomial : Binds K d_polynomial ["terms"] []
  g_polynomial : mg "polynomial" = some (.ref f_polynomial)
  f_in_order : Addr
  d_in_order : FuncData
  c_in_order : Addr
  P_in_order : Addr
  F_in_order : FunC K "_in_order" "_in_order" s_in_order f_in_order d_in_order c_in_order
  b_in_order : Binds K d_in_order ["found"] []
  g_in_order : mg "_in_order" = some (.ref f_in_order)
  f_plus : Addr
  d_plus : FuncData
  F_plus : Fun K "plus" "plus" s_plus f_plus d_plus
  b_plus : Binds K d_plus ["p", "q"] []
  g_plus : mg "plus" = some (.ref f_plus)
  f_minus : Addr
  d_minus : FuncData
  c_minus : Addr
  P_minus : Addr
  F_minus : FunC K "minus" "minus" s_minus f_minus d_minus c_minus
  b_minus : Binds K d_minus ["p", "q"] []
  g_minus : mg "minus" = some (.ref f_minus)
  f_times : Addr
  d_times : FuncData
  F_times : Fun K "times" "times" s_times f_times d_times
  b_times : Binds K d_times ["p", "q"] []
  g_times : mg "times" = some (.ref f_times)
  f_power : Addr
  d_power : FuncData
  F_power : Fun K "power" "power" s_power f_power d_power
  b_power : Binds K d_power ["p", "exponent"] []
  g_power : mg "power" = some (.ref f_power)
  f_shared : Addr
  d_shared : FuncData
  c_shared : Addr
  P_shared : Addr
  F_shared : FunC K "shared" "shared" s_shared f_shared d_shared c_shared
  b_shared : Binds K d_shared ["p", "divisor"] []
  g_shared : mg "shared" = some (.ref f_shared)
  f_law_cell : Addr
  d_law_cell : FuncData
  F_law_cell : Fun K "_law_cell" "_law_cell" s_law_cell f_law_cell d_law_cell
  b_law_cell : Binds K d_law_cell ["script", "k"] []
  g_law_cell : mg "_law_cell" = some (.ref f_law_cell)
  f_law_mix : Addr
  d_law_mix : FuncData
  F_law_mix : Fun K "_law_mix" "_law_mix" s_law_mix f_law_mix d_law_mix
  b_law_mix : Binds K d_law_mix ["cell", "k"] []
  g_law_mix : mg "_law_mix" = some (.ref f_law_mix)
  f_law_row : Addr
  d_law_row : FuncData
  F_law_row : Fun K "_law_row" "_law_row" s_law_row f_law_row d_law_row
  b_law_row : Binds K d_law_row ["cell", "count", "bound"] []
  g_law_row : mg "_law_row" = some (.ref f_law_row)
  f_law_tuples : Addr
  d_law_tuples : FuncData
  F_law_tuples : Fun K "_law_tuples" "_law_tuples" s_law_tuples f_law_tuples d_law_tuples
  b_law_tuples : Binds K d_law_tuples ["value"] []
  g_law_tuples : mg "_law_tuples" = some (.ref f_law_tuples)
  f_law_poly : Addr
  d_law_poly : FuncData
  F_law_poly : Fun K "_law_poly" "_law_poly" s_law_poly f_law_poly d_law_poly
  b_law_poly : Binds K d_law_poly ["terms"] []
  g_law_poly : mg "_law_poly" = some (.ref f_law_poly)
  f_law_product : Addr
  d_law_product : FuncData
  F_law_product : Fun K "_law_product" "_law_product" s_law_product f_law_product d_law_product
  b_law_product : Binds K d_law_product ["p", "q"] []
  g_law_product : mg "_law_product" = some (.ref f_law_product)
  f_law_terms : Addr
  d_law_terms : FuncData
  F_law_terms : Fun K "_law_terms" "_law_terms" s_law_terms f_law_terms d_law_terms
  b_law_terms : Binds K d_law_terms ["cell", "most"] []
  g_law_terms : mg "_law_terms" = some (.ref f_law_terms)
  f_ONE : Addr
  g_ONE : mg "ONE" = some (.ref f_ONE)
  k_ONE : ∀ H, PolyAt K H f_ONE PM.one
  m_abs : mg "abs" = none
  m_all : mg "all" = none
  m_any : mg "any" = none
  m_bool : mg "bool" = none
  m_int : mg "int" = none
  m_isinstance : mg "isinstance" = none
  m_len : mg "len" = none
  m_list : mg "list" = none
  m_range : mg "range" = none
  m_sorted : mg "sorted" = none
  m_tuple : mg "tuple" = none
structure Tb {K : PySem.W.Frag} {mg : Str → Option Value} (T : Top K mg) (base : Heap) : Prop where
  t_in_order : LamX.TabB base mg T.c_in_order T.P_in_order
  t_minus : LamX.TabB base mg T.c_minus T.P_minus
  t_shared : LamX.TabB base mg T.c_shared T.P_shared
/-- the tables stand -/
structure Tg {K : PySem.W.Frag} {mg : Str → Option Value} (T : Top K mg) (H : Hp) : Prop where
  t_in_order : GxR.TabG H T.P_in_order
  t_minus : GxR.TabG H T.P_minus
  t_shared : GxR.TabG H T.P_shared
theorem Tg.ext {K : PySem.W.Frag} {mg : Str → Option Value} {T : Top K mg} {H H1 : Hp} (G : Tg T H) (s : Ext H H1) : Tg T H1 := ⟨s.tab G.t_in_order, s.tab G.t_minus, s.tab G.t_shared⟩
theorem sl2 : (2 : Nat) ≤ sizeLine := by rw [sizeLine_eq]; decide
theorem sl_of {n : Nat} (h : n ≤ 1000000) : n ≤ sizeLine := by rw [sizeLine_eq]; omega
theorem sl_lt {n : Nat} (h : n < 1000000) : n < sizeLine := by rw [sizeLine_eq]; omega
end KP
namespace KP
open PySem PySem.Spec PyProof.Rows L2 EXT SDT GXP
open PM (Trm Ex canon mulT look put gather keys addTo pw one addE Canon)
section
variable {P : Program} {w : World} {K : PySem.W.Frag} {mg : Str → Option Value} {base : Heap}
theorem iteB {c : Bool} {A B : Prop} (h1 : c = true → A) (h2 : c = false → B) : if c = true then A else B := by
  cases c
  · exact iteF (h2 rfl)
  · exact iteT (h1 rfl)
theorem paired_at' {α β : Type} {R : α → β → Prop} : ∀ {as : List α} {bs : List β} {i : Nat} {b : β}, Paired R as bs → bs[i]? = some b → ∃ a, as[i]? = some a ∧ R a b
  | _, _, _, _, .nil, h => by simp at h
  | _, _, 0, _, .cons x t, h => by
    simp only [List.getElem?_cons_zero, Option.some.injEq] at h
    subst h
    exact ⟨_, rfl, x⟩
  | _, _, i + 1, _, .cons x t, h => by
    simp only [List.getElem?_cons_succ] at h
    obtain ⟨b, h1, h2⟩ := paired_at' t h
    exact ⟨b, by simpa using h1, h2⟩
/-- the dict d holds the terms D, a gathering of ts: in comes d, out comes a new tuple -/
def spIn (T : Top K mg) : Sp := fun vs H Q _ => ∃ (d : Addr) (D ts : List Trm), vs = [.ref d] ∧ H d = some (.dT (kvsOf D)) ∧ (keys D).Nodup ∧ PM.Eqv D ts ∧ D.length < 1000000 ∧ Tg T H ∧
  ∀ p H', Ext H H' → PolyT H' p (canon ts) → H p = none → Q (.ref p) H'
theorem ok_in_order (T : Top K mg) (B : Tb T base) : FnOk P w K mg base CX0 2 T.f_in_order T.d_in_order ["found"] (spIn T) := by
  refine T.F_in_order.ok sc_in_order (fun vs H Q E h => ?_) (fun A outer s H vs Q E hr h => ?_)
  · obtain ⟨d, D, ts, rfl, _⟩ := h
    rfl
  · obtain ⟨d, D, ts, rfl, hd, hn, he, hlen, G, q⟩ := h
    refine ⟨_, (pss_one (ps_ret (GXP.pe_tupleGx (own := [("pair", 1)]) (g := gName 1) (k := 0) (c := T.c_in_order) (P := T.P_in_order) (by rfl) T.m_tuple ⟨hr.mono (by decide), rfl, B.t_in_order, rfl, rfl, blkOk_by (own := [("pair", 1)]) (N := n_in_order) (sc := defScope s_in_order) (by decide +kernel), sc_in_order.nd, by decide +kernel, rfl, (pi_list (pe_callB (SDT.cr_sortedDT rfl) (by rfl) T.m_sorted (by decide +kernel) (pa_cons (pv 0) pa_nil))), fun A s H C cl code bi fp hrA => (pg_name (i := 1) sc_in_order.nd rfl (by first | exact .inl rfl | exact .inr rfl)), fun A s H C cl code bi fp hrA => (pts_one (pt_cmpR op_ne (pe_dget (hu_of hrA) (pv 0) (pv 1) (fun _ _ => rfl)) pe_int (nomark _))), fun A s H C cl code bi fp hrA => (pe_tup (pa_cons (pv 1) (pa_cons (pe_dget (hu_of hrA) (pv 0) (pv 1) (fun _ _ => rfl)) pa_nil))), fun _ => rfl⟩))), ?_⟩
    refine ⟨_, rfl, d, _, keys D, rfl, .inl hd, keys_kvs D, fun ks bs l hp hs hb hl => ?_⟩
    refine ⟨l, rfl, ⟨_, SqL.of upd_same⟩, (G.ext (ext_upd hl)).t_in_order, fun H2 t2 => ?_⟩
    have e0 : Ext H (upd H l (.lst (bs.map V.ref))) := ext_upd hl
    have e2 : Ext H H2 := e0.tabbed (G.ext e0).t_in_order t2
    have hl2 : H2 l = some (.lst (bs.map V.ref)) := (ext_tabbed (G.ext e0).t_in_order t2).lst upd_same
    refine gx_list (xs := bs.map V.ref) (fun i ys H3 => Ext H2 H3 ∧ TermsT H3 ys (PM.read D (ks.take i))) ⟨Ext.refl _, .nil⟩ (fun i ys H3 _ h => SqL.of (h.1.lst hl2)) (fun i x ys H3 hi hP => ?_) (fun ys H3 hP => ?_)
    · obtain ⟨s3, hy⟩ := hP
      rw [List.getElem?_map] at hi
      cases hbi : bs[i]? with
      | none => rw [hbi] at hi; cases hi
      | some b =>
        rw [hbi] at hi
        cases hi
        obtain ⟨k, hk, hkb⟩ := paired_at' hb hbi
        have e3 : Ext H H3 := e2.trans s3
        have hb3 : PairAt H3 k b := e3.at hkb
        have hm : k ∈ keys D := hp.mem_iff.mp (List.mem_of_getElem? hk)
        have hg : DGet H3 d (.ref b) (some (.int (look D k))) := by
          have := DGet.t (e3.dt hd) (k := pairKey k) hb3
          rw [valV_kvs, if_pos hm] at this
          exact this
        have tk : ks.take (i + 1) = ks.take i ++ [k] := by rw [List.take_add_one, hk]; rfl
        refine ⟨rfl, _, rfl, _, rfl, d, _, rfl, hg, rfl, _, rfl, iteB (fun z => ?_) (fun z => ?_)⟩
        · have nz : look D k ≠ 0 := fun w => by
            rw [w] at z
            cases z
          refine ⟨_, rfl, _, rfl, _, rfl, d, _, rfl, hg, sl2, fun p2 hp2 => ⟨?_, s3.new hp2, ?_⟩⟩
          · have l1 := hy.length
            have l2 : (PM.read D (ks.take i)).length ≤ D.length := by
              unfold PM.read
              rw [List.length_map]
              have h1 : ((ks.take i).filter fun k => decide (look D k ≠ 0)).length ≤ (ks.take i).length := List.length_filter_le _ _
              have h2 : (ks.take i).length ≤ ks.length := by rw [List.length_take]; omega
              have h3 := hp.length_eq
              have h4 : (keys D).length = D.length := by
                unfold keys
                rw [List.length_map]
              omega
            exact sl_lt (by omega)
          · rw [tk]
            have : PM.read D (ks.take i ++ [k]) = PM.read D (ks.take i) ++ [(k, look D k)] := by
              unfold PM.read
              rw [List.filter_append, List.filter_cons_of_pos (by simp [nz]), List.filter_nil, List.map_append]
              rfl
            rw [this]
            exact paired_snoc ((ext_upd hp2).termsT hy) ⟨p2, b, rfl, upd_same, (ext_upd hp2).at hb3⟩
        · have nz : look D k = 0 := by
            have z2 : decide (V.int (look D k) = V.int 0) = true := by simpa using z
            exact V.int.inj (of_decide_eq_true z2)
          refine ⟨s3, ?_⟩
          rw [tk]
          have : PM.read D (ks.take i ++ [k]) = PM.read D (ks.take i) := by
            unfold PM.read
            rw [List.filter_append, List.filter_cons_of_neg (by simp [nz]), List.filter_nil, List.append_nil]
          rw [this]
          exact hy
    · obtain ⟨s3, hy⟩ := hP
      have ek : PM.read D (ks.take (bs.map V.ref).length) = canon ts := by
        rw [List.length_map, ← hb.length, List.take_length]
        exact PM.read_canon hn he hp (hs.imp fun h => lex_lt.mp h)
      rw [ek] at hy
      intro p hp2
      have e3 : Ext H H3 := e2.trans s3
      exact q p _ (e3.new hp2) ⟨ys, upd_same, (ext_upd hp2).termsT hy⟩ (e3.free hp2)
/-- hands back a new tuple of the terms ts -/
def NewP (H : Hp) (Q : VK) (ts : List Trm) : Prop := ∀ p H', Ext H H' → PolyT H' p ts → H p = none → Q (.ref p) H'
/-- a list or a tuple of terms comes in -/
def spPoly (T : Top K mg) : Sp := fun vs H Q _ => ∃ (a : Addr) (xs : List V) (ts : List Trm), vs = [.ref a] ∧ (SqL K H a xs ∨ SqT K H a xs) ∧ Terms K H xs ts ∧ ts.length < 1000000 ∧ Tg T H ∧ NewP H Q (canon ts)
theorem gather_len (ts : List Trm) : (gather ts).length ≤ ts.length := by
  have := PM.length_gather_go ts []
  simpa [gather] using this
theorem gather_snoc (ts : List Trm) (t : Trm) : gather (ts ++ [t]) = addTo (gather ts) t := by
  unfold gather
  rw [List.foldl_append]
  rfl
theorem take_snoc {α : Type} {l : List α} {i : Nat} {x : α} (h : l[i]? = some x) : l.take (i + 1) = l.take i ++ [x] := by
  rw [List.take_add_one, h]
  rfl
theorem ok_polynomial (T : Top K mg) (B : Tb T base) : FnOk P w K mg base CX0 3 T.f_polynomial T.d_polynomial ["terms"] (spPoly T) := by
  refine T.F_polynomial.ok sc_polynomial (fun vs H Q E h => ?_) (fun cdv A outer s H vs Q E hr h => ?_)
  · obtain ⟨a, xs, ts, rfl, _⟩ := h
    rfl
  · obtain ⟨a, xs, ts, rfl, ha, hts, hlen, G, q⟩ := h
    refine ⟨_, (pss_cons (ps_set (i := 1) sc_polynomial.nd rfl (by first | exact .inl rfl | exact .inr rfl) pe_dnewT)
      (pss_cons (ps_for PassesOwn.never rfl (pi_seq (pv 0)) (pg_tup rfl (pgs_cons (pg_tup rfl (pgs_cons (pg_name (i := 2) sc_polynomial.nd rfl (by first | exact .inl rfl | exact .inr rfl)) (pgs_cons (pg_name (i := 3) sc_polynomial.nd rfl (by first | exact .inl rfl | exact .inr rfl)) pgs_nil))) (pgs_cons (pg_name (i := 4) sc_polynomial.nd rfl (by first | exact .inl rfl | exact .inr rfl)) pgs_nil))) (pss_one (ps_dput (hu_of hr) (pv 1) (pe_tup (pa_cons (pv 2) (pa_cons (pv 3) pa_nil))) (pe_op op_add (pe_dget2 (hu_of hr) (pv 1) (pe_tup (pa_cons (pv 2) (pa_cons (pv 3) pa_nil))) pe_int ⟨rfl, rfl, rfl, rfl⟩) (pv 4)) rfl)))
      (pss_one (ps_ret (pe_call (ok_in_order T B) (hr.mono (by decide)) (by rfl) T.g_in_order T.F_in_order.kp T.b_in_order .nil pass0 (pa_cons (pv 1) pa_nil)))))), ?_⟩
    intro d hd
    have e1 : Ext H (upd H d (.dT [])) := ext_upd hd
    have hxl := hts.length
    refine ⟨_, rfl, a, rfl, for_seq (xs := xs) ha (fun i σ H1 => (∃ x y z, σ = [some (.ref a), some (.ref d), x, y, z]) ∧ Ext H H1 ∧ H1 d = some (.dT (kvsOf (gather (ts.take i))))) ⟨⟨_, _, _, rfl⟩, e1, upd_same⟩ (fun i σ H1 _ h => h.2.1) (fun i x σ H1 hi hP => ?_) (fun σ H1 hP => ?_)⟩
    · obtain ⟨⟨x1, x2, x3, rfl⟩, s1, hd1⟩ := hP
      obtain ⟨t, ht, a1, b1, rfl, h1, h2⟩ := paired_at hts hi
      refine ⟨a1, _, rfl, s1.tup h1, rfl, _, _, rfl, ?_⟩
      refine ⟨b1, _, rfl, s1.tup h2, rfl, _, _, rfl, _, _, rfl, rfl, _, _, rfl, rfl, ?_⟩
      refine ⟨_, rfl, d, rfl, .inr ⟨_, .inl hd1⟩, _, rfl, _, rfl, sl2, fun p hp => ?_⟩
      have hd2 : upd H1 p (.tup [.int t.1.1, .int t.1.2]) d = some (.dT (kvsOf (gather (ts.take i)))) := (ext_upd hp).dt hd1
      refine ⟨_, DGet.t hd2 (k := pairKey t.1) upd_same, _, rfl, look (gather (ts.take i)) t.1, t.2, getD_kvs _ _, rfl, ?_⟩
      refine ⟨_, rfl, _, rfl, _, rfl, sl2, fun p2 hp2 => ⟨d, _, rfl, DPut.t ((ext_upd hp2).dt hd2) (k := pairKey t.1) upd_same ?_, ?_⟩⟩
      · have l1 := gather_len (ts.take i)
        have l2 : (ts.take i).length ≤ ts.length := by rw [List.length_take]; omega
        rw [length_kvs]
        exact sl_lt (by omega)
      · refine ⟨⟨_, _, _, rfl⟩, ((s1.new hp).new hp2).own hd, ?_⟩
        rw [upd_same, put_kvs, take_snoc ht, gather_snoc]
        rfl
    · obtain ⟨⟨x1, x2, x3, rfl⟩, s1, hd1⟩ := hP
      have l1 := gather_len ts
      rw [hxl, List.take_length] at hd1
      refine ⟨_, rfl, d, gather ts, ts, rfl, hd1, PM.gather_nodup ts, PM.gather_eqv ts, by omega, G.ext s1, fun p H2 s2 hp h0 => q p H2 (s1.trans s2) hp (s1.free h0)⟩
/-- two polynomials come in -/
def spPlus (T : Top K mg) (f : List Trm → List Trm → List Trm) : Sp := fun vs H Q _ => ∃ (a b : Addr) (p q : List Trm), vs = [.ref a, .ref b] ∧ PolyAt K H a p ∧ PolyAt K H b q ∧ p.length + q.length < 1000000 ∧ Tg T H ∧ NewP H Q (canon (f p q))
theorem terms_app {H : Hp} {xs ys : List V} {p q : List Trm} (h : Terms K H xs p) (k : Terms K H ys q) : Terms K H (xs ++ ys) (p ++ q) := paired_app h k
theorem terms_nil {H : Hp} {p : List Trm} (h : Terms K H [] p) : p = [] := by
  cases h
  rfl
theorem terms_nil' {H : Hp} {xs : List V} (h : Terms K H xs []) : xs = [] := by
  cases h
  rfl
/-- p + q as an argument of polynomial -/
theorem cat_poly (T : Top K mg) {H : Hp} {Q : VK} {E : XK} {a b : Addr} {xs ys : List V} {p q : List Trm} (h1 : SqT K H a xs) (h2 : Terms K H xs p) (k1 : SqT K H b ys) (k2 : Terms K H ys q) (hl : p.length + q.length < 1000000) (G : Tg T H) (r : NewP H Q (canon (p ++ q))) :
    rCatA K (.ref a) (.ref b) H fun v H1 => spPoly (K := K) T [v] H1 Q E := by
  have l1 := h2.length
  have l2 := k2.length
  refine ⟨a, b, xs, ys, rfl, rfl, h1, k1, sl_of (by omega), fun e => ?_, fun e1 e2 => ?_, fun e1 e2 c hc => ?_⟩
  · subst e
    have := terms_nil h2
    subst this
    exact ⟨b, ys, q, rfl, .inr k1, k2, by omega, G, r⟩
  · subst e2
    have := terms_nil k2
    subst this
    rw [List.append_nil] at r
    exact ⟨a, xs, p, rfl, .inr h1, h2, by omega, G, r⟩
  · have e := ext_upd (o := .tup (xs ++ ys)) hc
    exact ⟨c, xs ++ ys, p ++ q, rfl, .inr (SqT.of upd_same), e.terms (terms_app h2 k2), by rw [List.length_append]; omega, G.ext e, fun p2 H2 s2 h n => r p2 H2 (e.trans s2) h (e.free n)⟩
theorem ok_plus (T : Top K mg) (B : Tb T base) : FnOk P w K mg base CX0 4 T.f_plus T.d_plus ["p", "q"] (spPlus T (· ++ ·)) := by
  refine T.F_plus.ok sc_plus (fun vs H Q E h => ?_) (fun cdv A outer s H vs Q E hr h => ?_)
  · obtain ⟨a, b, p, q, rfl, _⟩ := h
    rfl
  · obtain ⟨a, b, p, q, rfl, ⟨xs, h1, h2⟩, ⟨ys, k1, k2⟩, hl, G, r⟩ := h
    refine ⟨_, (pss_one (ps_ret (pe_call (ok_polynomial T B) (hr.mono (by decide)) (by rfl) T.g_polynomial T.F_polynomial.kp T.b_polynomial .nil pass0 (pa_cons (pe_op op_catA (pv 0) (pv 1)) pa_nil)))), ?_⟩
    exact ⟨_, rfl, _, rfl, cat_poly (E := E) T h1 h2 k1 k2 hl G r⟩
def neg (t : Trm) : Trm := (t.1, -t.2)
theorem ok_minus (T : Top K mg) (B : Tb T base) : FnOk P w K mg base CX0 4 T.f_minus T.d_minus ["p", "q"] (spPlus T fun p q => p ++ q.map neg) := by
  refine T.F_minus.ok sc_minus (fun vs H Q E h => ?_) (fun A outer s H vs Q E hr h => ?_)
  · obtain ⟨a, b, p, q, rfl, _⟩ := h
    rfl
  · obtain ⟨a, b, p, q, rfl, ⟨xs, h1, h2⟩, ⟨ys, k1, k2⟩, hl, G, r⟩ := h
    refine ⟨_, (pss_one (ps_ret (pe_call (ok_polynomial T B) (hr.mono (by decide)) (by rfl) T.g_polynomial T.F_polynomial.kp T.b_polynomial .nil pass0 (pa_cons (pe_op op_catA (pv 0) (GXP.pe_tupleGx (own := [("pair", 2), ("c", 3)]) (g := gTup K 2 (gCons (gName 2) (gCons (gName 3) gNil))) (tt := tYes) (k := 2) (c := T.c_minus) (P := T.P_minus) (by rfl) T.m_tuple ⟨hr.mono (by decide), rfl, B.t_minus, rfl, rfl, blkOk_by (own := [("pair", 2), ("c", 3)]) (N := n_minus) (sc := defScope s_minus) (by decide +kernel), sc_minus.nd, by decide +kernel, rfl, (pi_tup (pv 1)), fun A s H C cl code bi fp hrA => (pg_tup rfl (pgs_cons (pg_name (i := 2) sc_minus.nd rfl (by first | exact .inl rfl | exact .inr rfl)) (pgs_cons (pg_name (i := 3) sc_minus.nd rfl (by first | exact .inl rfl | exact .inr rfl)) pgs_nil))), fun A s H C cl code bi fp hrA => pts_nil, fun A s H C cl code bi fp hrA => (pe_tup (pa_cons (pv 2) (pa_cons (pe_un un_neg (pv 3)) pa_nil))), fun _ => rfl⟩)) pa_nil)))), ?_⟩
    have l2 := k2.length
    refine ⟨_, rfl, _, rfl, b, rfl, ⟨_, k1⟩, G.t_minus, fun H2 t2 => ?_⟩
    have e2 : Ext H H2 := ext_tabbed G.t_minus t2
    refine gx_tup (xs := ys) (fun i zs H3 => Ext H2 H3 ∧ Terms K H3 zs ((q.take i).map neg)) ⟨Ext.refl _, .nil⟩ (fun i zs H3 _ h => (e2.trans h.1).tup k1) (fun i x zs H3 hi hP => ?_) (fun zs H3 hP => ?_)
    · obtain ⟨s3, hz⟩ := hP
      obtain ⟨t, ht, a1, b1, rfl, g1, g2⟩ := paired_at k2 hi
      have e3 := e2.trans s3
      refine ⟨a1, _, rfl, e3.tup g1, rfl, _, _, rfl, _, _, rfl, rfl, rfl, ?_⟩
      refine ⟨_, rfl, _, rfl, t.2, rfl, sl2, fun p2 hp2 => ⟨?_, s3.new hp2, ?_⟩⟩
      · have l3 := hz.length
        rw [List.length_map, List.length_take] at l3
        exact sl_lt (by omega)
      · rw [take_snoc ht, List.map_append]
        exact paired_snoc ((ext_upd hp2).terms hz) ⟨p2, b1, rfl, SqT.of upd_same, (ext_upd hp2).tup (e3.tup g2)⟩
    · obtain ⟨s3, hz⟩ := hP
      intro c hc
      rw [l2, List.take_length] at hz
      have e3 := e2.trans s3
      have e4 := e3.new (o := .tup zs) hc
      refine cat_poly (E := E) T (e4.tup h1) (e4.terms h2) (SqT.of upd_same) ((ext_upd hc).terms hz) (by rw [List.length_map]; exact hl) (G.ext e4) fun p2 H5 s5 hp hn => r p2 H5 (e4.trans s5) hp (e4.free hn)
def mid (z : Int) : Prop := z.natAbs < 2 ^ 1900
theorem mid_mul {x y : Int} (hx : mid x) (hy : mid y) : CMulW x y := wide_mul hx hy (by decide) (by decide) (by decide)
/-- two polynomials of no more than a million products -/
def spTimes (T : Top K mg) : Sp := fun vs H Q _ => ∃ (a b : Addr) (p q : List Trm), vs = [.ref a, .ref b] ∧ PolyAt K H a p ∧ PolyAt K H b q ∧ p.length * q.length < 1000000 ∧ (∀ t ∈ p, mid t.2) ∧ (∀ t ∈ q, mid t.2) ∧ Tg T H ∧ NewP H Q (canon (mulT p q))
def rowT (x : Trm) (q : List Trm) : List Trm := q.map fun y => (addE x.1 y.1, x.2 * y.2)
theorem mul_snoc (p q : List Trm) (x : Trm) : mulT (p ++ [x]) q = mulT p q ++ rowT x q := by
  unfold mulT rowT
  rw [List.flatMap_append]
  simp
theorem len_part (p q : List Trm) (i j : Nat) (x : Trm) (hi : p[i]? = some x) : (mulT (p.take i) q ++ rowT x (q.take j)).length ≤ p.length * q.length := by
  have h : i < p.length := (List.getElem?_eq_some_iff.mp hi).1
  unfold rowT
  rw [List.length_append, PM.length_mul, List.length_map, List.length_take, List.length_take]
  have h1 : min i p.length = i := by omega
  rw [h1]
  have h2 : (i + 1) * q.length ≤ p.length * q.length := Nat.mul_le_mul_right _ h
  rw [Nat.add_mul, Nat.one_mul] at h2
  omega
theorem ok_times (T : Top K mg) (B : Tb T base) : FnOk P w K mg base CX0 3 T.f_times T.d_times ["p", "q"] (spTimes T) := by
  refine T.F_times.ok sc_times (fun vs H Q E h => ?_) (fun cdv A outer s H vs Q E hr h => ?_)
  · obtain ⟨a, b, p, q, rfl, _⟩ := h
    rfl
  · obtain ⟨a, b, p, q, rfl, ⟨xs, h1, h2⟩, ⟨ys, k1, k2⟩, hl, hmp, hmq, G, r⟩ := h
    refine ⟨_, (pss_cons (ps_set (i := 2) sc_times.nd rfl (by first | exact .inl rfl | exact .inr rfl) pe_dnewT)
      (pss_cons (ps_for PassesOwn.never rfl (pi_tup (pv 0)) (pg_tup rfl (pgs_cons (pg_tup rfl (pgs_cons (pg_name (i := 3) sc_times.nd rfl (by first | exact .inl rfl | exact .inr rfl)) (pgs_cons (pg_name (i := 4) sc_times.nd rfl (by first | exact .inl rfl | exact .inr rfl)) pgs_nil))) (pgs_cons (pg_name (i := 5) sc_times.nd rfl (by first | exact .inl rfl | exact .inr rfl)) pgs_nil))) (pss_one (ps_for PassesOwn.never rfl (pi_tup (pv 1)) (pg_tup rfl (pgs_cons (pg_tup rfl (pgs_cons (pg_name (i := 6) sc_times.nd rfl (by first | exact .inl rfl | exact .inr rfl)) (pgs_cons (pg_name (i := 7) sc_times.nd rfl (by first | exact .inl rfl | exact .inr rfl)) pgs_nil))) (pgs_cons (pg_name (i := 8) sc_times.nd rfl (by first | exact .inl rfl | exact .inr rfl)) pgs_nil))) (pss_cons (ps_set (i := 9) sc_times.nd rfl (by first | exact .inl rfl | exact .inr rfl) (pe_tup (pa_cons (pe_op op_add (pv 3) (pv 6)) (pa_cons (pe_op op_add (pv 4) (pv 7)) pa_nil))))
      (pss_one (ps_dput (hu_of hr) (pv 2) (pv 9) (pe_op op_add (pe_dget2 (hu_of hr) (pv 2) (pv 9) pe_int ⟨rfl, rfl, rfl, rfl⟩) (pe_op op_mulW (pv 5) (pv 8))) rfl))))))
      (pss_one (ps_ret (pe_call (ok_in_order T B) (hr.mono (by decide)) (by rfl) T.g_in_order T.F_in_order.kp T.b_in_order .nil pass0 (pa_cons (pv 2) pa_nil)))))), ?_⟩
    intro d hd
    have l1 := h2.length
    have l2 := k2.length
    refine ⟨_, rfl, a, rfl, ⟨xs, (ext_upd hd).tup h1⟩, for_tup (xs := xs) (fun i σ H1 => (∃ x1 x2 x3 x4 x5 x6 x7, σ = [some (.ref a), some (.ref b), some (.ref d), x1, x2, x3, x4, x5, x6, x7]) ∧ Ext H H1 ∧ H1 d = some (.dT (kvsOf (gather (mulT (p.take i) q)))))
      ⟨⟨_, _, _, _, _, _, _, rfl⟩, ext_upd hd, upd_same⟩ (fun i σ H1 _ h => h.2.1.tup h1) (fun i x σ H1 hi hP => ?_) (fun σ H1 hP => ?_)⟩
    · obtain ⟨⟨x1, x2, x3, x4, x5, x6, x7, rfl⟩, s1, hd1⟩ := hP
      obtain ⟨t, ht, a1, b1, rfl, g1, g2⟩ := paired_at h2 hi
      refine ⟨a1, _, rfl, s1.tup g1, rfl, _, _, rfl, ?_⟩
      refine ⟨b1, _, rfl, s1.tup g2, rfl, _, _, rfl, _, _, rfl, rfl, _, _, rfl, rfl, ?_⟩
      have ep : mulT (p.take (i + 1)) q = mulT (p.take i) q ++ rowT t q := by rw [take_snoc ht, mul_snoc]
      refine ⟨_, rfl, b, rfl, ⟨ys, s1.tup k1⟩, for_tup (xs := ys) (fun j σ H2 => (∃ y1 y2 y3 y4, σ = [some (.ref a), some (.ref b), some (.ref d), some (.int t.1.1), some (.int t.1.2), some (.int t.2), y1, y2, y3, y4]) ∧ Ext H H2 ∧ H2 d = some (.dT (kvsOf (gather (mulT (p.take i) q ++ rowT t (q.take j))))))
        ⟨⟨_, _, _, _, rfl⟩, s1, by rw [List.take_zero, show rowT t [] = [] from rfl, List.append_nil]; exact hd1⟩ (fun j σ H2 _ h => h.2.1.tup k1) (fun j y σ H2 hj hP2 => ?_) (fun σ H2 hP2 => ?_)⟩
      · obtain ⟨⟨y1, y2, y3, y4, rfl⟩, s2, hd2⟩ := hP2
        obtain ⟨u, hu, c1, e1, rfl, m1, m2⟩ := paired_at k2 hj
        refine ⟨c1, _, rfl, s2.tup m1, rfl, _, _, rfl, ?_⟩
        refine ⟨e1, _, rfl, s2.tup m2, rfl, _, _, rfl, _, _, rfl, rfl, _, _, rfl, rfl, ?_⟩
        have mt := mid_mul (hmp t (List.mem_of_getElem? ht)) (hmq u (List.mem_of_getElem? hu))
        refine ⟨_, rfl, _, rfl, _, _, rfl, rfl, _, rfl, _, rfl, _, _, rfl, rfl, sl2, fun p2 hp2 => ?_⟩
        have hd3 := (ext_upd (o := .tup [.int (t.1.1 + u.1.1), .int (t.1.2 + u.1.2)]) hp2).dt hd2
        refine ⟨_, rfl, d, rfl, .inr ⟨_, .inl hd3⟩, _, rfl, _, DGet.t hd3 (k := pairKey (addE t.1 u.1)) upd_same, _, rfl, _, rfl, _, _, rfl, rfl, mt, ?_⟩
        refine ⟨look (gather (mulT (p.take i) q ++ rowT t (q.take j))) (addE t.1 u.1), t.2 * u.2, getD_kvs _ _, rfl, ?_⟩
        refine ⟨_, rfl, _, rfl, d, _, rfl, DPut.t hd3 (k := pairKey (addE t.1 u.1)) upd_same ?_, ?_⟩
        · have l3 := gather_len (mulT (p.take i) q ++ rowT t (q.take j))
          have l4 := len_part p q i j t ht
          rw [length_kvs]
          exact sl_lt (by omega)
        · refine ⟨⟨_, _, _, _, rfl⟩, (s2.new hp2).own hd, ?_⟩
          rw [upd_same, put_kvs, take_snoc hu]
          have e9 : rowT t (q.take j ++ [u]) = rowT t (q.take j) ++ [(addE t.1 u.1, t.2 * u.2)] := by
            unfold rowT
            rw [List.map_append]
            rfl
          rw [e9, ← List.append_assoc, gather_snoc]
          rfl
      · obtain ⟨⟨y1, y2, y3, y4, rfl⟩, s2, hd2⟩ := hP2
        refine ⟨⟨_, _, _, _, _, _, _, rfl⟩, s2, ?_⟩
        rw [l2, List.take_length] at hd2
        rw [ep]
        exact hd2
    · obtain ⟨⟨x1, x2, x3, x4, x5, x6, x7, rfl⟩, s1, hd1⟩ := hP
      rw [l1, List.take_length] at hd1
      have l3 := gather_len (mulT p q)
      rw [PM.length_mul] at l3
      exact ⟨_, rfl, d, gather (mulT p q), mulT p q, rfl, hd1, PM.gather_nodup _, PM.gather_eqv _, by omega, G.ext s1, fun p2 H2 s2 hp h0 => r p2 H2 (s1.trans s2) hp (s1.free h0)⟩
/-- // by a divisor that is not 0, below 2 ^ 9000 -/
def CDivZ (_ j : Int) : Prop := j ≠ 0 ∧ j.natAbs.log2 < 9000
theorem op_fdivZ {X : Cx} : OpR X (binaryOp .FloorDiv) (rI CDivZ fun i j => .int (i.fdiv j)) := opI fun i j _ _ _ _ _ hc q =>
  floordiv_int hc.1 q (.inl (PyProof.noPylong_of_log2 hc.2))
theorem bit1 (k : Nat) : Builtin.bitAnd (k : Int) 1 = ((k % 2 : Nat) : Int) := by
  have h := PySem.W.kbt_mask (k : Int) 1
  have e : (2 : Int) ^ 1 - 1 = 1 := by decide
  rw [e] at h
  rw [h]
  have e2 : (2 : Int) ^ 1 = 2 := by decide
  rw [e2]
  omega
/-- S is a j-th power of p, not larger than it must be -/
structure Sq (p : List Trm) (S : List Trm) (j : Nat) : Prop where
  eqv : PM.Eqv S (pw p j)
  len : S.length ≤ p.length ^ j
  nrm : PM.norm S ≤ PM.norm p ^ j
theorem Sq.mul {p S S' : List Trm} {i j : Nat} (a : Sq p S i) (b : Sq p S' j) : Sq p (canon (mulT S S')) (i + j) := by
  refine ⟨(PM.eqv_canon _).trans ((PM.Eqv.mul a.eqv b.eqv).trans (PM.pw_add p i j)), ?_, ?_⟩
  · refine Nat.le_trans (PM.length_canon_le _) ?_
    rw [PM.length_mul, Nat.pow_add]
    exact Nat.mul_le_mul a.len b.len
  · refine Nat.le_trans (PM.norm_canon _) ?_
    rw [PM.norm_mul, Nat.pow_add]
    exact Nat.mul_le_mul a.nrm b.nrm
theorem sq_one (p : List Trm) : Sq p one 0 := ⟨PM.Eqv.refl _, Nat.le_refl _, Nat.le_refl _⟩
theorem sq_self (p : List Trm) : Sq p p 1 := ⟨(PM.one_mul p).symm, by rw [Nat.pow_one]; exact Nat.le_refl _, by rw [Nat.pow_one]; exact Nat.le_refl _⟩
/-- the base of a power -/
def Lowp (p : List Trm) : Prop := p.length ≤ 8 ∧ PM.norm p ≤ 2 ^ 60
theorem Sq.small {p S : List Trm} {j : Nat} (h : Sq p S j) (hp : Lowp p) (hj : j ≤ 3) : S.length ≤ 512 ∧ ∀ t ∈ S, mid t.2 := by
  have h1 : p.length ^ j ≤ 8 ^ 3 := Nat.le_trans (Nat.pow_le_pow_left hp.1 j) (Nat.pow_le_pow_right (by decide) hj)
  have h2 : PM.norm p ^ j ≤ (2 ^ 60) ^ 3 := Nat.le_trans (Nat.pow_le_pow_left hp.2 j) (Nat.pow_le_pow_right (by decide) hj)
  refine ⟨Nat.le_trans h.len h1, fun t ht => ?_⟩
  have h3 := PM.norm_mem ht
  have h4 := h.nrm
  have h5 : ((2 : Nat) ^ 60) ^ 3 < 2 ^ 1900 := by rw [← Nat.pow_mul]; exact Nat.pow_lt_pow_right (by decide) (by decide)
  show t.2.natAbs < 2 ^ 1900
  omega
theorem canon_one : Canon one := ⟨by simp [one], by simp [one]⟩
/-- hands back a tuple of the terms ts -/
def NewA (K : PySem.W.Frag) (H : Hp) (Q : VK) (ts : List Trm) : Prop := ∀ p H', Ext H H' → PolyAt K H' p ts → Q (.ref p) H'
def spRep (T : Top K mg) : Sp := fun vs H Q _ => ∃ (a o : Addr) (p : List Trm) (k : Nat), vs = [.ref a, .int (k : Int), .ref o, .ref T.f_times] ∧ PolyAt K H a p ∧ PolyAt K H o one ∧ Lowp p ∧ k ≤ 3 ∧ Tg T H ∧ NewA K H Q (canon (pw p k))
theorem ok_repeated (T : Top K mg) (B : Tb T base) : FnOk P w K mg base CX0 4 T.f_repeated T.d_repeated ["base", "exponent", "one", "combine"] (spRep T) := by
  refine T.F_repeated.ok sc_repeated (fun vs H Q E h => ?_) (fun cdv A outer s H vs Q E hr h => ?_)
  · obtain ⟨a, o, p, k, rfl, _⟩ := h
    rfl
  · obtain ⟨a, o, p, k, rfl, ha, ho, hp, hk, G, q⟩ := h
    refine ⟨_, (pss_cons (ps_set (i := 4) sc_repeated.nd rfl (by first | exact .inl rfl | exact .inr rfl) (pv 2))
      (pss_cons (ps_set (i := 5) sc_repeated.nd rfl (by first | exact .inl rfl | exact .inr rfl) (pv 0))
      (pss_cons (ps_set (i := 6) sc_repeated.nd rfl (by first | exact .inl rfl | exact .inr rfl) (pv 1))
      (pss_cons (ps_while PassesOwn.never (pt_cmpR op_gt (pv 6) pe_int (nomark _)) (C8.pss_cut (ps_if (pt_truth (pe_op op_and (pv 6) pe_int) (by intro _; rfl)) (pss_one (ps_set (i := 4) sc_repeated.nd rfl (by first | exact .inl rfl | exact .inr rfl) (pe_callL (i := 3) (ok_times T B) (hr.mono (by decide)) rfl (Or.inl rfl) T.F_times.kp T.b_times .nil pass0 (pa_cons (pv 4) (pa_cons (pv 5) pa_nil))))) pss_nil)
      (pss_cons (ps_aug (i := 6) sc_repeated.nd rfl (by first | exact .inl rfl | exact .inr rfl) pe_int iop_shr)
      (pss_one (ps_if (pt_cmpR op_gt (pv 6) pe_int (nomark _)) (pss_one (ps_set (i := 5) sc_repeated.nd rfl (by first | exact .inl rfl | exact .inr rfl) (pe_callL (i := 3) (ok_times T B) (hr.mono (by decide)) rfl (Or.inl rfl) T.F_times.kp T.b_times .nil pass0 (pa_cons (pv 5) (pa_cons (pv 5) pa_nil))))) pss_nil)))))
      (pss_one (ps_ret (pv 4))))))), ?_⟩
    refine ⟨_, rfl, _, rfl, _, rfl, ?_⟩
    -- while left > 0
    refine while_by (fun σ H1 => ∃ (r u : Addr) (R S : List Trm) (i j l : Nat), σ = [some (.ref a), some (.int (k : Int)), some (.ref o), some (.ref T.f_times), some (.ref r), some (.ref u), some (.int (l : Int))] ∧ Ext H H1 ∧
        PolyAt K H1 r R ∧ PolyAt K H1 u S ∧ Sq p R i ∧ Canon R ∧ Sq p S j ∧ i + j * l = k) (fun σ _ => match σ with | [_, _, _, _, _, _, some (.int l)] => l.toNat | _ => 0)
      ⟨o, a, one, p, 0, 1, k, rfl, Ext.refl H, ho, ha, sq_one p, canon_one, sq_self p, by omega⟩ ?_ ?_
    · rintro σ H1 ⟨r, u, R, S, i, j, l, rfl, s1, hr1, hu1, qR, cR, qS, e⟩
      refine ⟨_, rfl, _, _, rfl, rfl, _, rfl, ite2 (fun el => ?_) (fun el => ?_)⟩
      · have el : 0 < l := by
          have := of_decide_eq_true el
          omega
        have hj : j ≤ 3 := by
          have : j * 1 ≤ j * l := Nat.mul_le_mul_left j el
          omega
        obtain ⟨m1, m2⟩ := qR.small hp (by omega)
        obtain ⟨m3, m4⟩ := qS.small hp hj
        have hmod : l = l % 2 + 2 * (l / 2) := by omega
        have e2 : i + j * (l % 2) + j * (2 * (l / 2)) = k := by
          rw [Nat.add_assoc, ← Nat.mul_add, ← hmod]
          exact e
        have lRS : R.length * S.length < 1000000 := Nat.lt_of_le_of_lt (Nat.mul_le_mul m1 m3) (by decide)
        have lSS : S.length * S.length < 1000000 := Nat.lt_of_le_of_lt (Nat.mul_le_mul m3 m3) (by decide)
        -- if left & 1
        refine ⟨fun σ' H' => ∃ (r' : Addr) (R' : List Trm), σ' = [some (.ref a), some (.int (k : Int)), some (.ref o), some (.ref T.f_times), some (.ref r'), some (.ref u), some (.int (l : Int))] ∧ Ext H H' ∧ PolyAt K H' r' R' ∧ PolyAt K H' u S ∧ Sq p R' (i + j * (l % 2)) ∧ Canon R', ?_, ?_⟩
        · refine ⟨_, rfl, _, _, rfl, rfl, _, rfl, ?_⟩
          rw [bit1]
          refine iteB (fun eb => ?_) (fun eb => ?_)
          · have hb : l % 2 = 1 := by
              have : ¬ ((l % 2 : Nat) : Int) = 0 := by simpa using eb
              omega
            refine ⟨rfl, _, rfl, _, rfl, r, u, _, _, rfl, hr1, hu1, lRS, m2, m4, G.ext s1, fun p2 H' sp hp2 np => ?_⟩
            refine ⟨p2, _, rfl, s1.trans sp, hp2.at, sp.poly hu1, ?_, PM.canon_canon _⟩
            rw [hb, Nat.mul_one]
            exact qR.mul qS
          · have hb : l % 2 = 0 := by
              have : ((l % 2 : Nat) : Int) = 0 := by simpa using eb
              omega
            refine ⟨r, R, rfl, s1, hr1, hu1, ?_, cR⟩
            rw [hb, Nat.mul_zero, Nat.add_zero]
            exact qR
        · rintro σ' H' ⟨r', R', rfl, s2, hr2, hu2, qR2, cR2⟩
          -- left >>= 1
          refine ⟨_, rfl, _, _, rfl, rfl, (by show (0 : Int) ≤ 1; decide), ?_⟩
          have esh : (l : Int) / 2 ^ (1 : Int).toNat = ((l / 2 : Nat) : Int) := by
            show (l : Int) / 2 = _
            omega
          refine ⟨_, rfl, _, _, rfl, rfl, _, rfl, ite2 (fun e3 => ?_) (fun e3 => ?_)⟩
          · refine ⟨rfl, _, rfl, _, rfl, u, u, _, _, rfl, hu2, hu2, lSS, m4, m4, G.ext s2, fun p2 H3 sp hp2 np => ?_⟩
            refine ⟨⟨r', p2, R', _, i + j * (l % 2), j + j, l / 2, ?_, s2.trans sp, sp.poly hr2, hp2.at, qR2, cR2, qS.mul qS, ?_⟩, ?_⟩
            · rw [← esh]
              rfl
            · rw [← e2, Nat.add_mul, Nat.mul_left_comm, Nat.two_mul]
            · show ((l : Int) / 2 ^ (1 : Int).toNat).toNat < (l : Int).toNat
              rw [esh]
              omega
          · have e3 : l / 2 = 0 := by
              have : ¬ (0 : Int) < (l : Int) / 2 ^ (1 : Int).toNat := fun z => e3 (decide_eq_true z)
              rw [esh] at this
              omega
            refine ⟨⟨r', u, R', S, i + j * (l % 2), j, l / 2, ?_, s2, hr2, hu2, qR2, cR2, qS, ?_⟩, ?_⟩
            · rw [← esh]
              rfl
            · rw [← e2, e3]
            · show ((l : Int) / 2 ^ (1 : Int).toNat).toNat < (l : Int).toNat
              rw [esh]
              omega
      · have el : l = 0 := by
          have : ¬ (0 : Int) < (l : Int) := fun z => el (decide_eq_true z)
          omega
        subst el
        have : i = k := by omega
        subst this
        refine ⟨_, rfl, q r H1 s1 ?_⟩
        rw [← PM.canon_of cR qR.eqv]
        exact hr1
    · rintro σ H1 Q1 Q2 hq ⟨v, hv, i, j, hi, hj, b, hb, h⟩
      exact ⟨v, hv, i, j, hi, hj, b, hb, hq _ _ h⟩
def spPower (T : Top K mg) : Sp := fun vs H Q _ => ∃ (a : Addr) (p : List Trm) (k : Nat), vs = [.ref a, .int (k : Int)] ∧ PolyAt K H a p ∧ Lowp p ∧ k ≤ 3 ∧ Tg T H ∧ NewA K H Q (canon (pw p k))
theorem ok_power (T : Top K mg) (B : Tb T base) : FnOk P w K mg base CX0 5 T.f_power T.d_power ["p", "exponent"] (spPower T) := by
  refine T.F_power.ok sc_power (fun vs H Q E h => ?_) (fun cdv A outer s H vs Q E hr h => ?_)
  · obtain ⟨a, p, k, rfl, _⟩ := h
    rfl
  · obtain ⟨a, p, k, rfl, ha, hp, hk, G, q⟩ := h
    refine ⟨_, (pss_one (ps_ret (pe_call (ok_repeated T B) (hr.mono (by decide)) (by rfl) T.g_repeated T.F_repeated.kp T.b_repeated .nil pass0 (pa_cons (pv 0) (pa_cons (pv 1) (pa_cons (pe_glob (v := .ref T.f_ONE) (by rfl) T.g_ONE rfl) (pa_cons (pe_glob (v := .ref T.f_times) (by rfl) T.g_times rfl) pa_nil))))))), ?_⟩
    exact ⟨_, rfl, _, rfl, a, _, p, k, rfl, ha, T.k_ONE H, hp, hk, G, q⟩
def spShared (T : Top K mg) : Sp := fun vs H Q _ => ∃ (a : Addr) (p : List Trm) (d : Int), vs = [.ref a, .int d] ∧ PolyAt K H a p ∧ d ≠ 0 ∧ d.natAbs < 2 ^ 60 ∧ p.length < 1000000 ∧ Tg T H ∧
  ((∃ t ∈ p, t.2.fmod d ≠ 0) → ∀ H', Ext H H' → Q .non H') ∧ ((∀ t ∈ p, t.2.fmod d = 0) → NewA K H Q (p.map fun t => (t.1, t.2.fdiv d)))
theorem ok_shared (T : Top K mg) (B : Tb T base) : FnOk P w K mg base CX0 2 T.f_shared T.d_shared ["p", "divisor"] (spShared T) := by
  refine T.F_shared.ok sc_shared (fun vs H Q E h => ?_) (fun A outer s H vs Q E hr h => ?_)
  · obtain ⟨a, p, d, rfl, _⟩ := h
    rfl
  · obtain ⟨a, p, d, rfl, ⟨xs, h1, h2⟩, hd, h60, hl, G, q1, q2⟩ := h
    refine ⟨_, (pss_cons (ps_if (pt_val (GXP.pe_anyGx (own := [("_", 2), ("c", 3)]) (g := gTup K 2 (gCons (gName 2) (gCons (gName 3) gNil))) (tt := tYes) (k := 0) (c := T.c_shared) (P := T.P_shared) (by rfl) T.m_any ⟨hr.mono (by decide), rfl, B.t_shared, rfl, rfl, blkOk_by (own := [("_", 2), ("c", 3)]) (N := n_shared) (sc := defScope s_shared) (by decide +kernel), sc_shared.nd, by decide +kernel, rfl, (pi_tup (pv 0)), fun A s H C cl code bi fp hrA => (pg_tup rfl (pgs_cons (pg_name (i := 2) sc_shared.nd rfl (by first | exact .inl rfl | exact .inr rfl)) (pgs_cons (pg_name (i := 3) sc_shared.nd rfl (by first | exact .inl rfl | exact .inr rfl)) pgs_nil))), fun A s H C cl code bi fp hrA => pts_nil, fun A s H C cl code bi fp hrA => (pe_cmpR op_ne (pe_op op_modN (pv 3) (pv 1)) pe_int (nomark _)), fun _ => rfl⟩)) (pss_one (ps_ret pe_non)) pss_nil)
      (pss_one (ps_ret (GXP.pe_tupleGx (own := [("pair", 4), ("c", 3)]) (g := gTup K 2 (gCons (gName 4) (gCons (gName 3) gNil))) (tt := tYes) (k := 0) (c := T.c_shared) (P := T.P_shared) (by rfl) T.m_tuple ⟨hr.mono (by decide), rfl, B.t_shared, rfl, rfl, blkOk_by (own := [("pair", 4), ("c", 3)]) (N := n_shared) (sc := defScope s_shared) (by decide +kernel), sc_shared.nd, by decide +kernel, rfl, (pi_tup (pv 0)), fun A s H C cl code bi fp hrA => (pg_tup rfl (pgs_cons (pg_name (i := 4) sc_shared.nd rfl (by first | exact .inl rfl | exact .inr rfl)) (pgs_cons (pg_name (i := 3) sc_shared.nd rfl (by first | exact .inl rfl | exact .inr rfl)) pgs_nil))), fun A s H C cl code bi fp hrA => pts_nil, fun A s H C cl code bi fp hrA => (pe_tup (pa_cons (pv 4) (pa_cons (pe_op op_fdivZ (pv 3) (pv 1)) pa_nil))), fun _ => rfl⟩)))), ?_⟩
    have l2 := h2.length
    have hlog : CDivZ 0 d := ⟨hd, Nat.lt_of_lt_of_le (PySem.Flt.log2_lt_of (by decide) h60) (by decide)⟩
    refine ⟨_, rfl, a, rfl, ⟨_, h1⟩, G.t_shared, fun H2 t2 => ?_⟩
    have e2 : Ext H H2 := ext_tabbed G.t_shared t2
    refine gx_tup (xs := xs) (fun i zs H3 => Ext H2 H3 ∧ ∀ t ∈ p.take i, t.2.fmod d = 0) ⟨Ext.refl _, fun t m => by simp at m⟩ (fun i zs H3 _ h => (e2.trans h.1).tup h1) (fun i x zs H3 hi hP => ?_) (fun zs H3 hP => ?_)
    · obtain ⟨s3, hz⟩ := hP
      obtain ⟨t, ht, a1, b1, rfl, g1, g2⟩ := paired_at h2 hi
      have e3 := e2.trans s3
      refine ⟨a1, _, rfl, e3.tup g1, rfl, _, _, rfl, _, _, rfl, rfl, rfl, ?_⟩
      refine ⟨_, rfl, _, rfl, t.2, d, rfl, rfl, hd, rfl, _, rfl, iteB (fun z => ?_) (fun z => ?_)⟩
      · have nz : t.2.fmod d ≠ 0 := fun w => by
          have z : (!decide (V.int (t.2.fmod d) = V.int 0)) = true := z
          rw [w] at z
          cases z
        exact ⟨_, rfl, iteT (q1 ⟨t, List.mem_of_getElem? ht, nz⟩ H3 e3)⟩
      · have nz : t.2.fmod d = 0 := by
          have z2 : decide (V.int (t.2.fmod d) = V.int 0) = true := by simpa using z
          exact V.int.inj (of_decide_eq_true z2)
        refine ⟨s3, fun u m => ?_⟩
        rw [take_snoc ht] at m
        rcases List.mem_append.mp m with m | m
        · exact hz u m
        · rw [List.mem_singleton.mp m]
          exact nz
    · obtain ⟨s3, hz⟩ := hP
      rw [l2, List.take_length] at hz
      have e3 := e2.trans s3
      refine ⟨_, rfl, iteF ?_⟩
      refine ⟨_, rfl, a, rfl, ⟨_, e3.tup h1⟩, (G.ext e3).t_shared, fun H4 t4 => ?_⟩
      have e4 : Ext H H4 := e3.tabbed (G.ext e3).t_shared t4
      refine gx_tup (xs := xs) (fun i zs H5 => Ext H4 H5 ∧ Terms K H5 zs ((p.take i).map fun t => (t.1, t.2.fdiv d))) ⟨Ext.refl _, .nil⟩ (fun i zs H5 _ h => (e4.trans h.1).tup h1) (fun i x zs H5 hi hP => ?_) (fun zs H5 hP => ?_)
      · obtain ⟨s5, hz5⟩ := hP
        obtain ⟨t, ht, a1, b1, rfl, g1, g2⟩ := paired_at h2 hi
        have e5 := e4.trans s5
        refine ⟨a1, _, rfl, e5.tup g1, rfl, _, _, rfl, _, _, rfl, rfl, rfl, ?_⟩
        refine ⟨_, rfl, _, rfl, _, rfl, t.2, d, rfl, rfl, hlog, sl2, fun p2 hp2 => ⟨?_, s5.new hp2, ?_⟩⟩
        · have l3 := hz5.length
          rw [List.length_map, List.length_take] at l3
          exact sl_lt (by omega)
        · rw [take_snoc ht, List.map_append]
          exact paired_snoc ((ext_upd hp2).terms hz5) ⟨p2, b1, rfl, SqT.of upd_same, (ext_upd hp2).tup (e5.tup g2)⟩
      · obtain ⟨s5, hz5⟩ := hP
        intro c hc
        rw [l2, List.take_length] at hz5
        exact q2 hz c _ ((e4.trans s5).new hc) ⟨zs, SqT.of upd_same, (ext_upd hc).terms hz5⟩
theorem k_one {fO t1 t2 : Addr} {q1 q2 q3 : Option Addr} {m1 m2 m3 : Nat} {u1 u2 u3 : Tok} {w1 w2 w3 : Array (Option Value)} (o1 : K.lookup fO = some ⟨.type "tuple", q1, .seq #[.ref t1] m1, w1⟩) (o2 : K.lookup t1 = some ⟨.type "tuple", q2, .seq #[.ref t2, .int 1 u1] m2, w2⟩)
    (o3 : K.lookup t2 = some ⟨.type "tuple", q3, .seq #[.int 0 u2, .int 0 u3] m3, w3⟩) : ∀ H, PolyAt K H fO one := fun H =>
  ⟨[.ref t1], .inr ⟨_, _, _, o1, rfl, rfl, by rw [sizeLine_eq]; simp, .cons rfl .nil⟩, .cons ⟨t1, t2, rfl, .inr ⟨_, _, _, o2, rfl, rfl, by rw [sizeLine_eq]; simp, .cons rfl (.cons ⟨_, rfl⟩ .nil)⟩, .inr ⟨_, _, _, o3, rfl, rfl, by rw [sizeLine_eq]; simp, .cons ⟨_, rfl⟩ (.cons ⟨_, rfl⟩ .nil)⟩⟩ .nil⟩
theorem tabG0 {H : Hp} {p : Addr} (h : H p = some (.tbl #[])) : GxR.TabG H p := ⟨#[], h, by simp [TriplesOk]⟩
theorem same_upd {H : Hp} {p : Addr} {o : HO} (h : H p = none) : Same H (upd H p o) := fun b x e => by
  rw [upd_ne (ne_of_none e h)]
  exact e
theorem _root_.L2.Same.tup {K : PySem.W.Frag} {H H' : Hp} {a : Addr} {xs : List V} (e : Same H H') (h : SqT K H a xs) : SqT K H' a xs := e.ext.tup h
/-! ### the law's cell of the script -/
def cellZ (ns : List Int) (k : Nat) : Int := ns.getD k 0
def spCellZ (K : PySem.W.Frag) : Sp := fun vs H Q _ => ∃ (l : Addr) (ns : List Int) (k : Nat), vs = [.ref l, .int (k : Int)] ∧ SqL K H l (ns.map V.int) ∧ Q (.int (cellZ ns k)) H
theorem ok_law_cell (T : Top K mg) : FnOk P w K mg base CX0 1 T.f_law_cell T.d_law_cell ["script", "k"] (spCellZ K) := by
  refine T.F_law_cell.ok sc_law_cell (fun vs H Q E h => ?_) (fun cdv A outer s H vs Q E hr h => ?_)
  · obtain ⟨l, ns, k, rfl, _⟩ := h
    rfl
  · obtain ⟨l, ns, k, rfl, hS, q⟩ := h
    refine ⟨_, (pss_cons (ps_if (pt_cmpR op_lt (pv 1) (pe_callB call_len_seq (by rfl) T.m_len (by decide +kernel) (pa_cons (pv 0) pa_nil)) (nomark _)) (pss_one (ps_ret (pe_callTy call_int1 (by rfl) T.m_int (by decide +kernel) (pa_cons (pe_ix ix_list (pv 0) (pv 1) (fun _ _ => rfl)) pa_nil)))) pss_nil)
      (pss_one (ps_ret pe_int))), ?_⟩
    refine ⟨_, rfl, _, rfl, l, _, rfl, .inl hS, _, _, rfl, rfl, _, rfl, ?_⟩
    refine ite2 (fun e => ?_) (fun e => ?_)
    · have hk : k < ns.length := by
        have := of_decide_eq_true e
        rw [List.length_map] at this
        omega
      refine ⟨_, rfl, _, rfl, l, _, _, .int ns[k], rfl, rfl, hS, ?_, .inl ⟨_, rfl, ?_⟩⟩
      · refine atI_nat ?_
        rw [List.getElem?_map, List.getElem?_eq_getElem hk]
        rfl
      · have : cellZ ns k = ns[k] := by
          unfold cellZ
          rw [List.getD_eq_getElem?_getD, List.getElem?_eq_getElem hk]
          rfl
        rw [← this]
        exact q
    · have hk : ¬ k < ns.length := fun z => e (by
        refine decide_eq_true ?_
        rw [List.length_map]
        omega)
      have : cellZ ns k = 0 := by
        unfold cellZ
        rw [List.getD_eq_getElem?_getD, List.getElem?_eq_none (by omega)]
        rfl
      show Q (.int 0) H
      rw [← this]
      exact q
/-! ### data that stands in the heap -/
mutual
theorem dp_same {K : PySem.W.Frag} {H H' : Hp} (s : Same H H') : ∀ {v : V} {d : PyData}, Dp K H v d → Dp K H' v d
  | _, _, .non => .non
  | _, _, .bl b => .bl b
  | _, _, .int i => .int i
  | _, _, .str x => .str x
  | _, _, .lst h t => .lst (s.seq h) (dpAll_same s t)
  | _, _, .tup h t => .tup (s.tup h) (dpAll_same s t)
theorem dpAll_same {K : PySem.W.Frag} {H H' : Hp} (s : Same H H') : ∀ {vs : List V} {ds : List PyData}, DpAll K H vs ds → DpAll K H' vs ds
  | _, _, .nil => .nil
  | _, _, .cons h t => .cons (dp_same s h) (dpAll_same s t)
end
theorem dpAll_len {K : PySem.W.Frag} {H : Hp} : ∀ {vs : List V} {ds : List PyData}, DpAll K H vs ds → vs.length = ds.length
  | _, _, .nil => rfl
  | _, _, .cons _ t => congrArg (· + 1) (dpAll_len t)
theorem dpAll_get {K : PySem.W.Frag} {H : Hp} : ∀ {vs : List V} {ds : List PyData} {i : Nat} {v : V}, DpAll K H vs ds → vs[i]? = some v → ∃ d, ds[i]? = some d ∧ d ∈ ds ∧ Dp K H v d
  | _, _, i, v, .nil, h => by simp at h
  | _, d :: ds, 0, v, .cons a t, h => by
    simp only [List.getElem?_cons_zero, Option.some.injEq] at h
    subst h
    exact ⟨d, rfl, List.mem_cons_self, a⟩
  | _, d :: ds, i + 1, v, .cons a t, h => by
    simp only [List.getElem?_cons_succ] at h
    obtain ⟨e, h1, h2, h3⟩ := dpAll_get t h
    exact ⟨e, by simpa using h1, List.mem_cons_of_mem _ h2, h3⟩
theorem dpAll_of {α : Type} {K : PySem.W.Frag} {H : Hp} {f : α → PyData} {R : V → α → Prop} (hR : ∀ v x, R v x → Dp K H v (f x)) : ∀ {vs : List V} {xs : List α}, Paired R vs xs → DpAll K H vs (xs.map f)
  | _, _, .nil => .nil
  | _, _, .cons h t => .cons (hR _ _ h) (dpAll_of hR t)
theorem sqt_ty {K : PySem.W.Frag} {H : Hp} {a : Addr} {xs : List V} (h : SqT K H a xs) : TyX K H (.ref a) (.type "tuple") := by
  rcases h with (h | ⟨o, h⟩) | ⟨o, its, n, h, hc, _⟩
  · exact .base (.tup h)
  · exact .fTuple h
  · exact .kTuple h hc
theorem sql_ty {K : PySem.W.Frag} {H : Hp} {a : Addr} {xs : List V} (h : SqL K H a xs) : TyX K H (.ref a) (.type "list") := by
  rcases h with (h | ⟨o, h⟩) | ⟨o, its, n, h, hc, _⟩
  · exact .base (.lst h)
  · exact .base (.frz h)
  · exact .kList h hc
/-- nested tuples of ints, at most n - 1 deep -/
def tupD : Nat → PyData → Prop
  | 0, _ => False
  | _ + 1, .int _ => True
  | n + 1, .tuple ds => ds.length < 1000000 ∧ ∀ x ∈ ds, tupD n x
  | _ + 1, _ => False
def spTup (K : PySem.W.Frag) (n : Nat) : Sp := fun vs H Q _ => ∃ v d, vs = [v] ∧ Dp K H v d ∧ tupD n d ∧ ∀ H', Same H H' → Q (.bl true) H'
theorem ok_law_tuples (T : Top K mg) : ∀ n, FnOk P w K mg base CX0 (n + 1) T.f_law_tuples T.d_law_tuples ["value"] (spTup K n)
  | 0 => T.F_law_tuples.ok sc_law_tuples (fun vs H Q E h => by obtain ⟨v, d, _, _, h, _⟩ := h; exact h.elim) (fun cdv A outer s H vs Q E hr h => by obtain ⟨v, d, _, _, h, _⟩ := h; exact h.elim)
  | n + 1 => by
    have ih := ok_law_tuples T n
    refine T.F_law_tuples.ok sc_law_tuples (fun vs H Q E h => ?_) (fun cdv A outer s H vs Q E hr h => ?_)
    · obtain ⟨v, d, rfl, _⟩ := h
      rfl
    · obtain ⟨v, d, rfl, hd, ht, q⟩ := h
      refine ⟨_, (pss_cons (ps_if (pt_val (pe_callB call_isi (by rfl) T.m_isinstance (by decide +kernel) (pa_cons (pv 0) (pa_cons (pe_bltn (v := .ty "tuple") (by rfl) T.m_tuple boot_tuple rfl) pa_nil)))) (pss_one (ps_ret (pe_callB (cr_all rfl) (by rfl) T.m_all (by decide +kernel) (pa_cons (pe_lc (own := [("part", 1)]) (g := gName 1) (tt := tYes) rfl sc_law_tuples.nd (pi_tup (pv 0)) (blkOk_by (own := [("part", 1)]) (N := n_law_tuples) (sc := defScope s_law_tuples) (by decide +kernel)) (fun _ _ _ _ _ => (pg_name (i := 1) sc_law_tuples.nd rfl (by first | exact .inl rfl | exact .inr rfl))) (fun _ _ _ _ _ => pts_nil) (fun _ _ _ _ _ => (pe_call ih hr (by rfl) T.g_law_tuples T.F_law_tuples.kp T.b_law_tuples .nil pass0 (pa_cons (pv 1) pa_nil)))) pa_nil)))) pss_nil)
      (pss_one (ps_ret (pe_and (pe_callB call_isi (by rfl) T.m_isinstance (by decide +kernel) (pa_cons (pv 0) (pa_cons (pe_bltn (v := .ty "int") (by rfl) T.m_int boot_int rfl) pa_nil))) (pe_one (pe_not (pe_callB call_isi (by rfl) T.m_isinstance (by decide +kernel) (pa_cons (pv 0) (pa_cons (pe_bltn (v := .ty "bool") (by rfl) T.m_bool boot_bool rfl) pa_nil))))))))), ?_⟩
      cases d with
      | int i =>
        cases hd
        refine ⟨_, rfl, _, _, _, _, _, rfl, .ty _, .base (.int i), kit_ty (r := false) (by decide +kernel), _, rfl, iteF ?_⟩
        refine ⟨_, rfl, _, _, _, _, _, rfl, .ty _, .base (.int i), kit_ty (r := true) (by decide +kernel), _, rfl, iteT ?_⟩
        exact ⟨_, rfl, _, _, _, _, _, rfl, .ty _, .base (.int i), kit_ty (r := false) (by decide +kernel), _, rfl, q H (Same.refl H)⟩
      | tuple ds =>
        cases hd with
        | @tup a xs _ hx hds =>
        refine ⟨_, rfl, _, _, _, _, _, rfl, .ty _, sqt_ty hx, kit_ty (r := true) (by decide +kernel), _, rfl, iteT ?_⟩
        refine ⟨_, rfl, a, rfl, ⟨_, hx⟩, fun D hD => lc_tup (xs := xs) (fun i H' => Same H H' ∧ H' D = some (.lst ((List.replicate i true).map V.bl)) ∧ i ≤ xs.length) ⟨same_upd hD, upd_same, Nat.zero_le _⟩ (fun i H' _ h => h.1.tup hx) (fun i x H' hi hP => ?_) (fun H' hP => ?_)⟩
        · obtain ⟨s1, hl, hix⟩ := hP
          obtain ⟨d, _, hm, hdx⟩ := dpAll_get hds hi
          have hil : i < xs.length := (List.getElem?_eq_some_iff.mp hi).1
          have hlen := dpAll_len hds
          have hz := ht.1
          refine ⟨rfl, _, rfl, x, d, rfl, dp_same s1 hdx, ht.2 d hm, fun H2 s2 => ⟨_, s2 _ _ hl, ?_, fun b o e => ?_, ?_, hil⟩⟩
          · rw [List.length_map, List.length_replicate]
            exact sl_lt (by omega)
          · rw [upd_ne (ne_of_none e hD)]
            exact s2 _ _ (s1 _ _ e)
          · rw [upd_same, List.replicate_succ', List.map_append]
            rfl
        · obtain ⟨s1, hl, _⟩ := hP
          refine ⟨D, List.replicate xs.length true, rfl, SqL.of hl, ?_⟩
          have e : (List.replicate xs.length true).all id = true := by
            rw [List.all_eq_true]
            intro x hx
            rw [List.eq_of_mem_replicate hx]
            rfl
          rw [e]
          exact q H' s1
      | none => exact ht.elim
      | bool b => exact ht.elim
      | str x => exact ht.elim
      | list x => exact ht.elim
      | dict x => exact ht.elim
theorem pos_lit {z : Int} {n : Nat} (h : z = ((n + 1 : Nat) : Int)) : 0 < z := by omega
def spMix : Sp := fun vs H Q _ => ∃ c k : Int, vs = [.int c, .int k] ∧ ∀ m : Int, 0 ≤ m → Q (.int m) H
theorem ok_law_mix (T : Top K mg) : FnOk P w K mg base CX0 1 T.f_law_mix T.d_law_mix ["cell", "k"] spMix := by
  refine T.F_law_mix.ok sc_law_mix (fun vs H Q E h => ?_) (fun cdv A outer s H vs Q E hr h => ?_)
  · obtain ⟨c, k, rfl, _⟩ := h
    rfl
  · obtain ⟨c, k, rfl, q⟩ := h
    refine ⟨_, (pss_cons (ps_set (i := 2) sc_law_mix.nd rfl (by first | exact .inl rfl | exact .inr rfl) (pe_op op_mod (pe_callTy call_int1 (by rfl) T.m_int (by decide +kernel) (pa_cons (pe_op op_add (pe_op op_add (pe_op op_mul (pv 0) pe_int) (pe_op op_mul (pv 1) pe_int)) pe_int) pa_nil)) pe_int))
      (pss_cons (ps_set (i := 2) sc_law_mix.nd rfl (by first | exact .inl rfl | exact .inr rfl) (pe_op op_mod (pe_callTy call_int1 (by rfl) T.m_int (by decide +kernel) (pa_cons (pe_op op_add (pe_op op_add (pe_op op_mul (pv 2) pe_int) (pe_op op_mul (pv 1) pe_int)) pe_int) pa_nil)) pe_int))
      (pss_one (ps_ret (pe_op op_fdiv (pv 2) pe_int))))), ?_⟩
    refine ⟨_, rfl, _, _, rfl, rfl, .inr ⟨by decide, by decide⟩, _, rfl, _, _, rfl, rfl, .inr ⟨by decide, by decide⟩, _, _, rfl, rfl, _, _, rfl, rfl, .inl ⟨_, rfl, _, _, rfl, rfl, pos_lit rfl, ?_⟩⟩
    refine ⟨_, rfl, _, _, rfl, rfl, .inr ⟨by decide, by decide⟩, _, rfl, _, _, rfl, rfl, .inr ⟨by decide, by decide⟩, _, _, rfl, rfl, _, _, rfl, rfl, .inl ⟨_, rfl, _, _, rfl, rfl, pos_lit rfl, ?_⟩⟩
    refine ⟨_, rfl, _, _, rfl, rfl, ⟨by decide, by decide⟩, q _ ?_⟩
    refine Int.ediv_nonneg (Int.emod_nonneg _ (by decide)) (by decide)
/-- some n numbers from 0 up to below b -/
def spRow (K : PySem.W.Frag) : Sp := fun vs H Q _ => ∃ (c b : Int) (n : Nat), vs = [.int c, .int (n : Int), .int b] ∧ n ≤ 1000 ∧ 0 < b ∧ b < 1000 ∧
  ∀ l H' (rs : List Int), Ext H H' → H l = none → H' l = some (.lst (rs.map V.int)) → rs.length = n → (∀ r ∈ rs, 0 ≤ r ∧ r < b) → Q (.ref l) H'
theorem ok_law_row (T : Top K mg) : FnOk P w K mg base CX0 2 T.f_law_row T.d_law_row ["cell", "count", "bound"] (spRow K) := by
  refine T.F_law_row.ok sc_law_row (fun vs H Q E h => ?_) (fun cdv A outer s H vs Q E hr h => ?_)
  · obtain ⟨c, b, n, rfl, _⟩ := h
    rfl
  · obtain ⟨c, b, n, rfl, hn, hb, hb2, q⟩ := h
    refine ⟨_, (pss_cons (ps_set (i := 3) sc_law_row.nd rfl (by first | exact .inl rfl | exact .inr rfl) (pe_lst pa_nil))
      (pss_cons (ps_set (i := 4) sc_law_row.nd rfl (by first | exact .inl rfl | exact .inr rfl) (pe_callB call_abs (by rfl) T.m_abs (by decide +kernel) (pa_cons (pv 0) pa_nil)))
      (pss_cons (ps_for PassesOwn.never rfl (pi_range1 (by rfl) T.m_range (pa_cons (pv 1) pa_nil)) (pg_name (i := 5) sc_law_row.nd rfl (by first | exact .inl rfl | exact .inr rfl)) (pss_one (ps_if (pt_cmpR op_ge (pe_callB call_abs (by rfl) T.m_abs (by decide +kernel) (pa_cons (pv 0) pa_nil)) pe_int (nomark _)) (pss_cons (ps_expr (pe_bm PySem.F.plainAttrs_list PySem.F.slot_list_append PySem.F.type_list_append mt_append (pv 3) (pa_cons (pe_op op_mod (pe_callTy call_int1 (by rfl) T.m_int (by decide +kernel) (pa_cons (pv 4) pa_nil)) (pv 2)) pa_nil)))
      (pss_one (ps_set (i := 4) sc_law_row.nd rfl (by first | exact .inl rfl | exact .inr rfl) (pe_op op_fdivZ (pv 4) (pv 2))))) (pss_one (ps_expr (pe_bm PySem.F.plainAttrs_list PySem.F.slot_list_append PySem.F.type_list_append mt_append (pv 3) (pa_cons (pe_op op_mod (pe_callTy call_int1 (by rfl) T.m_int (by decide +kernel) (pa_cons (pe_call (ok_law_mix T) (hr.mono (by decide)) (by rfl) T.g_law_mix T.F_law_mix.kp T.b_law_mix .nil pass0 (pa_cons (pv 0) (pa_cons (pv 5) pa_nil))) pa_nil)) (pv 2)) pa_nil)))))))
      (pss_one (ps_ret (pv 3)))))), ?_⟩
    refine ⟨by rw [sizeLine_eq]; simp, fun l hl => ?_⟩
    refine ⟨_, rfl, c, rfl, ?_⟩
    refine ⟨_, rfl, _, rfl, by omega, by omega, for_range (n := n) (fun i σ H1 => (∃ (x : Int) (y : Option V) (rs : List Int), σ = [some (.int c), some (.int (n : Int)), some (.int b), some (.ref l), some (.int x), y] ∧ Ext H H1 ∧ H1 l = some (.lst (rs.map V.int)) ∧ rs.length = i ∧ ∀ r ∈ rs, 0 ≤ r ∧ r < b))
      ⟨_, _, [], rfl, ext_upd hl, upd_same, rfl, fun r m => by simp at m⟩ (fun i σ H1 hi hP => ?_) (fun σ H1 hP => ?_)⟩
    · obtain ⟨x, y, rs, rfl, s1, hl1, hlen, hrs⟩ := hP
      have step : ∀ m : Int, ∃ rs', rs' = rs ++ [m % b] ∧ rs'.length = i + 1 ∧ ∀ r ∈ rs', 0 ≤ r ∧ r < b := fun m => ⟨_, rfl, by rw [List.length_append, hlen]; rfl, fun r hr => by
        rcases List.mem_append.mp hr with hr | hr
        · exact hrs r hr
        · rw [List.mem_singleton.mp hr]
          exact ⟨Int.emod_nonneg _ (by omega), Int.emod_lt_of_pos _ hb⟩⟩
      have cnt : (rs.map V.int).length < sizeLine := sl_lt (by rw [List.length_map]; omega)
      have app : ∀ m : Int, rs.map V.int ++ [V.int (m % b)] = (rs ++ [m % b]).map V.int := fun m => by rw [List.map_append]; rfl
      refine ⟨_, rfl, c, rfl, _, _, rfl, rfl, _, rfl, iteB (fun z => ?_) (fun z => ?_)⟩
      · refine ⟨_, rfl, .inl ⟨rfl, _, SqL.of hl1⟩, _, rfl, .inl ⟨_, rfl, _, rfl, _, _, rfl, rfl, hb, l, _, _, rfl, rfl, hl1, cnt, ?_⟩⟩
        refine ⟨_, rfl, _, rfl, _, _, rfl, rfl, ⟨by omega, ?_⟩, ?_⟩
        · refine Nat.lt_of_lt_of_le (PySem.Flt.log2_lt_of (k := 10) (by decide) ?_) (by decide)
          omega
        · obtain ⟨rs', e1, e2, e3⟩ := step x
          subst e1
          exact ⟨_, _, _, rfl, s1.own hl, by rw [upd_same, app], e2, e3⟩
      · refine ⟨_, rfl, .inl ⟨rfl, _, SqL.of hl1⟩, _, rfl, _, rfl, c, _, rfl, fun m hm => .inl ⟨_, rfl, _, rfl, _, _, rfl, rfl, hb, l, _, _, rfl, rfl, hl1, cnt, ?_⟩⟩
        obtain ⟨rs', e1, e2, e3⟩ := step m
        subst e1
        exact ⟨_, _, _, rfl, s1.own hl, by rw [upd_same, app], e2, e3⟩
    · obtain ⟨x, y, rs, rfl, s1, hl1, hlen, hrs⟩ := hP
      exact ⟨_, rfl, q l H1 rs s1 hl hl1 hlen hrs⟩
theorem TermT.upd {H : Hp} {D : Addr} {o : HO} {acc : List V} {v : V} {t : Trm} (hD : H D = some (.lst acc)) (h : TermT H v t) : TermT (L2.upd H D o) v t := by
  obtain ⟨a, b, e, h1, h2⟩ := h
  have n1 : a ≠ D := fun z => by rw [z, hD] at h1; cases h1
  have n2 : b ≠ D := fun z => by
    have h2 : H b = some (.tup [.int t.1.1, .int t.1.2]) := h2
    rw [z, hD] at h2
    cases h2
  exact ⟨a, b, e, by rw [upd_ne n1]; exact h1, by show L2.upd H D o b = _; rw [upd_ne n2]; exact h2⟩
theorem termsT_upd {H : Hp} {D : Addr} {o : HO} {acc : List V} {vs : List V} {ts : List Trm} (hD : H D = some (.lst acc)) (h : TermsT H vs ts) : TermsT (L2.upd H D o) vs ts := paired_imp (fun _ _ k => TermT.upd hD k) h
theorem termT_one {H : Hp} {a b : Addr} {t : Trm} (h1 : H a = some (.tup [.ref b, .int t.2])) (h2 : PairAt H t.1 b) : TermT H (.ref a) t := ⟨a, b, rfl, h1, h2⟩
theorem read_len (D : List Trm) (ks : List Ex) : (PM.read D ks).length ≤ ks.length := by
  unfold PM.read
  rw [List.length_map]
  exact List.length_filter_le _ _
theorem read_yes {D : List Trm} {ks : List Ex} {k : Ex} (nz : look D k ≠ 0) : PM.read D (ks ++ [k]) = PM.read D ks ++ [(k, look D k)] := by
  unfold PM.read
  rw [List.filter_append, List.filter_cons_of_pos (by simp [nz]), List.filter_nil, List.map_append]
  rfl
theorem read_no {D : List Trm} {ks : List Ex} {k : Ex} (nz : look D k = 0) : PM.read D (ks ++ [k]) = PM.read D ks := by
  unfold PM.read
  rw [List.filter_append, List.filter_cons_of_neg (by simp [nz]), List.filter_nil, List.append_nil]
theorem nz_yes {x : Int} (z : (!decide (V.int x = V.int 0)) = true) : x ≠ 0 := fun w => by
  rw [w] at z
  cases z
theorem nz_no {x : Int} (z : (!decide (V.int x = V.int 0)) = false) : x = 0 := by
  have z2 : decide (V.int x = V.int 0) = true := by simpa using z
  exact V.int.inj (of_decide_eq_true z2)
def spLPoly (K : PySem.W.Frag) : Sp := fun vs H Q _ => ∃ (a : Addr) (xs : List V) (ts : List Trm), vs = [.ref a] ∧ (SqL K H a xs ∨ SqT K H a xs) ∧ TermsT H xs ts ∧ ts.length < 1000000 ∧ NewP H Q (canon ts)
theorem ok_law_poly (T : Top K mg) : FnOk P w K mg base CX0 1 T.f_law_poly T.d_law_poly ["terms"] (spLPoly K) := by
  refine T.F_law_poly.ok sc_law_poly (fun vs H Q E h => ?_) (fun cdv A outer s H vs Q E hr h => ?_)
  · obtain ⟨a, xs, ts, rfl, _⟩ := h
    rfl
  · obtain ⟨a, xs, ts, rfl, ha, hts, hlen, q⟩ := h
    refine ⟨_, (pss_cons (ps_set (i := 1) sc_law_poly.nd rfl (by first | exact .inl rfl | exact .inr rfl) pe_dnewT)
      (pss_cons (ps_for PassesOwn.never rfl (pi_seq (pv 0)) (pg_tup rfl (pgs_cons (pg_name (i := 2) sc_law_poly.nd rfl (by first | exact .inl rfl | exact .inr rfl)) (pgs_cons (pg_name (i := 3) sc_law_poly.nd rfl (by first | exact .inl rfl | exact .inr rfl)) pgs_nil))) (pss_one (ps_dput (hu_of hr) (pv 1) (pv 2) (pe_op op_add (pe_dget2 (hu_of hr) (pv 1) (pv 2) pe_int ⟨rfl, rfl, rfl, rfl⟩) (pv 3)) rfl)))
      (pss_one (ps_ret (pe_callTy call_tuple_of (by rfl) T.m_tuple (by decide +kernel) (pa_cons (pe_lc (own := [("key", 2)]) (g := gName 2) rfl sc_law_poly.nd (pi_list (pe_callB (SDT.cr_sortedDT rfl) (by rfl) T.m_sorted (by decide +kernel) (pa_cons (pv 1) pa_nil))) (blkOk_by (own := [("key", 2)]) (N := n_law_poly) (sc := defScope s_law_poly) (by decide +kernel)) (fun _ _ _ _ _ => (pg_name (i := 2) sc_law_poly.nd rfl (by first | exact .inl rfl | exact .inr rfl))) (fun _ _ _ _ _ => pts_one (pt_cmpR op_ne (pe_dget (hu_of hr) (pv 1) (pv 2) (fun _ _ => rfl)) pe_int (nomark _))) (fun _ _ _ _ _ => (pe_tup (pa_cons (pv 2) (pa_cons (pe_dget (hu_of hr) (pv 1) (pv 2) (fun _ _ => rfl)) pa_nil))))) pa_nil)))))), ?_⟩
    intro d hd
    have e1 : Ext H (upd H d (.dT [])) := ext_upd hd
    have hxl := hts.length
    refine ⟨_, rfl, a, rfl, for_seq (xs := xs) ha (fun i σ H1 => (∃ x y, σ = [some (.ref a), some (.ref d), x, y]) ∧ Ext H H1 ∧ H1 d = some (.dT (kvsOf (gather (ts.take i))))) ⟨⟨_, _, rfl⟩, e1, upd_same⟩ (fun i σ H1 _ h => h.2.1) (fun i x σ H1 hi hP => ?_) (fun σ H1 hP => ?_)⟩
    · obtain ⟨⟨x1, x2, rfl⟩, s1, hd1⟩ := hP
      obtain ⟨t, ht, ht1⟩ := paired_at hts hi
      obtain ⟨a1, b1, rfl, g1, g2⟩ := s1.termT ht1
      refine ⟨a1, _, rfl, .inl (.inl g1), rfl, _, _, rfl, _, _, rfl, rfl, ?_⟩
      refine ⟨_, rfl, d, rfl, .inr ⟨_, .inl hd1⟩, _, rfl, _, DGet.t hd1 (k := pairKey t.1) g2, _, rfl, look (gather (ts.take i)) t.1, t.2, getD_kvs _ _, rfl, ?_⟩
      refine ⟨_, rfl, _, rfl, d, _, rfl, DPut.t hd1 (k := pairKey t.1) g2 ?_, ?_⟩
      · have l1 := gather_len (ts.take i)
        have l2 : (ts.take i).length ≤ ts.length := by rw [List.length_take]; omega
        rw [length_kvs]
        exact sl_lt (by omega)
      · refine ⟨⟨_, _, rfl⟩, s1.own hd, ?_⟩
        rw [upd_same, put_kvs, take_snoc ht, gather_snoc]
        rfl
    · obtain ⟨⟨x1, x2, rfl⟩, s1, hd1⟩ := hP
      have l1 := gather_len ts
      rw [hxl, List.take_length] at hd1
      have hn := PM.gather_nodup ts
      refine ⟨_, rfl, d, _, keys (gather ts), rfl, .inl hd1, keys_kvs _, fun ks bs l hp hs hb hl => ?_⟩
      have s2 : Ext H (upd H1 l (.lst (bs.map V.ref))) := s1.new hl
      have kl : ks.length ≤ ts.length := by
        have h3 := hp.length_eq
        have h4 : (keys (gather ts)).length = (gather ts).length := by
          unfold keys
          rw [List.length_map]
        omega
      refine ⟨l, rfl, ⟨_, SqL.of upd_same⟩, fun D hD => lc_list (xs := bs.map V.ref) (fun i H3 => Ext (upd H1 l (.lst (bs.map V.ref))) H3 ∧ ∃ zs, H3 D = some (.lst zs) ∧ TermsT H3 zs (PM.read (gather ts) (ks.take i)))
        ⟨ext_upd hD, [], upd_same, .nil⟩ (fun i H3 _ h => SqL.of (h.1.lst upd_same)) (fun i x H3 hi hP => ?_) (fun H3 hP => ?_)⟩
      · obtain ⟨s3, zs, hz, hy⟩ := hP
        rw [List.getElem?_map] at hi
        cases hbi : bs[i]? with
        | none => rw [hbi] at hi; cases hi
        | some b =>
          rw [hbi] at hi
          cases hi
          obtain ⟨k, hk, hkb⟩ := paired_at' hb hbi
          have e3 : Ext H1 H3 := (ext_upd hl).trans s3
          have hb3 : PairAt H3 k b := e3.at hkb
          have hm : k ∈ keys (gather ts) := hp.mem_iff.mp (List.mem_of_getElem? hk)
          have hg : DGet H3 d (.ref b) (some (.int (look (gather ts) k))) := by
            have := DGet.t (e3.dt hd1) (k := pairKey k) hb3
            rw [valV_kvs, if_pos hm] at this
            exact this
          refine ⟨rfl, _, rfl, _, rfl, d, _, rfl, hg, rfl, _, rfl, iteB (fun z => ?_) (fun z => ?_)⟩
          · refine ⟨_, rfl, _, rfl, _, rfl, d, _, rfl, hg, sl2, fun p2 hp2 => ?_⟩
            have hz2 := (ext_upd (o := .tup [.ref b, .int (look (gather ts) k)]) hp2).lst hz
            refine ⟨zs, hz2, ?_, (s3.new hp2).own hD, zs ++ [.ref p2], upd_same, ?_⟩
            · have l3 := hy.length
              have l4 := read_len (gather ts) (ks.take i)
              have l5 : (ks.take i).length ≤ ks.length := by rw [List.length_take]; omega
              exact sl_lt (by omega)
            · rw [take_snoc hk, read_yes (nz_yes z)]
              exact termsT_upd hz2 (paired_snoc ((ext_upd hp2).termsT hy) ⟨p2, b, rfl, upd_same, (ext_upd hp2).at hb3⟩)
          · refine ⟨s3, zs, hz, ?_⟩
            rw [take_snoc hk, read_no (nz_no z)]
            exact hy
      · obtain ⟨s3, zs, hz, hy⟩ := hP
        have ek : PM.read (gather ts) (ks.take (bs.map V.ref).length) = canon ts := by
          rw [List.length_map, ← hb.length, List.take_length]
          exact PM.read_canon hn (PM.gather_eqv ts) hp (hs.imp fun h => lex_lt.mp h)
        rw [ek] at hy
        have e3 : Ext H H3 := s2.trans s3
        refine ⟨D, zs, rfl, .inl ⟨SqL.of hz, fun p hp2 => ?_⟩⟩
        exact q p _ (e3.new hp2) ⟨zs, upd_same, (ext_upd hp2).termsT hy⟩ (e3.free hp2)
def spLProd (K : PySem.W.Frag) : Sp := fun vs H Q _ => ∃ (a b : Addr) (p q : List Trm), vs = [.ref a, .ref b] ∧ PolyAt K H a p ∧ PolyAt K H b q ∧ p.length * q.length < 1000000 ∧ (∀ t ∈ p, mid t.2) ∧ (∀ t ∈ q, mid t.2) ∧ NewP H Q (canon (mulT p q))
theorem ok_law_product (T : Top K mg) : FnOk P w K mg base CX0 2 T.f_law_product T.d_law_product ["p", "q"] (spLProd K) := by
  refine T.F_law_product.ok sc_law_product (fun vs H Q E h => ?_) (fun cdv A outer s H vs Q E hr h => ?_)
  · obtain ⟨a, b, p, q, rfl, _⟩ := h
    rfl
  · obtain ⟨a, b, p, q, rfl, ⟨xs, h1, h2⟩, ⟨ys, k1, k2⟩, hl, hmp, hmq, r⟩ := h
    refine ⟨_, (pss_cons (ps_set (i := 2) sc_law_product.nd rfl (by first | exact .inl rfl | exact .inr rfl) (pe_lst pa_nil))
      (pss_cons (ps_for PassesOwn.never rfl (pi_tup (pv 0)) (pg_tup rfl (pgs_cons (pg_tup rfl (pgs_cons (pg_name (i := 3) sc_law_product.nd rfl (by first | exact .inl rfl | exact .inr rfl)) (pgs_cons (pg_name (i := 4) sc_law_product.nd rfl (by first | exact .inl rfl | exact .inr rfl)) pgs_nil))) (pgs_cons (pg_name (i := 5) sc_law_product.nd rfl (by first | exact .inl rfl | exact .inr rfl)) pgs_nil))) (pss_one (ps_for PassesOwn.never rfl (pi_tup (pv 1)) (pg_tup rfl (pgs_cons (pg_tup rfl (pgs_cons (pg_name (i := 6) sc_law_product.nd rfl (by first | exact .inl rfl | exact .inr rfl)) (pgs_cons (pg_name (i := 7) sc_law_product.nd rfl (by first | exact .inl rfl | exact .inr rfl)) pgs_nil))) (pgs_cons (pg_name (i := 8) sc_law_product.nd rfl (by first | exact .inl rfl | exact .inr rfl)) pgs_nil))) (pss_one (ps_expr (pe_bm PySem.F.plainAttrs_list PySem.F.slot_list_append PySem.F.type_list_append mt_append (pv 2) (pa_cons (pe_tup (pa_cons (pe_tup (pa_cons (pe_op op_add (pv 3) (pv 6)) (pa_cons (pe_op op_add (pv 4) (pv 7)) pa_nil))) (pa_cons (pe_op op_mulW (pv 5) (pv 8)) pa_nil))) pa_nil)))))))
      (pss_one (ps_ret (pe_call (ok_law_poly T) (hr.mono (by decide)) (by rfl) T.g_law_poly T.F_law_poly.kp T.b_law_poly .nil pass0 (pa_cons (pv 2) pa_nil)))))), ?_⟩
    refine ⟨by rw [sizeLine_eq]; simp, fun l hn => ?_⟩
    have l1 := h2.length
    have l2 := k2.length
    refine ⟨_, rfl, a, rfl, ⟨xs, (ext_upd hn).tup h1⟩, for_tup (xs := xs) (fun i σ H1 => (∃ x1 x2 x3 x4 x5 x6, σ = [some (.ref a), some (.ref b), some (.ref l), x1, x2, x3, x4, x5, x6]) ∧ Ext H H1 ∧ ∃ zs, H1 l = some (.lst zs) ∧ TermsT H1 zs (mulT (p.take i) q))
      ⟨⟨_, _, _, _, _, _, rfl⟩, ext_upd hn, [], upd_same, .nil⟩ (fun i σ H1 _ h => h.2.1.tup h1) (fun i x σ H1 hi hP => ?_) (fun σ H1 hP => ?_)⟩
    · obtain ⟨⟨x1, x2, x3, x4, x5, x6, rfl⟩, s1, zs, hz, hy⟩ := hP
      obtain ⟨t, ht, a1, b1, rfl, g1, g2⟩ := paired_at h2 hi
      refine ⟨a1, _, rfl, s1.tup g1, rfl, _, _, rfl, ?_⟩
      refine ⟨b1, _, rfl, s1.tup g2, rfl, _, _, rfl, _, _, rfl, rfl, _, _, rfl, rfl, ?_⟩
      have ep : mulT (p.take (i + 1)) q = mulT (p.take i) q ++ rowT t q := by rw [take_snoc ht, mul_snoc]
      refine ⟨_, rfl, b, rfl, ⟨ys, s1.tup k1⟩, for_tup (xs := ys) (fun j σ H2 => (∃ y1 y2 y3, σ = [some (.ref a), some (.ref b), some (.ref l), some (.int t.1.1), some (.int t.1.2), some (.int t.2), y1, y2, y3]) ∧ Ext H H2 ∧ ∃ zs, H2 l = some (.lst zs) ∧ TermsT H2 zs (mulT (p.take i) q ++ rowT t (q.take j)))
        ⟨⟨_, _, _, rfl⟩, s1, zs, hz, by rw [List.take_zero, show rowT t [] = [] from rfl, List.append_nil]; exact hy⟩ (fun j σ H2 _ h => h.2.1.tup k1) (fun j y σ H2 hj hP2 => ?_) (fun σ H2 hP2 => ?_)⟩
      · obtain ⟨⟨y1, y2, y3, rfl⟩, s2, zs, hz, hy⟩ := hP2
        obtain ⟨u, hu, c1, e1, rfl, m1, m2⟩ := paired_at k2 hj
        refine ⟨c1, _, rfl, s2.tup m1, rfl, _, _, rfl, ?_⟩
        refine ⟨e1, _, rfl, s2.tup m2, rfl, _, _, rfl, _, _, rfl, rfl, _, _, rfl, rfl, ?_⟩
        have mt := mid_mul (hmp t (List.mem_of_getElem? ht)) (hmq u (List.mem_of_getElem? hu))
        refine ⟨_, rfl, .inl ⟨rfl, _, SqL.of hz⟩, _, rfl, _, rfl, _, _, rfl, rfl, _, rfl, _, rfl, _, _, rfl, rfl, sl2, fun p2 hp2 => ?_⟩
        have hz2 := (ext_upd (o := .tup [.int (t.1.1 + u.1.1), .int (t.1.2 + u.1.2)]) hp2).lst hz
        refine ⟨_, rfl, _, rfl, _, _, rfl, rfl, mt, sl2, fun p3 hp3 => ?_⟩
        have hz3 := (ext_upd (o := .tup [.ref p2, .int (t.2 * u.2)]) hp3).lst hz2
        refine ⟨l, zs, .ref p3, rfl, rfl, hz3, ?_, ?_⟩
        · have l3 := hy.length
          have l4 := len_part p q i j t ht
          exact sl_lt (by omega)
        · refine ⟨⟨_, _, _, rfl⟩, ((s2.new hp2).new hp3).own hn, zs ++ [.ref p3], upd_same, ?_⟩
          have e9 : rowT t (q.take (j + 1)) = rowT t (q.take j) ++ [(addE t.1 u.1, t.2 * u.2)] := by
            rw [take_snoc hu]
            unfold rowT
            rw [List.map_append]
            rfl
          rw [e9, ← List.append_assoc]
          refine termsT_upd hz3 (paired_snoc ((ext_upd hp3).termsT ((ext_upd hp2).termsT hy)) ?_)
          exact ⟨p3, p2, rfl, upd_same, (ext_upd hp3).at upd_same⟩
      · obtain ⟨⟨y1, y2, y3, rfl⟩, s2, zs, hz, hy⟩ := hP2
        refine ⟨⟨_, _, _, _, _, _, rfl⟩, s2, zs, hz, ?_⟩
        rw [l2, List.take_length] at hy
        rw [ep]
        exact hy
    · obtain ⟨⟨x1, x2, x3, x4, x5, x6, rfl⟩, s1, zs, hz, hy⟩ := hP
      rw [l1, List.take_length] at hy
      exact ⟨_, rfl, l, zs, _, rfl, .inl (SqL.of hz), hy, by rw [PM.length_mul]; exact hl, fun p2 H2 s2 hp h0 => r p2 H2 (s1.trans s2) hp (s1.free h0)⟩
/-- up to five small terms -/
def Small (ts : List Trm) : Prop := ts.length ≤ 5 ∧ ∀ t ∈ ts, t.2.natAbs ≤ 4
def spTerms : Sp := fun vs H Q _ => ∃ c : Int, vs = [.int c, .int 5] ∧ ∀ l H' xs ts, Ext H H' → H l = none → H' l = some (.lst xs) → TermsT H' xs ts → Small ts → Q (.ref l) H'
def termOf (k : Int) : Trm := ((k % 5 - 2, k / 5 % 4 - 1), k / 20 - 4)
theorem ok_law_terms (T : Top K mg) : FnOk P w K mg base CX0 3 T.f_law_terms T.d_law_terms ["cell", "most"] spTerms := by
  refine T.F_law_terms.ok sc_law_terms (fun vs H Q E h => ?_) (fun cdv A outer s H vs Q E hr h => ?_)
  · obtain ⟨c, rfl, _⟩ := h
    rfl
  · obtain ⟨c, rfl, q⟩ := h
    refine ⟨_, (pss_cons (ps_set (i := 2) sc_law_terms.nd rfl (by first | exact .inl rfl | exact .inr rfl) (pe_call (ok_law_row T) (hr.mono (by decide)) (by rfl) T.g_law_row T.F_law_row.kp T.b_law_row .nil pass0 (pa_cons (pv 0) (pa_cons (pe_op op_add pe_int (pv 1)) (pa_cons pe_int pa_nil)))))
      (pss_one (ps_ret (pe_lc (own := [("k", 3)]) (g := gName 3) (tt := tYes) rfl sc_law_terms.nd (pi_list (pe_slice sl_list (pv 2) (po_some pe_int) (po_some (pe_op op_add pe_int (pe_op op_mod (pe_ix ix_list (pv 2) pe_int (fun _ _ => rfl)) (pe_op op_add (pv 1) pe_int)))))) (blkOk_by (own := [("k", 3)]) (N := n_law_terms) (sc := defScope s_law_terms) (by decide +kernel)) (fun _ _ _ _ _ => (pg_name (i := 3) sc_law_terms.nd rfl (by first | exact .inl rfl | exact .inr rfl))) (fun _ _ _ _ _ => pts_nil) (fun _ _ _ _ _ => (pe_tup (pa_cons (pe_tup (pa_cons (pe_op op_sub (pe_op op_mod (pv 3) pe_int) pe_int) (pa_cons (pe_op op_sub (pe_op op_mod (pe_op op_fdiv (pv 3) pe_int) pe_int) pe_int) pa_nil))) (pa_cons (pe_op op_sub (pe_op op_fdiv (pv 3) pe_int) pe_int) pa_nil)))))))), ?_⟩
    refine ⟨_, rfl, _, rfl, _, _, rfl, rfl, c, 180, 6, rfl, by decide, by decide, by decide, fun l H1 rs s1 hn hl hlen hrs => ?_⟩
    match rs, hlen with
    | r0 :: rest, hlen =>
      have hr0 := hrs r0 List.mem_cons_self
      refine ⟨_, rfl, 1, rfl, _, rfl, l, _, _, .int r0, rfl, rfl, SqL.of hl, atI_nat (j := 0) rfl, _, rfl, _, _, rfl, rfl, _, _, rfl, rfl, pos_lit rfl, _, _, rfl, rfl, _, rfl, l, _, rfl, SqL.of hl, fun m hm => ?_⟩
      have hr1 := Int.emod_nonneg r0 (show (5 + 1 : Int) ≠ 0 by decide)
      have hr2 := Int.emod_lt_of_pos r0 (show (0 : Int) < 5 + 1 by decide)
      obtain ⟨ks, eks, hks, lks⟩ : ∃ ks : List Int, cutV ((r0 :: rest).map V.int) (some 1) (some (1 + r0 % (5 + 1))) = ks.map V.int ∧ (∀ k ∈ ks, 0 ≤ k ∧ k < 180) ∧ ks.length ≤ 5 := by
        generalize hm5 : r0 % (5 + 1) = v at hr1 hr2
        have e6 : ((r0 :: rest).map V.int).length = 6 := by rw [List.length_map]; exact hlen
        have i1 : HT.sIx 6 0 (some 1) = 1 := HT.sIx_nat 6 0 1
        have i2 : HT.sIx 6 6 (some (1 + v)) = min (1 + v.toNat) 6 := by
          have := HT.sIx_nat 6 6 (1 + v.toNat)
          have e : ((1 + v.toNat : Nat) : Int) = 1 + v := by omega
          rw [e] at this
          exact this
        refine ⟨((r0 :: rest).drop 1).take (min (1 + v.toNat) 6 - 1), ?_, fun k hk => ?_, ?_⟩
        · unfold cutV
          rw [e6, i1, i2, List.map_take, List.map_drop]
        · exact hrs k (List.mem_of_mem_drop (List.mem_of_mem_take hk))
        · rw [List.length_take]
          omega
      rw [eks]
      have s2 : Ext H (upd H1 m (.lst (ks.map V.int))) := s1.new hm
      refine ⟨m, rfl, ⟨_, SqL.of upd_same⟩, fun D hD => lc_list (xs := ks.map V.int) (fun i H3 => Ext (upd H1 m (.lst (ks.map V.int))) H3 ∧ ∃ zs, H3 D = some (.lst zs) ∧ TermsT H3 zs ((ks.take i).map termOf))
        ⟨ext_upd hD, [], upd_same, .nil⟩ (fun i H3 _ h => SqL.of (h.1.lst upd_same)) (fun i x H3 hi hP => ?_) (fun H3 hP => ?_)⟩
      · obtain ⟨s3, zs, hz, hy⟩ := hP
        rw [List.getElem?_map] at hi
        cases hki : ks[i]? with
        | none => rw [hki] at hi; cases hi
        | some k =>
          rw [hki] at hi
          cases hi
          refine ⟨rfl, _, rfl, _, _, rfl, rfl, pos_lit rfl, _, _, rfl, rfl, _, rfl, _, _, rfl, rfl, ⟨by decide, by decide⟩, _, _, rfl, rfl, pos_lit rfl, _, _, rfl, rfl, sl2, fun p2 hp2 => ?_⟩
          have hz2 := (ext_upd (o := .tup [.int (k % 5 - 2), .int (k / 5 % 4 - 1)]) hp2).lst hz
          refine ⟨_, rfl, _, _, rfl, rfl, ⟨by decide, by decide⟩, _, _, rfl, rfl, sl2, fun p3 hp3 => ?_⟩
          have hz3 := (ext_upd (o := .tup [.ref p2, .int (k / 20 - 4)]) hp3).lst hz2
          refine ⟨zs, hz3, ?_, ((s3.new hp2).new hp3).own hD, zs ++ [.ref p3], upd_same, ?_⟩
          · have l3 := hy.length
            rw [List.length_map, List.length_take] at l3
            exact sl_lt (by omega)
          · rw [take_snoc hki, List.map_append]
            exact termsT_upd hz3 (paired_snoc ((ext_upd hp3).termsT ((ext_upd hp2).termsT hy)) ⟨p3, p2, rfl, upd_same, (ext_upd hp3).at upd_same⟩)
      · obtain ⟨s3, zs, hz, hy⟩ := hP
        rw [List.length_map, List.take_length] at hy
        have e3 : Ext H H3 := s2.trans s3
        refine q D H3 zs _ e3 (s2.free hD) hz hy ⟨by rw [List.length_map]; exact lks, fun t ht => ?_⟩
        obtain ⟨k, hk, rfl⟩ := List.mem_map.mp ht
        have := hks k hk
        show (k / 20 - 4).natAbs ≤ 4
        omega
/-! ### data that may be laid -/
def Gd (n : Nat) (d : PyData) : Prop := d.canLay0 = true ∧ d.depth ≤ n
theorem gd_int (i : Int) : Gd 3 (.int i) := ⟨by simp [PyData.canLay0], by simp [PyData.depth]⟩
theorem gd_all {n : Nat} : ∀ {ds : List PyData}, (∀ x ∈ ds, Gd n x) → PyData.canLayAll0 ds = true ∧ PyData.depthAll ds ≤ n
  | [], _ => ⟨by simp [PyData.canLayAll0], by simp [PyData.depthAll]⟩
  | d :: ds, h => by
    obtain ⟨h1, h2⟩ := h d List.mem_cons_self
    obtain ⟨h3, h4⟩ := gd_all fun x m => h x (List.mem_cons_of_mem _ m)
    simp only [PyData.canLayAll0, PyData.depthAll, h1, h3, Bool.and_self, true_and]
    omega
theorem gd_tup {n : Nat} {ds : List PyData} (h : ∀ x ∈ ds, Gd n x) : Gd (n + 1) (.tuple ds) := by
  obtain ⟨h1, h2⟩ := gd_all h
  refine ⟨by simp only [PyData.canLay0, h1], ?_⟩
  simp only [PyData.depth]
  omega
theorem gd_lst {n : Nat} {ds : List PyData} (h : ∀ x ∈ ds, Gd n x) : Gd (n + 1) (.list ds) := by
  obtain ⟨h1, h2⟩ := gd_all h
  refine ⟨by simp only [PyData.canLay0, h1], ?_⟩
  simp only [PyData.depth]
  omega
theorem Gd.up {n m : Nat} {d : PyData} (h : Gd n d) (k : n ≤ m) : Gd m d := ⟨h.1, Nat.le_trans h.2 k⟩
theorem Gd.sh {n : Nat} {d : PyData} (h : Gd n d) (k : n ≤ 64 := by decide) : SeqAt.shaped d = true := by
  unfold SeqAt.shaped
  rw [h.1, Bool.true_and]
  exact decide_eq_true (Nat.le_trans h.2 k)
theorem gd_term (t : Trm) : Gd 5 (termD t) := gd_tup fun x m => by
  rcases List.mem_cons.mp m with rfl | m
  · exact gd_tup fun y m => by
      rcases List.mem_cons.mp m with rfl | m
      · exact gd_int _
      · rw [List.mem_singleton.mp m]
        exact gd_int _
  · rw [List.mem_singleton.mp m]
    exact (gd_int _).up (by decide)
theorem gd_poly (ts : List Trm) : Gd 6 (polyD ts) := gd_tup fun x m => by
  obtain ⟨t, _, rfl⟩ := List.mem_map.mp m
  exact gd_term t
def listD (ts : List Trm) : PyData := .list (ts.map termD)
theorem gd_terms (ts : List Trm) : Gd 6 (listD ts) := gd_lst fun x m => by
  obtain ⟨t, _, rfl⟩ := List.mem_map.mp m
  exact gd_term t
theorem gd_two (a b : List Trm) : Gd 7 (.tuple [listD a, listD b]) := gd_tup fun x m => by
  rcases List.mem_cons.mp m with rfl | m
  · exact gd_terms _
  · rw [List.mem_singleton.mp m]
    exact gd_terms _
theorem eqv_self {n : Nat} {d : PyData} (h : Gd n d) : PyData.eqv d d = true := SeqAt.eqv_refl d h.1
theorem lst_dp {H : Hp} {p : Addr} {xs : List V} {ts : List Trm} (h : H p = some (.lst xs)) (k : TermsT H xs ts) : Dp K H (.ref p) (listD ts) := .lst (SqL.of h) (terms_dp (terms_of k))
theorem div_at (i : Int) (h0 : 0 ≤ i) (h6 : i < 6) : ∃ d : Int, atI [V.int 1, .int (-1), .int 2, .int (-2), .int 3, .int (-3)] i = some (.int d) ∧ d ≠ 0 ∧ d.natAbs ≤ 3 := by
  have : i = 0 ∨ i = 1 ∨ i = 2 ∨ i = 3 ∨ i = 4 ∨ i = 5 := by omega
  rcases this with rfl | rfl | rfl | rfl | rfl | rfl
  · exact ⟨1, rfl, by decide, by decide⟩
  · exact ⟨-1, rfl, by decide, by decide⟩
  · exact ⟨2, rfl, by decide, by decide⟩
  · exact ⟨-2, rfl, by decide, by decide⟩
  · exact ⟨3, rfl, by decide, by decide⟩
  · exact ⟨-3, rfl, by decide, by decide⟩
/-- the four due polynomials -/
def dueP (p q : List Trm) (e : Nat) : List (List Trm) := [canon (p ++ q), canon (p ++ q.map neg), canon (mulT p q), canon (pw p e)]
theorem cat_lpoly {H : Hp} {Q : VK} {E : XK} {a b : Addr} {p q : List Trm} (h : PolyT H a p) (k : PolyT H b q) (hl : p.length + q.length < 1000000) (r : NewP H Q (canon (p ++ q))) :
    rCatA K (.ref a) (.ref b) H fun v H1 => spLPoly K [v] H1 Q E := by
  obtain ⟨xs, h1, h2⟩ := h
  obtain ⟨ys, k1, k2⟩ := k
  have l1 := h2.length
  have l2 := k2.length
  refine ⟨a, b, xs, ys, rfl, rfl, SqT.of h1, SqT.of k1, sl_of (by omega), fun e => ?_, fun e1 e2 => ?_, fun e1 e2 c hc => ?_⟩
  · subst e
    cases h2
    exact ⟨b, ys, q, rfl, .inr (SqT.of k1), k2, by omega, r⟩
  · subst e2
    cases k2
    rw [List.append_nil] at r
    exact ⟨a, xs, p, rfl, .inr (SqT.of h1), h2, by omega, r⟩
  · have e := ext_upd (o := .tup (xs ++ ys)) hc
    exact ⟨c, xs ++ ys, p ++ q, rfl, .inr (SqT.of upd_same), e.termsT (paired_app h2 k2), by rw [List.length_append]; omega, fun p2 H2 s2 h n => r p2 H2 (e.trans s2) h (e.free n)⟩
theorem norm_small : ∀ {ts : List Trm}, (∀ t ∈ ts, t.2.natAbs ≤ 4) → PM.norm ts ≤ 4 * ts.length
  | [], _ => Nat.le_refl _
  | t :: ts, h => by
    have h1 := h t List.mem_cons_self
    have h2 := norm_small fun x m => h x (List.mem_cons_of_mem _ m)
    simp only [PM.norm, List.length_cons]
    omega
theorem Small.low {ts : List Trm} (h : Small ts) : Lowp (canon ts) := by
  have h1 := norm_small h.2
  have h2 := PM.norm_canon ts
  have h3 := PM.length_canon_le ts
  have h4 := h.1
  refine ⟨by omega, ?_⟩
  have h5 : (20 : Nat) ≤ 2 ^ 60 := by decide
  omega
theorem polys_dp {H : Hp} : ∀ {vs : List Addr} {ps : List (List Trm)}, Paired (PolyAt K H) vs ps → DpAll K H (vs.map V.ref) (ps.map polyD)
  | _, _, .nil => .nil
  | _, _, .cons h t => .cons h.dp (polys_dp t)
theorem gd_due (ps : List (List Trm)) : Gd 7 (.list (ps.map polyD)) := gd_lst fun x m => by
  obtain ⟨t, _, rfl⟩ := List.mem_map.mp m
  exact gd_poly t
theorem tupD_poly {ts : List Trm} (h : ts.length < 1000000) : tupD 4 (polyD ts) := by
  refine ⟨by rw [List.length_map]; exact h, fun x m => ?_⟩
  obtain ⟨t, _, rfl⟩ := List.mem_map.mp m
  refine ⟨by simp, fun y m => ?_⟩
  rcases List.mem_cons.mp m with rfl | m
  · refine ⟨by simp, fun z m => ?_⟩
    rcases List.mem_cons.mp m with rfl | m
    · trivial
    · rw [List.mem_singleton.mp m]
      trivial
  · rw [List.mem_singleton.mp m]
    trivial
def scale (d : Int) (t : Trm) : Trm := (t.1, t.2 * d)
/-- what stands behind the first test -/
structure M1 (K : PySem.W.Frag) (T : Top K mg) (a : Addr) (H H1 : Hp) (f1 p q : Addr) (e : Nat) (d : Int) (t1 t2 : List Trm) : Prop where
  ext : Ext H H1
  m1 : Small t1
  m2 : Small t2
  he : e ≤ 3
  d0 : d ≠ 0
  d3 : d.natAbs ≤ 3
  f : ∃ xs, H1 f1 = some (.lst xs) ∧ TermsT H1 xs t1
  p : PolyT H1 p (canon t1)
  q : PolyT H1 q (canon t2)
  G : Tg T H1
theorem M1.up {T : Top K mg} {a : Addr} {H H1 H2 : Hp} {f1 p q : Addr} {e : Nat} {d : Int} {t1 t2 : List Trm} (h : M1 K T a H H1 f1 p q e d t1 t2) (s : Ext H1 H2) : M1 K T a H H2 f1 p q e d t1 t2 :=
  ⟨h.ext.trans s, h.m1, h.m2, h.he, h.d0, h.d3, let ⟨xs, h1, h2⟩ := h.f; ⟨xs, s.lst h1, s.termsT h2⟩, s.polyT h.p, s.polyT h.q, h.G.ext s⟩
theorem due_len {T : Top K mg} {a : Addr} {H H1 : Hp} {f1 p q : Addr} {e : Nat} {d : Int} {t1 t2 : List Trm} (h : M1 K T a H H1 f1 p q e d t1 t2) (ts : List Trm) (m : ts ∈ dueP (canon t1) (canon t2) e) : ts.length < 1000000 := by
  have c1 := PM.length_canon_le t1
  have c2 := PM.length_canon_le t2
  have m1 := h.m1.1
  have m2 := h.m2.1
  have l12 : (canon t1).length * (canon t2).length ≤ 25 := Nat.mul_le_mul (Nat.le_trans c1 m1) (Nat.le_trans c2 m2)
  simp only [dueP, List.mem_cons, List.not_mem_nil, or_false] at m
  rcases m with rfl | rfl | rfl | rfl
  · have := PM.length_canon_le (canon t1 ++ canon t2)
    rw [List.length_append] at this
    omega
  · have := PM.length_canon_le (canon t1 ++ (canon t2).map neg)
    rw [List.length_append, List.length_map] at this
    omega
  · have := PM.length_canon_le (mulT (canon t1) (canon t2))
    rw [PM.length_mul] at this
    omega
  · have h1 := PM.length_canon_le (pw (canon t1) e)
    have h2 : ∀ n, (pw (canon t1) n).length = (canon t1).length ^ n := fun n => by
      induction n with
      | zero => rfl
      | succ n ih => rw [pw, PM.length_mul, ih, Nat.pow_succ]
    rw [h2 e] at h1
    have h3 : (canon t1).length ^ e ≤ 8 ^ 3 := Nat.le_trans (Nat.pow_le_pow_left (by omega) e) (Nat.pow_le_pow_right (by decide) h.he)
    omega
def spLaw (T : Top K mg) : Sp := fun vs H Q _ => ∃ (a : Addr) (ns : List Int), vs = [.ref a] ∧ SqL K H a (ns.map V.int) ∧ Tg T H ∧ ∀ H', Q (.bl true) H'
theorem law_in (T : Top K mg) (H : Hp) (a : Addr) (ns : List Int) (hl : ns.length ≤ 63) (hb : ∀ z ∈ ns, Builtin.Int.intBits z ≤ 1048576) (G : Tg T H) (hS : SqL K H a (ns.map V.int)) : spLaw T [.ref a] H (fun v _ => v = .bl true) fun _ _ _ => False := ⟨a, ns, rfl, hS, G, fun _ => rfl⟩
theorem ok_law {f : Addr} {d : FuncData} (F : Fun K "law" "law" s_law f d) (T : Top K mg) (B : Tb T base) : FnOk P w K mg base CX0 8 f d ["script"] (spLaw T) := by
  refine F.ok sc_law (fun vs H Q E h => ?_) (fun cdv A outer s H vs Q E hr h => ?_)
  · obtain ⟨a, ns, rfl, _⟩ := h
    rfl
  · obtain ⟨a, ns, rfl, hS, G, q⟩ := h
    refine ⟨_, (pss_cons (ps_set (i := 1) sc_law.nd rfl (by first | exact .inl rfl | exact .inr rfl) (pe_call (ok_law_terms T) (hr.mono (by decide)) (by rfl) T.g_law_terms T.F_law_terms.kp T.b_law_terms .nil pass0 (pa_cons (pe_call (ok_law_cell T) (hr.mono (by decide)) (by rfl) T.g_law_cell T.F_law_cell.kp T.b_law_cell .nil pass0 (pa_cons (pv 0) (pa_cons pe_int pa_nil))) (pa_cons pe_int pa_nil))))
      (pss_cons (ps_set (i := 2) sc_law.nd rfl (by first | exact .inl rfl | exact .inr rfl) (pe_call (ok_law_terms T) (hr.mono (by decide)) (by rfl) T.g_law_terms T.F_law_terms.kp T.b_law_terms .nil pass0 (pa_cons (pe_call (ok_law_cell T) (hr.mono (by decide)) (by rfl) T.g_law_cell T.F_law_cell.kp T.b_law_cell .nil pass0 (pa_cons (pv 0) (pa_cons pe_int pa_nil))) (pa_cons pe_int pa_nil))))
      (pss_cons (ps_set (i := 3) sc_law.nd rfl (by first | exact .inl rfl | exact .inr rfl) (pe_op op_mod (pe_call (ok_law_cell T) (hr.mono (by decide)) (by rfl) T.g_law_cell T.F_law_cell.kp T.b_law_cell .nil pass0 (pa_cons (pv 0) (pa_cons pe_int pa_nil))) pe_int))
      (pss_cons (ps_set (i := 4) sc_law.nd rfl (by first | exact .inl rfl | exact .inr rfl) (pe_ix ix_tup (pe_tup (pa_cons pe_int (pa_cons (pe_un un_neg pe_int) (pa_cons pe_int (pa_cons (pe_un un_neg pe_int) (pa_cons pe_int (pa_cons (pe_un un_neg pe_int) pa_nil))))))) (pe_op op_mod (pe_op op_fdiv (pe_call (ok_law_cell T) (hr.mono (by decide)) (by rfl) T.g_law_cell T.F_law_cell.kp T.b_law_cell .nil pass0 (pa_cons (pv 0) (pa_cons pe_int pa_nil))) pe_int) pe_int) (fun _ _ => rfl)))
      (pss_cons (ps_set (i := 5) sc_law.nd rfl (by first | exact .inl rfl | exact .inr rfl) (pe_tup (pa_cons (pe_callTy call_list_of (by rfl) T.m_list (by decide +kernel) (pa_cons (pv 1) pa_nil)) (pa_cons (pe_callTy call_list_of (by rfl) T.m_list (by decide +kernel) (pa_cons (pv 2) pa_nil)) pa_nil))))
      (pss_cons (ps_set (i := 6) sc_law.nd rfl (by first | exact .inl rfl | exact .inr rfl) (pe_call (ok_law_poly T) (hr.mono (by decide)) (by rfl) T.g_law_poly T.F_law_poly.kp T.b_law_poly .nil pass0 (pa_cons (pv 1) pa_nil)))
      (pss_cons (ps_set (i := 7) sc_law.nd rfl (by first | exact .inl rfl | exact .inr rfl) (pe_call (ok_law_poly T) (hr.mono (by decide)) (by rfl) T.g_law_poly T.F_law_poly.kp T.b_law_poly .nil pass0 (pa_cons (pv 2) pa_nil)))
      (C8.pss_cut (ps_if (PW.pt (pw_or (pt_cmpR (op_neD hr.units) (pe_call (ok_polynomial T B) (hr.mono (by decide)) (by rfl) T.g_polynomial T.F_polynomial.kp T.b_polynomial .nil pass0 (pa_cons (pe_ix ix_tup (pv 5) pe_int (fun _ _ => rfl)) pa_nil)) (pv 6) (nomark _)) (pw_or (pt_cmpR (op_neD hr.units) (pe_call (ok_polynomial T B) (hr.mono (by decide)) (by rfl) T.g_polynomial T.F_polynomial.kp T.b_polynomial .nil pass0 (pa_cons (pe_ix ix_tup (pv 5) pe_int (fun _ _ => rfl)) pa_nil)) (pv 7) (nomark _)) (pw_or1 (pt_cmpR (op_neD hr.units) (pv 5) (pe_tup (pa_cons (pv 1) (pa_cons (pv 2) pa_nil))) (nomark _)))))) (pss_one (ps_ret pe_bl)) pss_nil)
      (pss_cons (ps_set (i := 8) sc_law.nd rfl (by first | exact .inl rfl | exact .inr rfl) (pe_callTy call_tuple_of (by rfl) T.m_tuple (by decide +kernel) (pa_cons (pe_lc (own := [("key", 9), ("number", 10)]) (g := gTup K 2 (gCons (gName 9) (gCons (gName 10) gNil))) (tt := tYes) rfl sc_law.nd (pi_tup (pv 7)) (blkOk_by (own := [("key", 9), ("number", 10)]) (N := n_law) (sc := defScope s_law) (by decide +kernel)) (fun _ _ _ _ _ => (pg_tup rfl (pgs_cons (pg_name (i := 9) sc_law.nd rfl (by first | exact .inl rfl | exact .inr rfl)) (pgs_cons (pg_name (i := 10) sc_law.nd rfl (by first | exact .inl rfl | exact .inr rfl)) pgs_nil)))) (fun _ _ _ _ _ => pts_nil) (fun _ _ _ _ _ => (pe_tup (pa_cons (pv 9) (pa_cons (pe_un un_neg (pv 10)) pa_nil))))) pa_nil)))
      (pss_cons (ps_set (i := 11) sc_law.nd rfl (by first | exact .inl rfl | exact .inr rfl) (pe_tup (pa_cons (pe_tup (pa_cons (pe_tup (pa_cons pe_int (pa_cons pe_int pa_nil))) (pa_cons pe_int pa_nil))) pa_nil)))
      (C8.pss_cut (ps_for PassesOwn.never rfl (pi_range1 (by rfl) T.m_range (pa_cons (pv 3) pa_nil)) (pg_name (i := 12) sc_law.nd rfl (by first | exact .inl rfl | exact .inr rfl)) (pss_one (ps_set (i := 11) sc_law.nd rfl (by first | exact .inl rfl | exact .inr rfl) (pe_call (ok_law_product T) (hr.mono (by decide)) (by rfl) T.g_law_product T.F_law_product.kp T.b_law_product .nil pass0 (pa_cons (pv 11) (pa_cons (pv 6) pa_nil))))))
      (pss_cons (ps_set (i := 13) sc_law.nd rfl (by first | exact .inl rfl | exact .inr rfl) (pe_lst (pa_cons (pe_call (ok_law_poly T) (hr.mono (by decide)) (by rfl) T.g_law_poly T.F_law_poly.kp T.b_law_poly .nil pass0 (pa_cons (pe_op op_catA (pv 6) (pv 7)) pa_nil)) (pa_cons (pe_call (ok_law_poly T) (hr.mono (by decide)) (by rfl) T.g_law_poly T.F_law_poly.kp T.b_law_poly .nil pass0 (pa_cons (pe_op op_catA (pv 6) (pv 8)) pa_nil)) (pa_cons (pe_call (ok_law_product T) (hr.mono (by decide)) (by rfl) T.g_law_product T.F_law_product.kp T.b_law_product .nil pass0 (pa_cons (pv 6) (pa_cons (pv 7) pa_nil))) (pa_cons (pv 11) pa_nil))))))
      (C8.pss_cut (ps_set (i := 14) sc_law.nd rfl (by first | exact .inl rfl | exact .inr rfl) (pe_lst (pa_cons (pe_call (ok_plus T B) (hr.mono (by decide)) (by rfl) T.g_plus T.F_plus.kp T.b_plus .nil pass0 (pa_cons (pv 6) (pa_cons (pv 7) pa_nil))) (pa_cons (pe_call (ok_minus T B) (hr.mono (by decide)) (by rfl) T.g_minus T.F_minus.kp T.b_minus .nil pass0 (pa_cons (pv 6) (pa_cons (pv 7) pa_nil))) (pa_cons (pe_call (ok_times T B) (hr.mono (by decide)) (by rfl) T.g_times T.F_times.kp T.b_times .nil pass0 (pa_cons (pv 6) (pa_cons (pv 7) pa_nil))) (pa_cons (pe_call (ok_power T B) (hr.mono (by decide)) (by rfl) T.g_power T.F_power.kp T.b_power .nil pass0 (pa_cons (pv 6) (pa_cons (pv 3) pa_nil))) pa_nil))))))
      (C8.pss_cut (ps_if (PW.pt (pw_or (pt_cmpR (op_neD hr.units) (pv 14) (pv 13) (nomark _)) (pw_or (pt_not (pt_val (pe_callB (cr_all rfl) (by rfl) T.m_all (by decide +kernel) (pa_cons (pe_lc (own := [("value", 15)]) (g := gName 15) (tt := tYes) rfl sc_law.nd (pi_list (pv 14)) (blkOk_by (own := [("value", 15)]) (N := n_law) (sc := defScope s_law) (by decide +kernel)) (fun _ _ _ _ _ => (pg_name (i := 15) sc_law.nd rfl (by first | exact .inl rfl | exact .inr rfl))) (fun _ _ _ _ _ => pts_nil) (fun _ _ _ _ _ => (pe_call (ok_law_tuples T 4) (hr.mono (by decide)) (by rfl) T.g_law_tuples T.F_law_tuples.kp T.b_law_tuples .nil pass0 (pa_cons (pv 15) pa_nil)))) pa_nil)))) (pw_or1 (pt_not (pt_val (pe_call (ok_law_tuples T 4) (hr.mono (by decide)) (by rfl) T.g_law_tuples T.F_law_tuples.kp T.b_law_tuples .nil pass0 (pa_cons (pe_call (ok_polynomial T B) (hr.mono (by decide)) (by rfl) T.g_polynomial T.F_polynomial.kp T.b_polynomial .nil pass0 (pa_cons (pv 1) pa_nil)) pa_nil)))))))) (pss_one (ps_ret pe_bl)) pss_nil)
      (pss_cons (ps_set (i := 16) sc_law.nd rfl (by first | exact .inl rfl | exact .inr rfl) (pe_callTy call_tuple_of (by rfl) T.m_tuple (by decide +kernel) (pa_cons (pe_lc (own := [("key", 9), ("number", 10)]) (g := gTup K 2 (gCons (gName 9) (gCons (gName 10) gNil))) (tt := tYes) rfl sc_law.nd (pi_tup (pv 6)) (blkOk_by (own := [("key", 9), ("number", 10)]) (N := n_law) (sc := defScope s_law) (by decide +kernel)) (fun _ _ _ _ _ => (pg_tup rfl (pgs_cons (pg_name (i := 9) sc_law.nd rfl (by first | exact .inl rfl | exact .inr rfl)) (pgs_cons (pg_name (i := 10) sc_law.nd rfl (by first | exact .inl rfl | exact .inr rfl)) pgs_nil)))) (fun _ _ _ _ _ => pts_nil) (fun _ _ _ _ _ => (pe_tup (pa_cons (pv 9) (pa_cons (pe_op op_mul (pv 10) (pv 4)) pa_nil))))) pa_nil)))
      (C8.pss_cut (ps_if (PW.pt (pw_or (pt_cmpR (op_neD hr.units) (pe_call (ok_shared T B) (hr.mono (by decide)) (by rfl) T.g_shared T.F_shared.kp T.b_shared .nil pass0 (pa_cons (pv 16) (pa_cons (pv 4) pa_nil))) (pv 6) (nomark _)) (pw_or1 (pt_not (pt_val (pe_call (ok_law_tuples T 4) (hr.mono (by decide)) (by rfl) T.g_law_tuples T.F_law_tuples.kp T.b_law_tuples .nil pass0 (pa_cons (pe_call (ok_shared T B) (hr.mono (by decide)) (by rfl) T.g_shared T.F_shared.kp T.b_shared .nil pass0 (pa_cons (pv 16) (pa_cons (pv 4) pa_nil))) pa_nil))))))) (pss_one (ps_ret pe_bl)) pss_nil)
      (pss_cons (ps_setLc (i := 17) (own := [("key", 9), ("number", 10)]) (g := gTup K 2 (gCons (gName 9) (gCons (gName 10) gNil))) rfl sc_law.nd rfl rfl (sw_true rfl rfl rfl (by decide +kernel)) (pi_tup (pv 7)) (blkOk_by (own := [("key", 9), ("number", 10)]) (N := n_law) (sc := defScope s_law) (by decide +kernel)) (fun _ _ _ _ _ => (pg_tup rfl (pgs_cons (pg_name (i := 9) sc_law.nd rfl (by first | exact .inl rfl | exact .inr rfl)) (pgs_cons (pg_name (i := 10) sc_law.nd rfl (by first | exact .inl rfl | exact .inr rfl)) pgs_nil)))) (fun _ _ _ _ _ => pts_one (pt_cmpR op_ne (pe_op op_modN (pv 10) (pv 4)) pe_int (nomark _))) (fun _ _ _ _ _ => (pv 10)))
      (pss_cons (ps_if (pt_cmpR op_gt (pe_callB call_len_seq (by rfl) T.m_len (by decide +kernel) (pa_cons (pv 17) pa_nil)) pe_int (nomark _)) (pss_one (ps_ret (pe_cmpR op_isN (pe_call (ok_shared T B) (hr.mono (by decide)) (by rfl) T.g_shared T.F_shared.kp T.b_shared .nil pass0 (pa_cons (pv 7) (pa_cons (pv 4) pa_nil))) pe_non (nomark _)))) pss_nil)
      (pss_one (ps_ret (pe_cmpR (op_eqD hr.units) (pe_call (ok_shared T B) (hr.mono (by decide)) (by rfl) T.g_shared T.F_shared.kp T.b_shared .nil pass0 (pa_cons (pv 7) (pa_cons (pv 4) pa_nil))) (pe_callTy call_tuple_of (by rfl) T.m_tuple (by decide +kernel) (pa_cons (pe_lc (own := [("key", 9), ("number", 10)]) (g := gTup K 2 (gCons (gName 9) (gCons (gName 10) gNil))) (tt := tYes) rfl sc_law.nd (pi_tup (pv 7)) (blkOk_by (own := [("key", 9), ("number", 10)]) (N := n_law) (sc := defScope s_law) (by decide +kernel)) (fun _ _ _ _ _ => (pg_tup rfl (pgs_cons (pg_name (i := 9) sc_law.nd rfl (by first | exact .inl rfl | exact .inr rfl)) (pgs_cons (pg_name (i := 10) sc_law.nd rfl (by first | exact .inl rfl | exact .inr rfl)) pgs_nil)))) (fun _ _ _ _ _ => pts_nil) (fun _ _ _ _ _ => (pe_tup (pa_cons (pv 9) (pa_cons (pe_op op_fdivZ (pv 10) (pv 4)) pa_nil))))) pa_nil)) (nomark _)))))))))))))))))))))), ?_⟩
    refine ⟨_, rfl, a, ns, 0, rfl, hS, cellZ ns 0, rfl, fun f1 H1 xs1 t1 s1 n1 h1 ht1 m1 => ?_⟩
    refine ⟨_, rfl, a, ns, 1, rfl, s1.seq hS, cellZ ns 1, rfl, fun f2 H2 xs2 t2 s2 n2 h2 ht2 m2 => ?_⟩
    have s02 := s1.trans s2
    refine ⟨_, rfl, a, ns, 2, rfl, s02.seq hS, _, _, rfl, rfl, pos_lit rfl, ?_⟩
    refine ⟨_, rfl, _, rfl, _, rfl, by rw [sizeLine_eq]; simp, fun p3 hp3 => ?_⟩
    have s03 := s02.new (o := .tup [V.int 1, .int (-1), .int 2, .int (-2), .int 3, .int (-3)]) hp3
    obtain ⟨dv, hdv, dv0, dv3⟩ := div_at (cellZ ns 2 / 4 % 6) (Int.emod_nonneg _ (by decide)) (Int.emod_lt_of_pos _ (by decide))
    refine ⟨_, rfl, a, ns, 2, rfl, s03.seq hS, _, _, rfl, rfl, ⟨by decide, by decide⟩, _, _, rfl, rfl, pos_lit rfl, p3, _, _, _, rfl, rfl, SqT.of upd_same, hdv, ?_⟩
    have x3 : Ext H2 _ := ext_upd (o := .tup [V.int 1, .int (-1), .int 2, .int (-2), .int 3, .int (-3)]) hp3
    -- lists, p, q
    have h13 := x3.lst (s2.lst h1)
    have h23 := x3.lst h2
    have ht13 := x3.termsT (s2.termsT ht1)
    have ht23 := x3.termsT ht2
    refine ⟨_, rfl, f1, _, rfl, .inl (SqL.of h13), fun g1 hg1 => ⟨_, rfl, f2, _, rfl, .inl (SqL.of ((ext_upd hg1).lst h23)), fun g2 hg2 => ⟨sl2, fun L hL => ?_⟩⟩⟩
    have x4 := (((ext_upd (o := .lst xs1) hg1).new (o := .lst xs2) hg2).new (o := .tup [V.ref g1, .ref g2]) hL)
    have s04 := s03.trans x4
    refine ⟨_, rfl, f1, xs1, t1, rfl, .inl (SqL.of (x4.lst h13)), x4.termsT ht13, by have := m1.1; omega, fun p H5 s5 hp np => ?_⟩
    have s05 := s04.trans s5
    have x5 := x4.trans s5
    refine ⟨_, rfl, f2, xs2, t2, rfl, .inl (SqL.of (x5.lst h23)), x5.termsT ht23, by have := m2.1; omega, fun p' H6 s6 hp' np' => ?_⟩
    have s06 := s05.trans s6
    have x6 := x5.trans s6
    have s46 := s5.trans s6
    obtain ⟨e, he, he3⟩ : ∃ e : Nat, cellZ ns 2 % 4 = (e : Int) ∧ e ≤ 3 := ⟨(cellZ ns 2 % 4).toNat, by omega, by omega⟩
    refine ⟨fun σ H1 => ∃ (f1 f2 L p q : Addr) (e : Nat) (dv : Int) (t1 t2 : List Trm), σ = [some (.ref a), some (.ref f1), some (.ref f2), some (.int (e : Int)), some (.int dv), some (.ref L), some (.ref p), some (.ref q), none, none, none, none, none, none, none, none, none, none] ∧ M1 K T a H H1 f1 p q e dv t1 t2, ?_, ?_⟩
    · -- the gathered lists
      have hL6 := s46.at (upd_same (a := L) (H := upd (upd _ g1 (.lst xs1)) g2 (.lst xs2)) (o := .tup [V.ref g1, .ref g2]))
      have hg16 := s46.lst ((ext_upd (o := .tup [V.ref g1, .ref g2]) hL).lst ((ext_upd (o := .lst xs2) hg2).lst (upd_same (a := g1) (o := .lst xs1))))
      have hg26 := s46.lst ((ext_upd (o := .tup [V.ref g1, .ref g2]) hL).lst (upd_same (a := g2) (o := .lst xs2)))
      refine ⟨_, rfl, L, _, 0, _, rfl, rfl, SqT.of hL6, atI_nat (j := 0) rfl, g1, xs1, t1, rfl, .inl (SqL.of hg16), terms_of (x6.termsT ht13), by have := m1.1; omega, G.ext s06, fun p7 H7 s7 hp7 n7 => ?_⟩
      refine ⟨_, rfl, _, _, hp7.at.dp, (s7.polyT (s6.polyT hp)).at.dp, (gd_poly _).sh, (gd_poly _).sh, ?_⟩
      rw [eqv_self (gd_poly _)]
      refine ⟨_, rfl, iteF ?_⟩
      have s07 := s06.trans s7
      refine ⟨_, rfl, L, _, 1, _, rfl, rfl, SqT.of (s7.at hL6), atI_nat (j := 1) rfl, g2, xs2, t2, rfl, .inl (SqL.of (s7.lst hg26)), terms_of (s7.termsT (x6.termsT ht23)), by have := m2.1; omega, G.ext s07, fun p8 H8 s8 hp8 n8 => ?_⟩
      refine ⟨_, rfl, _, _, hp8.at.dp, (s8.polyT (s7.polyT hp')).at.dp, (gd_poly _).sh, (gd_poly _).sh, ?_⟩
      rw [eqv_self (gd_poly _)]
      refine ⟨_, rfl, iteF ?_⟩
      have s08 := s07.trans s8
      have x8 := x6.trans (s7.trans s8)
      have s68 := s7.trans s8
      refine ⟨_, rfl, _, rfl, _, rfl, sl2, fun p9 hp9 => ?_⟩
      have e9 := ext_upd (o := .tup [V.ref f1, .ref f2]) hp9
      have x9 := x8.trans e9
      have s69 := s68.trans e9
      have s09 := s08.trans e9
      refine ⟨.tuple [listD t1, listD t2], .tuple [listD t1, listD t2], .tup (SqT.of (s69.at hL6)) (.cons (lst_dp (s69.lst hg16) (x9.termsT ht13)) (.cons (lst_dp (s69.lst hg26) (x9.termsT ht23)) .nil)),
        .tup (SqT.of upd_same) (.cons (lst_dp (x9.lst h13) (x9.termsT ht13)) (.cons (lst_dp (x9.lst h23) (x9.termsT ht23)) .nil)), (gd_two t1 t2).sh, (gd_two t1 t2).sh, ?_⟩
      rw [eqv_self (gd_two t1 t2)]
      refine ⟨_, rfl, iteF ?_⟩
      have h1f := s69.trans (Ext.refl _)
      refine ⟨f1, f2, L, p, p', e, dv, t1, t2, ?_, s09, m1, m2, he3, dv0, dv3, ⟨xs1, x9.lst h13, x9.termsT ht13⟩, s69.polyT (s6.polyT hp), s69.polyT hp', G.ext s09⟩
      rw [← he]
      rfl
    · rintro σ H9 ⟨f1, f2, L, p, p', e, dv, t1, t2, rfl, M⟩
      -- opposite
      obtain ⟨pv, hpv, hpt⟩ := M.p
      obtain ⟨qv, hqv, hqt⟩ := M.q
      have c1 := PM.length_canon_le t1
      have c2 := PM.length_canon_le t2
      have m1 := M.m1.1
      have m2 := M.m2.1
      refine ⟨_, rfl, p', rfl, ⟨_, SqT.of hqv⟩, fun D hD => lc_tup (xs := qv) (fun i H3 => Ext H9 H3 ∧ ∃ zs, H3 D = some (.lst zs) ∧ TermsT H3 zs (((canon t2).take i).map neg)) ⟨ext_upd hD, [], upd_same, .nil⟩ (fun i H3 _ h => SqT.of (h.1.at hqv)) (fun i x H3 hi hP => ?_) (fun H3 hP => ?_)⟩
      · obtain ⟨s3, zs, hz, hy⟩ := hP
        obtain ⟨t, ht, k1⟩ := paired_at hqt hi
        obtain ⟨a1, b1, rfl, g1, g2⟩ := s3.termT k1
        refine ⟨a1, _, rfl, SqT.of g1, rfl, _, _, rfl, _, _, rfl, rfl, rfl, ?_⟩
        refine ⟨_, rfl, _, rfl, t.2, rfl, sl2, fun z hz2 => ?_⟩
        have hz3 := (ext_upd (o := .tup [V.ref b1, .int (-t.2)]) hz2).lst hz
        refine ⟨zs, hz3, ?_, (s3.new hz2).own hD, zs ++ [.ref z], upd_same, ?_⟩
        · have l3 := hy.length
          rw [List.length_map, List.length_take] at l3
          exact sl_lt (by omega)
        · rw [take_snoc ht, List.map_append]
          exact termsT_upd hz3 (paired_snoc ((ext_upd hz2).termsT hy) ⟨z, b1, rfl, upd_same, (ext_upd hz2).at g2⟩)
      obtain ⟨s10, zs, hz, hy⟩ := hP
      have lq := hqt.length
      rw [lq, List.take_length] at hy
      refine ⟨D, zs, rfl, .inl ⟨SqL.of hz, fun op hop => ?_⟩⟩
      have s11 := s10.new (o := .tup zs) hop
      have hop1 : PolyT (upd H3 op (.tup zs)) op ((canon t2).map neg) := ⟨zs, upd_same, (ext_upd hop).termsT hy⟩
      have M := M.up s11
      generalize upd H3 op (.tup zs) = H4 at *
      -- raised
      refine ⟨sl2, fun b1 hb1 => ⟨sl2, fun b2 hb2 => ⟨by rw [sizeLine_eq]; simp, fun b3 hb3 => ?_⟩⟩⟩
      have s12 := ((ext_upd (o := .tup [V.int 0, .int 0]) hb1).new (o := .tup [V.ref b1, .int 1]) hb2).new (o := .tup [V.ref b2]) hb3
      have hr0 : PolyT (upd (upd (upd H4 b1 (.tup [V.int 0, .int 0])) b2 (.tup [V.ref b1, .int 1])) b3 (.tup [V.ref b2])) b3 one :=
        ⟨_, upd_same, .cons ⟨b2, b1, rfl, (ext_upd hb3).at upd_same, (ext_upd hb3).at ((ext_upd hb2).at upd_same)⟩ .nil⟩
      have M := M.up s12
      have hop2 := s12.polyT hop1
      refine ⟨fun σ H1 => ∃ (op r : Addr) (x : Option V), σ = [some (.ref a), some (.ref f1), some (.ref f2), some (.int (e : Int)), some (.int dv), some (.ref L), some (.ref p), some (.ref p'), some (.ref op), none, none, some (.ref r), x, none, none, none, none, none] ∧ M1 K T a H H1 f1 p p' e dv t1 t2 ∧ PolyT H1 op ((canon t2).map neg) ∧ PolyT H1 r (canon (pw (canon t1) e)), ?_, ?_⟩
      · have he := M.he
        refine ⟨_, rfl, _, rfl, by omega, by omega, for_range (n := e) (fun i σ H1 => ∃ (r : Addr) (x : Option V) (R : List Trm), σ = [some (.ref a), some (.ref f1), some (.ref f2), some (.int (e : Int)), some (.int dv), some (.ref L), some (.ref p), some (.ref p'), some (.ref op), none, none, some (.ref r), x, none, none, none, none, none] ∧ M1 K T a H H1 f1 p p' e dv t1 t2 ∧ PolyT H1 op ((canon t2).map neg) ∧ PolyT H1 r R ∧ Sq (canon t1) R i ∧ Canon R)
          ⟨b3, none, one, rfl, M, hop2, hr0, sq_one _, canon_one⟩ (fun i σ H1 hi hP => ?_) (fun σ H1 hP => ?_)⟩
        · obtain ⟨r, x, R, rfl, M, hop3, hr, hsq, hcan⟩ := hP
          have lw := M.m1.low
          obtain ⟨b4, b5⟩ := hsq.small lw (by omega)
          obtain ⟨b6, b7⟩ := (sq_self (canon t1)).small lw (by omega)
          refine ⟨_, rfl, _, rfl, r, p, R, canon t1, rfl, hr.at, M.p.at, Nat.lt_of_le_of_lt (Nat.mul_le_mul b4 b6) (by decide), b5, b7, fun r2 H2 s2 hr2 n2 => ?_⟩
          exact ⟨r2, _, _, rfl, M.up s2, s2.polyT hop3, hr2, hsq.mul (sq_self _), PM.canon_canon _⟩
        · obtain ⟨r, x, R, rfl, M, hop3, hr, hsq, hcan⟩ := hP
          refine ⟨op, r, x, rfl, M, hop3, ?_⟩
          rw [← PM.canon_of hcan hsq.eqv]
          exact hr
      · rintro σ H5 ⟨op, r, x, rfl, M, hop, hr⟩
        -- due
        have c1 := PM.length_canon_le t1
        have c2 := PM.length_canon_le t2
        have m1 := M.m1.1
        have m2 := M.m2.1
        have l12 : (canon t1).length * (canon t2).length < 1000000 := Nat.lt_of_le_of_lt (Nat.mul_le_mul (Nat.le_trans c1 m1) (Nat.le_trans c2 m2)) (by decide)
        obtain ⟨_, mid1⟩ := (sq_self (canon t1)).small M.m1.low (by omega)
        obtain ⟨_, mid2⟩ := (sq_self (canon t2)).small M.m2.low (by omega)
        refine ⟨_, rfl, _, rfl, cat_lpoly (E := E) M.p M.q (by omega) fun u1 Ha sa ha na => ?_⟩
        refine ⟨_, rfl, _, rfl, cat_lpoly (E := E) (sa.polyT M.p) (sa.polyT hop) (by rw [List.length_map]; omega) fun u2 Hb sb hb nb => ?_⟩
        have sab := sa.trans sb
        refine ⟨_, rfl, _, rfl, p, p', _, _, rfl, (sab.polyT M.p).at, (sab.polyT M.q).at, l12, mid1, mid2, fun u3 Hc sc hc nc => ?_⟩
        have sac := sab.trans sc
        refine ⟨_, rfl, by rw [sizeLine_eq]; simp, fun u hu => ?_⟩
        have M := M.up (sac.new (o := .lst [V.ref u1, .ref u2, .ref u3, .ref r]) hu)
        have eu := ext_upd (o := .lst [V.ref u1, .ref u2, .ref u3, .ref r]) hu
        have k1 := (eu.polyT (sc.polyT (sb.polyT ha))).at (K := K)
        have k2 := (eu.polyT (sc.polyT hb)).at (K := K)
        have k3 := (eu.polyT hc).at (K := K)
        have k4 := (eu.polyT (sac.polyT hr)).at (K := K)
        have ku : upd Hc u (.lst [V.ref u1, .ref u2, .ref u3, .ref r]) u = some (.lst [V.ref u1, .ref u2, .ref u3, .ref r]) := upd_same
        generalize upd Hc u (.lst [V.ref u1, .ref u2, .ref u3, .ref r]) = Hd at *
        -- got
        refine ⟨fun σ H1 => ∃ (u g v1 v2 v3 v4 : Addr) (us : List V), σ = [some (.ref a), some (.ref f1), some (.ref f2), some (.int (e : Int)), some (.int dv), some (.ref L), some (.ref p), some (.ref p'), some (.ref op), none, none, some (.ref r), x, some (.ref u), some (.ref g), none, none, none] ∧ M1 K T a H H1 f1 p p' e dv t1 t2 ∧
          H1 g = some (.lst [.ref v1, .ref v2, .ref v3, .ref v4]) ∧ Dp K H1 (.ref u) (.list ((dueP (canon t1) (canon t2) e).map polyD)) ∧ Paired (PolyAt K H1) [v1, v2, v3, v4] (dueP (canon t1) (canon t2) e), ?_, ?_⟩
        · refine ⟨_, rfl, _, rfl, p, p', canon t1, canon t2, rfl, M.p.at, M.q.at, by omega, M.G, fun v1 H6 s6 h6 n6 => ?_⟩
          have M6 := M.up s6
          refine ⟨_, rfl, _, rfl, p, p', canon t1, canon t2, rfl, M6.p.at, M6.q.at, by omega, M6.G, fun v2 H7 s7 h7 n7 => ?_⟩
          have M7 := M6.up s7
          refine ⟨_, rfl, _, rfl, p, p', canon t1, canon t2, rfl, M7.p.at, M7.q.at, l12, mid1, mid2, M7.G, fun v3 H8 s8 h8 n8 => ?_⟩
          have M8 := M7.up s8
          refine ⟨_, rfl, _, rfl, p, canon t1, e, rfl, M8.p.at, M8.m1.low, M8.he, M8.G, fun v4 H9 s9 h9 => ?_⟩
          refine ⟨by rw [sizeLine_eq]; simp, fun g hg => ?_⟩
          have eg := ext_upd (o := .lst [V.ref v1, .ref v2, .ref v3, .ref v4]) hg
          have e9 := s9.trans eg
          have e8 := s8.trans e9
          have e7 := s7.trans e8
          have e6 := s6.trans e7
          refine ⟨u, g, v1, v2, v3, v4, [], rfl, (M8.up e9), upd_same, ?_, ?_⟩
          · exact .lst (SqL.of (e6.lst ku)) (.cons (e6.poly k1).dp (.cons (e6.poly k2).dp (.cons (e6.poly k3).dp (.cons (e6.poly k4).dp .nil))))
          · exact .cons (e7.polyT h6).at (.cons (e8.polyT h7).at (.cons (e9.polyT h8).at (.cons (eg.poly h9) .nil)))
        · rintro σ H6 ⟨u, g, v1, v2, v3, v4, us, rfl, M, hg, hu, hv⟩
          -- the test of got
          obtain ⟨xs1, hf, hft⟩ := M.f
          have m1 := M.m1.1
          refine ⟨fun σ H1 => σ = [some (.ref a), some (.ref f1), some (.ref f2), some (.int (e : Int)), some (.int dv), some (.ref L), some (.ref p), some (.ref p'), some (.ref op), none, none, some (.ref r), x, some (.ref u), some (.ref g), none, none, none] ∧ M1 K T a H H1 f1 p p' e dv t1 t2, ?_, ?_⟩
          · have hgd : Dp K H6 (.ref g) (.list ((dueP (canon t1) (canon t2) e).map polyD)) := .lst (SqL.of hg) (polys_dp hv)
            refine ⟨_, rfl, _, rfl, _, _, hgd, hu, (gd_due _).sh, (gd_due _).sh, ?_⟩
            rw [eqv_self (gd_due _)]
            refine ⟨_, rfl, iteF ?_⟩
            refine ⟨_, rfl, g, rfl, ⟨_, SqL.of hg⟩, fun D hD => lc_list (xs := [v1, v2, v3, v4].map V.ref) (fun i H' => Same H6 H' ∧ H' D = some (.lst ((List.replicate i true).map V.bl)) ∧ i ≤ 4) ⟨same_upd hD, upd_same, Nat.zero_le _⟩ (fun i H' _ h => SqL.of (h.1 _ _ hg)) (fun i y H' hi hP => ?_) (fun H' hP => ?_)⟩
            · obtain ⟨s1, hl, hix⟩ := hP
              rw [List.getElem?_map] at hi
              cases hvi : [v1, v2, v3, v4][i]? with
              | none => rw [hvi] at hi; cases hi
              | some v =>
                rw [hvi] at hi
                cases hi
                obtain ⟨ts, hts, hp3⟩ := paired_at hv hvi
                have hil : i < 4 := (List.getElem?_eq_some_iff.mp hvi).1
                refine ⟨rfl, _, rfl, .ref v, polyD ts, rfl, (s1.ext.poly hp3).dp, tupD_poly (due_len M ts (List.mem_of_getElem? hts)), fun H2 s2 => ⟨_, s2 _ _ hl, ?_, fun b o e => ?_, ?_, hil⟩⟩
                · rw [List.length_map, List.length_replicate]
                  exact sl_lt (by omega)
                · rw [upd_ne (ne_of_none e hD)]
                  exact s2 _ _ (s1 _ _ e)
                · rw [upd_same, List.replicate_succ', List.map_append]
                  rfl
            · obtain ⟨s1, hl, _⟩ := hP
              have e1 := s1.ext
              refine ⟨D, List.replicate 4 true, rfl, SqL.of hl, _, rfl, iteF ?_⟩
              refine ⟨_, rfl, f1, xs1, t1, rfl, .inl (SqL.of (e1.lst hf)), terms_of (e1.termsT hft), by omega, M.G.ext e1, fun pz Hz sz hz nz => ?_⟩
              refine ⟨.ref pz, polyD (canon t1), rfl, hz.at.dp, tupD_poly ?_, fun H2 s2 => ⟨_, rfl, iteF ⟨rfl, M.up (e1.trans (sz.trans s2.ext))⟩⟩⟩
              have := PM.length_canon_le t1
              omega
          · rintro σ H7 ⟨rfl, M⟩
            -- whole
            obtain ⟨pv, hpv, hpt⟩ := M.p
            have c1 := PM.length_canon_le t1
            have c2 := PM.length_canon_le t2
            have m1 := M.m1.1
            have m2 := M.m2.1
            have hd60 : dv.natAbs < 2 ^ 60 := Nat.lt_of_le_of_lt M.d3 (by decide)
            refine ⟨_, rfl, p, rfl, ⟨_, SqT.of hpv⟩, fun D hD => lc_tup (xs := pv) (fun i H3 => Ext H7 H3 ∧ ∃ zs, H3 D = some (.lst zs) ∧ TermsT H3 zs (((canon t1).take i).map (scale dv))) ⟨ext_upd hD, [], upd_same, .nil⟩ (fun i H3 _ h => SqT.of (h.1.at hpv)) (fun i y H3 hi hP => ?_) (fun H3 hP => ?_)⟩
            · obtain ⟨s3, zs, hz, hy⟩ := hP
              obtain ⟨t, ht, k1⟩ := paired_at hpt hi
              obtain ⟨a1, b1, rfl, g1, g2⟩ := s3.termT k1
              have d3 := M.d3
              refine ⟨a1, _, rfl, SqT.of g1, rfl, _, _, rfl, _, _, rfl, rfl, rfl, ?_⟩
              refine ⟨_, rfl, _, rfl, _, rfl, t.2, dv, rfl, rfl, .inr ⟨by omega, by omega⟩, sl2, fun z hz2 => ?_⟩
              have hz3 := (ext_upd (o := .tup [V.ref b1, .int (t.2 * dv)]) hz2).lst hz
              refine ⟨zs, hz3, ?_, (s3.new hz2).own hD, zs ++ [.ref z], upd_same, ?_⟩
              · have l3 := hy.length
                rw [List.length_map, List.length_take] at l3
                exact sl_lt (by omega)
              · rw [take_snoc ht, List.map_append]
                exact termsT_upd hz3 (paired_snoc ((ext_upd hz2).termsT hy) ⟨z, b1, rfl, upd_same, (ext_upd hz2).at g2⟩)
            obtain ⟨s10, zs, hz, hy⟩ := hP
            have lp := hpt.length
            rw [lp, List.take_length] at hy
            refine ⟨D, zs, rfl, .inl ⟨SqL.of hz, fun wh hwh => ?_⟩⟩
            have s11 := s10.new (o := .tup zs) hwh
            have hw : PolyT (upd H3 wh (.tup zs)) wh ((canon t1).map (scale dv)) := ⟨zs, upd_same, (ext_upd hwh).termsT hy⟩
            have M := M.up s11
            generalize upd H3 wh (.tup zs) = H4 at *
            have eback : ((canon t1).map (scale dv)).map (fun t => (t.1, t.2.fdiv dv)) = canon t1 := by
              rw [List.map_map]
              refine (List.map_congr_left fun t _ => ?_).trans (List.map_id' _)
              show (t.1, (t.2 * dv).fdiv dv) = t
              rw [Int.mul_fdiv_cancel _ M.d0]
            have lw : ((canon t1).map (scale dv)).length < 1000000 := by rw [List.length_map]; omega
            have nobad : ¬ ∃ t ∈ (canon t1).map (scale dv), t.2.fmod dv ≠ 0 := fun ⟨t, m, nz⟩ => by
              obtain ⟨t', _, rfl⟩ := List.mem_map.mp m
              exact nz (Int.mul_fmod_left _ _)
            refine ⟨fun σ H1 => σ = [some (.ref a), some (.ref f1), some (.ref f2), some (.int (e : Int)), some (.int dv), some (.ref L), some (.ref p), some (.ref p'), some (.ref op), none, none, some (.ref r), x, some (.ref u), some (.ref g), none, some (.ref wh), none] ∧ M1 K T a H H1 f1 p p' e dv t1 t2, ?_, ?_⟩
            · refine ⟨_, rfl, _, rfl, wh, _, dv, rfl, hw.at, M.d0, hd60, lw, M.G, fun z => absurd z nobad, fun _ pz Hz sz hpz => ?_⟩
              rw [eback] at hpz
              refine ⟨_, rfl, _, _, hpz.dp, (sz.polyT M.p).at.dp, (gd_poly _).sh, (gd_poly _).sh, ?_⟩
              rw [eqv_self (gd_poly _)]
              refine ⟨_, rfl, iteF ?_⟩
              have Mz := M.up sz
              refine ⟨_, rfl, _, rfl, wh, _, dv, rfl, (sz.polyT hw).at, M.d0, hd60, lw, Mz.G, fun z => absurd z nobad, fun _ py Hy sy hpy => ?_⟩
              rw [eback] at hpy
              exact ⟨.ref py, polyD (canon t1), rfl, hpy.dp, tupD_poly (by omega), fun H2 s2 => ⟨_, rfl, iteF ⟨rfl, Mz.up (sy.trans s2.ext)⟩⟩⟩
            · rintro σ H8 ⟨rfl, M⟩
              -- parts
              obtain ⟨qv, hqv, hqt⟩ := M.q
              have lq := hqt.length
              refine ⟨_, rfl, p', rfl, ⟨_, SqT.of hqv⟩, fun D hD => lc_tup (xs := qv) (fun i H3 => Ext H8 H3 ∧ ∃ ms : List Int, H3 D = some (.lst (ms.map V.int)) ∧ ms.length ≤ i ∧ (ms = [] ↔ ∀ t ∈ (canon t2).take i, t.2.fmod dv = 0)) ⟨ext_upd hD, [], upd_same, Nat.le_refl _, by simp⟩ (fun i H3 _ h => SqT.of (h.1.at hqv)) (fun i y H3 hi hP => ?_) (fun H3 hP => ?_)⟩
              · obtain ⟨s3, ms, hz, hl, hm⟩ := hP
                obtain ⟨t, ht, k1⟩ := paired_at hqt hi
                obtain ⟨a1, b1, rfl, g1, g2⟩ := s3.termT k1
                have hil : i < (canon t2).length := (List.getElem?_eq_some_iff.mp ht).1
                refine ⟨a1, _, rfl, SqT.of g1, rfl, _, _, rfl, _, _, rfl, rfl, rfl, ?_⟩
                refine ⟨_, rfl, _, rfl, t.2, dv, rfl, rfl, M.d0, rfl, _, rfl, iteB (fun z => ?_) (fun z => ?_)⟩
                · have nz : t.2.fmod dv ≠ 0 := nz_yes z
                  refine ⟨_, rfl, _, hz, ?_, s3.own hD, ms ++ [t.2], ?_, ?_, ?_⟩
                  · rw [List.length_map]
                    exact sl_lt (by omega)
                  · rw [upd_same, List.map_append]
                    rfl
                  · rw [List.length_append]
                    exact Nat.succ_le_succ hl
                  · refine ⟨fun w => absurd w (by simp), fun w => absurd (w t ?_) nz⟩
                    rw [take_snoc ht]
                    exact List.mem_append_right _ List.mem_cons_self
                · have nz : t.2.fmod dv = 0 := nz_no z
                  refine ⟨s3, ms, hz, Nat.le_succ_of_le hl, ?_⟩
                  rw [hm, take_snoc ht]
                  refine ⟨fun w u m => ?_, fun w u m => w u (List.mem_append_left _ m)⟩
                  rcases List.mem_append.mp m with m | m
                  · exact w u m
                  · rw [List.mem_singleton.mp m]
                    exact nz
              obtain ⟨s10, ms, hz, hl, hm⟩ := hP
              rw [lq, List.take_length] at hm
              have M := M.up s10
              have hq3 := s10.at hqv
              have hqt3 := s10.termsT hqt
              refine ⟨_, rfl, D, _, rfl, .inl (SqL.of hz), _, _, rfl, rfl, _, rfl, ite2 (fun el => ?_) (fun el => ?_)⟩
              · have nb : ∃ t ∈ canon t2, t.2.fmod dv ≠ 0 := Classical.byContradiction fun w => by
                  have : ms = [] := hm.mpr fun t m => Classical.byContradiction fun k => w ⟨t, m, k⟩
                  subst this
                  exact absurd (of_decide_eq_true el) (by simp)
                refine ⟨_, rfl, _, rfl, p', canon t2, dv, rfl, M.q.at, M.d0, hd60, by omega, M.G, fun _ Hy sy => ⟨rfl, q _⟩, fun z => ?_⟩
                obtain ⟨t, m, k⟩ := nb
                exact absurd (z t m) k
              · have good : ∀ t ∈ canon t2, t.2.fmod dv = 0 := hm.mp (by
                  match ms with
                  | [] => rfl
                  | y :: ys =>
                    refine absurd (decide_eq_true ?_) el
                    simp only [List.map_cons, List.length_cons]
                    omega)
                refine ⟨_, rfl, _, rfl, p', canon t2, dv, rfl, M.q.at, M.d0, hd60, by omega, M.G, fun z => ?_, fun _ py Hy sy hpy => ?_⟩
                · obtain ⟨t, m, k⟩ := z
                  exact absurd (good t m) k
                · have M := M.up sy
                  have hq4 := sy.at hq3
                  have hqt4 := sy.termsT hqt3
                  refine ⟨_, rfl, p', rfl, ⟨_, SqT.of hq4⟩, fun D2 hD2 => lc_tup (xs := qv) (fun i H3 => Ext Hy H3 ∧ ∃ zs, H3 D2 = some (.lst zs) ∧ TermsT H3 zs (((canon t2).take i).map fun t => (t.1, t.2.fdiv dv))) ⟨ext_upd hD2, [], upd_same, .nil⟩ (fun i H3 _ h => SqT.of (h.1.at hq4)) (fun i y H3 hi hP => ?_) (fun H3 hP => ?_)⟩
                  · obtain ⟨s3, zs, hz, hy⟩ := hP
                    obtain ⟨t, ht, k1⟩ := paired_at hqt4 hi
                    obtain ⟨a1, b1, rfl, g1, g2⟩ := s3.termT k1
                    refine ⟨a1, _, rfl, SqT.of g1, rfl, _, _, rfl, _, _, rfl, rfl, rfl, ?_⟩
                    refine ⟨_, rfl, _, rfl, _, rfl, t.2, dv, rfl, rfl, ⟨M.d0, Nat.lt_of_lt_of_le (PySem.Flt.log2_lt_of (by decide) hd60) (by decide)⟩, sl2, fun z hz2 => ?_⟩
                    have hz3 := (ext_upd (o := .tup [V.ref b1, .int (t.2.fdiv dv)]) hz2).lst hz
                    refine ⟨zs, hz3, ?_, (s3.new hz2).own hD2, zs ++ [.ref z], upd_same, ?_⟩
                    · have l3 := hy.length
                      rw [List.length_map, List.length_take] at l3
                      exact sl_lt (by omega)
                    · rw [take_snoc ht, List.map_append]
                      exact termsT_upd hz3 (paired_snoc ((ext_upd hz2).termsT hy) ⟨z, b1, rfl, upd_same, (ext_upd hz2).at g2⟩)
                  · obtain ⟨s3, zs, hz, hy⟩ := hP
                    rw [lq, List.take_length] at hy
                    refine ⟨D2, zs, rfl, .inl ⟨SqL.of hz, fun o ho => ?_⟩⟩
                    have ho2 : PolyT (upd H3 o (.tup zs)) o ((canon t2).map fun t => (t.1, t.2.fdiv dv)) := ⟨zs, upd_same, (ext_upd ho).termsT hy⟩
                    refine ⟨_, _, (s3.new ho |>.poly hpy).dp, ho2.at.dp, (gd_poly _).sh, (gd_poly _).sh, ?_⟩
                    rw [eqv_self (gd_poly _)]
                    exact q _
end
theorem all_mk {l : PySem.W.OpenLaw} {q : Program} {w : World} {K : PySem.W.Frag} {h : Heap} {mg : Str → Option Value} {fa f0 f1 f2 f3 f4 f5 f6 f7 f8 f9 f10 f11 f12 f13 f14 f15 : Addr} (X : K.In h) (G : h.Ns mainGlobals mg) (hfa : mg "law" = some (.ref fa)) (AT : LamX.AllTab q K h)
    {od0 an0 od1 an1 od2 an2 od3 an3 od4 an4 od5 an5 od6 an6 od7 an7 od8 an8 od9 an9 od10 an10 od11 an11 od12 an12 od13 an13 od14 an14 od15 an15 : Option Addr} {sl0 sl1 sl2 sl3 sl4 sl5 sl6 sl7 sl8 sl9 sl10 sl11 sl12 sl13 sl14 sl15 : Array (Option Value)} {oc0 kV0 dc0 pm0 ct0 cd0 oc1 kV1 dc1 pm1 ct1 cd1 oc2 kV2 dc2 pm2 ct2 oc3 kV3 dc3 pm3 ct3 cd3 oc4 kV4 dc4 pm4 ct4 oc5 kV5 dc5 pm5 ct5 cd5 oc6 kV6 dc6 pm6 ct6 cd6 oc7 kV7 dc7 pm7 ct7 oc8 kV8 dc8 pm8 ct8 cd8 oc9 kV9 dc9 pm9 ct9 cd9 oc10 kV10 dc10 pm10 ct10 cd10 oc11 kV11 dc11 pm11 ct11 cd11 oc12 kV12 dc12 pm12 ct12 cd12 oc13 kV13 dc13 pm13 ct13 cd13 oc14 kV14 dc14 pm14 ct14 cd14 oc15 kV15 dc15 pm15 ct15 cd15 : Value}
    {c2 P2 c4 P4 c7 P7 : Addr} {ge2 ge4 ge7 : Value} {gd2 gd4 gd7 : Option Addr} {gv2 gv4 gv7 : Array Value} {gs2 gs4 gs7 : Array (Option Value)}
    (a0 : PySem.W.nsIn K mainGlobals "repeated" = some (some (.ref f0))) (l0 : K.lookup f0 = some ⟨oc0, od0, .func (PySem.W.fnOf "repeated" "repeated" (defArgs s_repeated) (defBody s_repeated) (defScope s_repeated) .none kV0 dc0 pm0 an0 cd0 ct0), sl0⟩) (x0 : PySem.W.codeIn K cd0 "repeated" = true) (k0 : PySem.W.keepIn K (.ref f0) = true)
    (a1 : PySem.W.nsIn K mainGlobals "polynomial" = some (some (.ref f1))) (l1 : K.lookup f1 = some ⟨oc1, od1, .func (PySem.W.fnOf "polynomial" "polynomial" (defArgs s_polynomial) (defBody s_polynomial) (defScope s_polynomial) .none kV1 dc1 pm1 an1 cd1 ct1), sl1⟩) (x1 : PySem.W.codeIn K cd1 "polynomial" = true) (k1 : PySem.W.keepIn K (.ref f1) = true)
    (a2 : PySem.W.nsIn K mainGlobals "_in_order" = some (some (.ref f2))) (l2 : K.lookup f2 = some ⟨oc2, od2, .func (PySem.W.fnOf "_in_order" "_in_order" (defArgs s_in_order) (defBody s_in_order) (defScope s_in_order) .none kV2 dc2 pm2 an2 (.ref c2) ct2), sl2⟩) (x2 : PySem.W.codeIn K (.ref c2) "_in_order" = true) (k2 : PySem.W.keepIn K (.ref f2) = true)
    (h2 : K.lookup c2 = some ⟨ge2, gd2, .fields gv2, gs2⟩) (v2 : gv2[11]? = some (.ref P2)) (n2 : K.lookup P2 = none) (e2 : PySem.W.codeHdIn K c2 P2 = true) (r2 : ((recsOf q).any fun r => r.name == ("_in_order" : Str)) = true)
    (a3 : PySem.W.nsIn K mainGlobals "plus" = some (some (.ref f3))) (l3 : K.lookup f3 = some ⟨oc3, od3, .func (PySem.W.fnOf "plus" "plus" (defArgs s_plus) (defBody s_plus) (defScope s_plus) .none kV3 dc3 pm3 an3 cd3 ct3), sl3⟩) (x3 : PySem.W.codeIn K cd3 "plus" = true) (k3 : PySem.W.keepIn K (.ref f3) = true)
    (a4 : PySem.W.nsIn K mainGlobals "minus" = some (some (.ref f4))) (l4 : K.lookup f4 = some ⟨oc4, od4, .func (PySem.W.fnOf "minus" "minus" (defArgs s_minus) (defBody s_minus) (defScope s_minus) .none kV4 dc4 pm4 an4 (.ref c4) ct4), sl4⟩) (x4 : PySem.W.codeIn K (.ref c4) "minus" = true) (k4 : PySem.W.keepIn K (.ref f4) = true)
    (h4 : K.lookup c4 = some ⟨ge4, gd4, .fields gv4, gs4⟩) (v4 : gv4[11]? = some (.ref P4)) (n4 : K.lookup P4 = none) (e4 : PySem.W.codeHdIn K c4 P4 = true) (r4 : ((recsOf q).any fun r => r.name == ("minus" : Str)) = true)
    (a5 : PySem.W.nsIn K mainGlobals "times" = some (some (.ref f5))) (l5 : K.lookup f5 = some ⟨oc5, od5, .func (PySem.W.fnOf "times" "times" (defArgs s_times) (defBody s_times) (defScope s_times) .none kV5 dc5 pm5 an5 cd5 ct5), sl5⟩) (x5 : PySem.W.codeIn K cd5 "times" = true) (k5 : PySem.W.keepIn K (.ref f5) = true)
    (a6 : PySem.W.nsIn K mainGlobals "power" = some (some (.ref f6))) (l6 : K.lookup f6 = some ⟨oc6, od6, .func (PySem.W.fnOf "power" "power" (defArgs s_power) (defBody s_power) (defScope s_power) .none kV6 dc6 pm6 an6 cd6 ct6), sl6⟩) (x6 : PySem.W.codeIn K cd6 "power" = true) (k6 : PySem.W.keepIn K (.ref f6) = true)
    (a7 : PySem.W.nsIn K mainGlobals "shared" = some (some (.ref f7))) (l7 : K.lookup f7 = some ⟨oc7, od7, .func (PySem.W.fnOf "shared" "shared" (defArgs s_shared) (defBody s_shared) (defScope s_shared) .none kV7 dc7 pm7 an7 (.ref c7) ct7), sl7⟩) (x7 : PySem.W.codeIn K (.ref c7) "shared" = true) (k7 : PySem.W.keepIn K (.ref f7) = true)
    (h7 : K.lookup c7 = some ⟨ge7, gd7, .fields gv7, gs7⟩) (v7 : gv7[11]? = some (.ref P7)) (n7 : K.lookup P7 = none) (e7 : PySem.W.codeHdIn K c7 P7 = true) (r7 : ((recsOf q).any fun r => r.name == ("shared" : Str)) = true)
    (a8 : PySem.W.nsIn K mainGlobals "_law_cell" = some (some (.ref f8))) (l8 : K.lookup f8 = some ⟨oc8, od8, .func (PySem.W.fnOf "_law_cell" "_law_cell" (defArgs s_law_cell) (defBody s_law_cell) (defScope s_law_cell) .none kV8 dc8 pm8 an8 cd8 ct8), sl8⟩) (x8 : PySem.W.codeIn K cd8 "_law_cell" = true) (k8 : PySem.W.keepIn K (.ref f8) = true)
    (a9 : PySem.W.nsIn K mainGlobals "_law_mix" = some (some (.ref f9))) (l9 : K.lookup f9 = some ⟨oc9, od9, .func (PySem.W.fnOf "_law_mix" "_law_mix" (defArgs s_law_mix) (defBody s_law_mix) (defScope s_law_mix) .none kV9 dc9 pm9 an9 cd9 ct9), sl9⟩) (x9 : PySem.W.codeIn K cd9 "_law_mix" = true) (k9 : PySem.W.keepIn K (.ref f9) = true)
    (a10 : PySem.W.nsIn K mainGlobals "_law_row" = some (some (.ref f10))) (l10 : K.lookup f10 = some ⟨oc10, od10, .func (PySem.W.fnOf "_law_row" "_law_row" (defArgs s_law_row) (defBody s_law_row) (defScope s_law_row) .none kV10 dc10 pm10 an10 cd10 ct10), sl10⟩) (x10 : PySem.W.codeIn K cd10 "_law_row" = true) (k10 : PySem.W.keepIn K (.ref f10) = true)
    (a11 : PySem.W.nsIn K mainGlobals "_law_tuples" = some (some (.ref f11))) (l11 : K.lookup f11 = some ⟨oc11, od11, .func (PySem.W.fnOf "_law_tuples" "_law_tuples" (defArgs s_law_tuples) (defBody s_law_tuples) (defScope s_law_tuples) .none kV11 dc11 pm11 an11 cd11 ct11), sl11⟩) (x11 : PySem.W.codeIn K cd11 "_law_tuples" = true) (k11 : PySem.W.keepIn K (.ref f11) = true)
    (a12 : PySem.W.nsIn K mainGlobals "_law_poly" = some (some (.ref f12))) (l12 : K.lookup f12 = some ⟨oc12, od12, .func (PySem.W.fnOf "_law_poly" "_law_poly" (defArgs s_law_poly) (defBody s_law_poly) (defScope s_law_poly) .none kV12 dc12 pm12 an12 cd12 ct12), sl12⟩) (x12 : PySem.W.codeIn K cd12 "_law_poly" = true) (k12 : PySem.W.keepIn K (.ref f12) = true)
    (a13 : PySem.W.nsIn K mainGlobals "_law_product" = some (some (.ref f13))) (l13 : K.lookup f13 = some ⟨oc13, od13, .func (PySem.W.fnOf "_law_product" "_law_product" (defArgs s_law_product) (defBody s_law_product) (defScope s_law_product) .none kV13 dc13 pm13 an13 cd13 ct13), sl13⟩) (x13 : PySem.W.codeIn K cd13 "_law_product" = true) (k13 : PySem.W.keepIn K (.ref f13) = true)
    (a14 : PySem.W.nsIn K mainGlobals "_law_terms" = some (some (.ref f14))) (l14 : K.lookup f14 = some ⟨oc14, od14, .func (PySem.W.fnOf "_law_terms" "_law_terms" (defArgs s_law_terms) (defBody s_law_terms) (defScope s_law_terms) .none kV14 dc14 pm14 an14 cd14 ct14), sl14⟩) (x14 : PySem.W.codeIn K cd14 "_law_terms" = true) (k14 : PySem.W.keepIn K (.ref f14) = true)
    (a15 : PySem.W.nsIn K mainGlobals "law" = some (some (.ref f15))) (l15 : K.lookup f15 = some ⟨oc15, od15, .func (PySem.W.fnOf "law" "law" (defArgs s_law) (defBody s_law) (defScope s_law) .none kV15 dc15 pm15 an15 cd15 ct15), sl15⟩) (x15 : PySem.W.codeIn K cd15 "law" = true) (k15 : PySem.W.keepIn K (.ref f15) = true)
    {fO t1 t2 : Addr} {q1 q2 q3 : Option Addr} {m1 m2 m3 : Nat} {u1 u2 u3 : Tok} {w1 w2 w3 : Array (Option Value)} (o0 : PySem.W.nsIn K mainGlobals "ONE" = some (some (.ref fO))) (o1 : K.lookup fO = some ⟨.type "tuple", q1, .seq #[.ref t1] m1, w1⟩) (o2 : K.lookup t1 = some ⟨.type "tuple", q2, .seq #[.ref t2, .int 1 u1] m2, w2⟩) (o3 : K.lookup t2 = some ⟨.type "tuple", q3, .seq #[.int 0 u2, .int 0 u3] m3, w3⟩)
    (z_abs : PySem.W.nsIn K mainGlobals "abs" = some none)
    (z_all : PySem.W.nsIn K mainGlobals "all" = some none)
    (z_any : PySem.W.nsIn K mainGlobals "any" = some none)
    (z_bool : PySem.W.nsIn K mainGlobals "bool" = some none)
    (z_int : PySem.W.nsIn K mainGlobals "int" = some none)
    (z_isinstance : PySem.W.nsIn K mainGlobals "isinstance" = some none)
    (z_len : PySem.W.nsIn K mainGlobals "len" = some none)
    (z_list : PySem.W.nsIn K mainGlobals "list" = some none)
    (z_range : PySem.W.nsIn K mainGlobals "range" = some none)
    (z_sorted : PySem.W.nsIn K mainGlobals "sorted" = some none)
    (z_tuple : PySem.W.nsIn K mainGlobals "tuple" = some none) :
    LamX.LawAtS l w K CX0 8 63 "script" mg fa h := by
  have e := hfa.symm.trans (PySem.W.mg_of X G a15)
  cases e
  have F0 := fun_mk (st := s_repeated) l0 x0 k0
  have b0 := F0.binds (ps := ["base", "exponent", "one", "combine"]) fun _ _ _ _ _ _ us hl => match us, hl with | [_, _, _, _], _ => rfl
  have F1 := fun_mk (st := s_polynomial) l1 x1 k1
  have b1 := F1.binds (ps := ["terms"]) fun _ _ _ _ _ _ us hl => match us, hl with | [_], _ => rfl
  have F2 := funC_mk (st := s_in_order) l2 x2 k2
  have b2 := F2.binds (ps := ["found"]) fun _ _ _ _ _ _ us hl => match us, hl with | [_], _ => rfl
  have F3 := fun_mk (st := s_plus) l3 x3 k3
  have b3 := F3.binds (ps := ["p", "q"]) fun _ _ _ _ _ _ us hl => match us, hl with | [_, _], _ => rfl
  have F4 := funC_mk (st := s_minus) l4 x4 k4
  have b4 := F4.binds (ps := ["p", "q"]) fun _ _ _ _ _ _ us hl => match us, hl with | [_, _], _ => rfl
  have F5 := fun_mk (st := s_times) l5 x5 k5
  have b5 := F5.binds (ps := ["p", "q"]) fun _ _ _ _ _ _ us hl => match us, hl with | [_, _], _ => rfl
  have F6 := fun_mk (st := s_power) l6 x6 k6
  have b6 := F6.binds (ps := ["p", "exponent"]) fun _ _ _ _ _ _ us hl => match us, hl with | [_, _], _ => rfl
  have F7 := funC_mk (st := s_shared) l7 x7 k7
  have b7 := F7.binds (ps := ["p", "divisor"]) fun _ _ _ _ _ _ us hl => match us, hl with | [_, _], _ => rfl
  have F8 := fun_mk (st := s_law_cell) l8 x8 k8
  have b8 := F8.binds (ps := ["script", "k"]) fun _ _ _ _ _ _ us hl => match us, hl with | [_, _], _ => rfl
  have F9 := fun_mk (st := s_law_mix) l9 x9 k9
  have b9 := F9.binds (ps := ["cell", "k"]) fun _ _ _ _ _ _ us hl => match us, hl with | [_, _], _ => rfl
  have F10 := fun_mk (st := s_law_row) l10 x10 k10
  have b10 := F10.binds (ps := ["cell", "count", "bound"]) fun _ _ _ _ _ _ us hl => match us, hl with | [_, _, _], _ => rfl
  have F11 := fun_mk (st := s_law_tuples) l11 x11 k11
  have b11 := F11.binds (ps := ["value"]) fun _ _ _ _ _ _ us hl => match us, hl with | [_], _ => rfl
  have F12 := fun_mk (st := s_law_poly) l12 x12 k12
  have b12 := F12.binds (ps := ["terms"]) fun _ _ _ _ _ _ us hl => match us, hl with | [_], _ => rfl
  have F13 := fun_mk (st := s_law_product) l13 x13 k13
  have b13 := F13.binds (ps := ["p", "q"]) fun _ _ _ _ _ _ us hl => match us, hl with | [_, _], _ => rfl
  have F14 := fun_mk (st := s_law_terms) l14 x14 k14
  have b14 := F14.binds (ps := ["cell", "most"]) fun _ _ _ _ _ _ us hl => match us, hl with | [_, _], _ => rfl
  have F15 := fun_mk (st := s_law) l15 x15 k15
  let T : Top K mg := ⟨f0, _, F0, b0, PySem.W.mg_of X G a0, f1, _, F1, b1, PySem.W.mg_of X G a1, f2, _, c2, P2, F2, b2, PySem.W.mg_of X G a2, f3, _, F3, b3, PySem.W.mg_of X G a3, f4, _, c4, P4, F4, b4, PySem.W.mg_of X G a4, f5, _, F5, b5, PySem.W.mg_of X G a5, f6, _, F6, b6, PySem.W.mg_of X G a6, f7, _, c7, P7, F7, b7, PySem.W.mg_of X G a7, f8, _, F8, b8, PySem.W.mg_of X G a8, f9, _, F9, b9, PySem.W.mg_of X G a9, f10, _, F10, b10, PySem.W.mg_of X G a10, f11, _, F11, b11, PySem.W.mg_of X G a11, f12, _, F12, b12, PySem.W.mg_of X G a12, f13, _, F13, b13, PySem.W.mg_of X G a13, f14, _, F14, b14, PySem.W.mg_of X G a14, fO, PySem.W.mg_of X G o0, k_one o1 o2 o3, PySem.W.mg_none_of X G z_abs, PySem.W.mg_none_of X G z_all, PySem.W.mg_none_of X G z_any, PySem.W.mg_none_of X G z_bool, PySem.W.mg_none_of X G z_int, PySem.W.mg_none_of X G z_isinstance, PySem.W.mg_none_of X G z_len, PySem.W.mg_none_of X G z_list, PySem.W.mg_none_of X G z_range, PySem.W.mg_none_of X G z_sorted, PySem.W.mg_none_of X G z_tuple⟩
  refine ⟨_, [(c2, P2), (c4, P4), (c7, P7)], spLaw T, ?_, ?_, ?_, fun s u => .of_eq rfl, fun H a ns hl hb ht hS => law_in T H a ns hl hb ⟨tabG0 (ht (c2, P2) (by simp)), tabG0 (ht (c4, P4) (by simp)), tabG0 (ht (c7, P7) (by simp))⟩ hS, fun base _ _ tb => ok_law F15 T ⟨tb (c2, P2) (by simp), tb (c4, P4) (by simp), tb (c7, P7) (by simp)⟩⟩
  · intro p hp
    simp only [List.mem_cons, List.not_mem_nil, or_false] at hp
    rcases hp with rfl | rfl | rfl
    · exact AT "_in_order" f2 c2 P2 _ _ _ _ _ _ r2 a2 l2 rfl rfl h2 v2
    · exact AT "minus" f4 c4 P4 _ _ _ _ _ _ r4 a4 l4 rfl rfl h4 v4
    · exact AT "shared" f7 c7 P7 _ _ _ _ _ _ r7 a7 l7 rfl rfl h7 v7
  · intro p hp
    simp only [List.mem_cons, List.not_mem_nil, or_false] at hp
    rcases hp with rfl | rfl | rfl
    · exact n2
    · exact n4
    · exact n7
  · intro p hp
    simp only [List.mem_cons, List.not_mem_nil, or_false] at hp
    rcases hp with rfl | rfl | rfl
    · exact PySem.W.codeHd_of_K X e2
    · exact PySem.W.codeHd_of_K X e4
    · exact PySem.W.codeHd_of_K X e7
end KP
open PySem PySem.W PyProof.Rows
set_option maxHeartbeats 0 in
theorem PySem.Challenge.cw_spinfield_k01_polynomials_holds : PySem.Challenge.rw_spinfield_k01_polynomials.Holds := by
  w_on; o_law; k_head; (case hw => w_witness2)
  k_fill
  refine LamX.walk_ofAll (l := PySem.Challenge.rw_spinfield_k01_polynomials) (n := 63) (k := 8) (x := "script") (CX := fun _ => L2.CX0) rfl (by decide) rfl ⟨rfl, by decide, by decide⟩ (fun w h Y => PySem.W.kIn_of Y) ?F (fun _ _ _ _ _ h => h)
  case F =>
    intro w mg fa h Y KX G hmg AT
    refine' KP.all_mk KX G hmg AT ?a0 ?l0 ?x0 ?k0 ?a1 ?l1 ?x1 ?k1 ?a2 ?l2 ?x2 ?k2 ?h2 ?v2 ?n2 ?e2 ?r2 ?a3 ?l3 ?x3 ?k3 ?a4 ?l4 ?x4 ?k4 ?h4 ?v4 ?n4 ?e4 ?r4 ?a5 ?l5 ?x5 ?k5 ?a6 ?l6 ?x6 ?k6 ?a7 ?l7 ?x7 ?k7 ?h7 ?v7 ?n7 ?e7 ?r7 ?a8 ?l8 ?x8 ?k8 ?a9 ?l9 ?x9 ?k9 ?a10 ?l10 ?x10 ?k10 ?a11 ?l11 ?x11 ?k11 ?a12 ?l12 ?x12 ?k12 ?a13 ?l13 ?x13 ?k13 ?a14 ?l14 ?x14 ?k14 ?a15 ?l15 ?x15 ?k15 ?o0 ?o1 ?o2 ?o3 ?z_abs ?z_all ?z_any ?z_bool ?z_int ?z_isinstance ?z_len ?z_list ?z_range ?z_sorted ?z_tuple
    (case a0 => k_is); (case l0 => k_is); (case x0 => k_is); (case k0 => k_is); (case a1 => k_is); (case l1 => k_is); (case x1 => k_is); (case k1 => k_is); (case a2 => k_is); (case l2 => k_is); (case x2 => k_is); (case k2 => k_is); (case h2 => k_is); (case a3 => k_is); (case l3 => k_is); (case x3 => k_is); (case k3 => k_is); (case a4 => k_is); (case l4 => k_is); (case x4 => k_is); (case k4 => k_is); (case h4 => k_is); (case a5 => k_is); (case l5 => k_is); (case x5 => k_is); (case k5 => k_is); (case a6 => k_is); (case l6 => k_is); (case x6 => k_is); (case k6 => k_is); (case a7 => k_is); (case l7 => k_is); (case x7 => k_is); (case k7 => k_is); (case h7 => k_is); (case a8 => k_is); (case l8 => k_is); (case x8 => k_is); (case k8 => k_is); (case a9 => k_is); (case l9 => k_is); (case x9 => k_is); (case k9 => k_is); (case a10 => k_is); (case l10 => k_is); (case x10 => k_is); (case k10 => k_is); (case a11 => k_is); (case l11 => k_is); (case x11 => k_is); (case k11 => k_is); (case a12 => k_is); (case l12 => k_is); (case x12 => k_is); (case k12 => k_is); (case a13 => k_is); (case l13 => k_is); (case x13 => k_is); (case k13 => k_is); (case a14 => k_is); (case l14 => k_is); (case x14 => k_is); (case k14 => k_is); (case a15 => k_is); (case l15 => k_is); (case x15 => k_is); (case k15 => k_is); (case o0 => k_is); (case o1 => k_is); (case o2 => k_is); (case o3 => k_is); (case z_abs => k_is); (case z_all => k_is); (case z_any => k_is); (case z_bool => k_is); (case z_int => k_is); (case z_isinstance => k_is); (case z_len => k_is); (case z_list => k_is); (case z_range => k_is); (case z_sorted => k_is); (case z_tuple => k_is)
    (case v2 => exact rfl); (case n2 => kernel_rfl); (case e2 => kernel_rfl); (case r2 => kernel_rfl); (case v4 => exact rfl); (case n4 => kernel_rfl); (case e4 => kernel_rfl); (case r4 => kernel_rfl); (case v7 => exact rfl); (case n7 => kernel_rfl); (case e7 => kernel_rfl); (case r7 => kernel_rfl)
