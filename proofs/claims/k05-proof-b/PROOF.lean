import PyProof.Rows.All
import Wide.All
import OpenK.AllK
import Wide.FinOn
import HandS.ForMost
import HandS.AnyAll
import HandS.GenList
import HandS.EndTab
import PyProof.TupleOfGen
import HandS.SortRule
import HandS.Conv
import HandS.EndOwn
import HandS.EndBits
import HandS.Zip
import HandS.TupLe
import HandS.ForExc
import HandS.ExcIs
import HandS.Style
import HandS.TupAny
import HandS.IsInst
import HandS.CallLocal
import HandS.Wide
import HandS.Codes
import KE.KBits
import PySem.Challenge.RW_spinfield_k05_spins
set_option Elab.async false
set_option linter.all false
set_option maxRecDepth 100000
set_option maxHeartbeats 4000000
/-! Generator expressions over the layer: the generator's own frame as a context, its turns, what wakes it. -/
namespace GXP
open PySem PySem.Spec PyProof.Rows L2
/-- the generator's frame while its consumer stands at A -/
abbrev gcx (X : Cx) (A : Around) (s : Shared) (H : Hp) (ce : Env) (fp : List Addr) : Cx :=
  { X with A := A, s_0 := s, H_0 := H, env := ce, outer := X.stack, stack := ce :: X.stack, ex := fp, fn := fun _ => false, calm := true, pn := [], xe := fun _ _ => False }
/-- the cells of the frame that are taken over -/
theorem clo_look {cells : List (Str × Addr)} {names : List (Str × NameKind)} (hf : ∀ y ∈ names, y.2 = .free → ∃ c, cells.lookup y.1 = some c) {y : Str} {c : Addr} (e : (cloFrom cells names []).lookup y = some c) : cells.lookup y = some c ∧ (y, NameKind.free) ∈ names := by
  rcases cloFrom_mem (PySem.mem_of_lookup e) with z | ⟨z, rfl⟩
  · cases z
  · obtain ⟨d, hd⟩ := hf _ z rfl
    have hd : cells.lookup y = some d := hd
    rw [hd]
    exact ⟨rfl, z⟩
theorem gcx_start {X : Cx} {pins : List (Addr × Obj)} {σ : L2.St} {H : Hp} {s s5 : Shared} {A : Around} {ce : Env} {scope : Scope} {own : List (Str × Nat)} {fp : List Addr} {m0 : Str → Option Value}
    (I : Inv X pins σ H s) (ok : BlkOk X.N X.env.scope scope own) (hN : X.N.Nodup) (nocell : ∀ y ∈ scope.names, y.2 ≠ .cell) (hfp : ∀ b ∈ fp, FpOk X pins H b ∧ b < s.heap.objs.size)
    (hsc : ce.scope = scope) (hL : ce.locals = s.heap.objs.size) (hgl : ce.globals = mainGlobals) (hbl : ce.builtins = builtinsNs) (hcl : ce.cells = cloFrom X.env.cells scope.names []) (hfr : ce.frame = some ce.locals)
    (hA : A.frames = some (ce :: X.stack)) (hh : A.handled = none) (kp : ∀ b o, s.heap.get? b = some o → s5.heap.get? b = some o) (ns : s5.heap.Ns ce.locals m0) (hos : s5.os = s.os) (hb : AllBare s5.gens) :
    Inv (gcx X A s H ce fp) [] (wipe σ (own.map (·.2))) H s5 := by
  have hfree : ∀ y ∈ scope.names, y.2 = .free → ∃ c, X.env.cells.lookup y.1 = some c := fun y hy e => (ok.free y hy e).elim (fun k => I.ok.has _ (.inl k)) (fun k => I.ok.has _ (.inr k))
  have look : ∀ {y c}, ce.cells.lookup y = some c → X.env.cells.lookup y = some c ∧ (y, NameKind.free) ∈ scope.names := fun {y c} e => clo_look hfree (by rw [← hcl]; exact e)
  have cellLt : ∀ {y c}, X.env.cells.lookup y = some c → c < s.heap.objs.size := fun {y c} e => let ⟨_, z⟩ := I.cell y c e; z.lt
  have freeHas : ∀ {y}, scope.names.lookup y = some .free → ∃ c, ce.cells.lookup y = some c ∧ X.env.cells.lookup y = some c := fun {y} e => by
    obtain ⟨c, hc⟩ := mem_lookup (cloFrom_has (cells := X.env.cells) (acc := []) (PySem.mem_of_lookup e))
    rw [← hcl] at hc
    exact ⟨c, hc, (look hc).1⟩
  have okG : (gcx X A s H ce fp).Ok := by
    refine { mod := I.ok.mod, kind := ?kd, glob := hgl, blt := hbl, above := Nat.le_of_eq hL.symm, inj := ?inj, has := ?has, cab := fun _ _ z _ => (by cases z), hd := fun _ => hh, frames := hA, stk := .inr ⟨rfl, hfr⟩, exf := ?exf, bs := I.bs, bsz := Nat.le_trans I.ok.bsz I.sz, noex := ?noex, exfs := ?exfs, funs := I.stack, frf := I.stkFree }
    case kd =>
      show ce.scope.kind = _
      rw [hsc]
      exact ok.kind
    case inj => exact fun y z c e1 e2 => I.ok.inj y z c (look e1).1 (look e2).1
    case has =>
      intro y hy
      have hy : ce.scope.names.lookup y = some .cell ∨ ce.scope.names.lookup y = some .free := hy
      rw [hsc] at hy
      rcases hy with hy | hy
      · exact absurd rfl (nocell _ (PySem.mem_of_lookup hy))
      · exact let ⟨c, h, _⟩ := freeHas hy; ⟨c, h⟩
    case exf =>
      refine fun b hb => ⟨?_, fun y c e z => (hfp b hb).1.2.2.2.2.1 y c (look e).1 z⟩
      show b ≠ ce.locals
      rw [hL]
      exact Nat.ne_of_lt (hfp b hb).2
    case noex =>
      intro b o e hb
      rcases (hfp b hb).1.2.2.2.1 with z | z
      · exact I.ok.noex b o e z
      · have h1 := Heap.lt_size e
        have h2 := I.ok.bsz
        exact absurd (Nat.lt_of_lt_of_le h1 (Nat.le_trans h2 z)) (Nat.lt_irrefl _)
    case exfs =>
      intro b hb z
      rcases List.mem_cons.mp (I.stkSub b z) with z | z
      · exact (hfp b hb).1.2.1 z
      · exact (hfp b hb).1.2.2.1 z
  refine { ok := okG, os := hos, bare := hb, base := Un.kept kp, loc := ⟨m0, ns, ?loc⟩, cell := ?cell, free := ?free, freeC := fun y c e => I.freeC y c (look e).1, pin := fun p hp => absurd (show p ∈ ([] : List (Addr × Obj)) ++ [] from hp) (by simp), hok := I.hok.kept kp, len := by rw [wipe_length]; exact I.len }
  case loc =>
    intro i y v e1 e2 e3
    obtain ⟨e2, hne⟩ := wipe_some e2
    have e3 : ce.scope.names.lookup y = some .local ∨ ce.scope.names.lookup y = some .cell ∨ ce.scope.names.lookup y = some .free := e3
    rw [hsc] at e3
    have hfr : scope.names.lookup y = some .free := by
      rcases e3 with k | k | k
      · exfalso
        rcases ok.own _ (PySem.mem_of_lookup k) (.inl rfl) with h | h
        · obtain ⟨p, hp, hpy⟩ := List.mem_map.mp h
          have h3 := ok.ix p hp
          have : p.1 = y := hpy
          rw [this] at h3
          exact hne (List.mem_map.mpr ⟨p, hp, nodup_ix hN h3 e1⟩)
        · exact h (List.mem_of_getElem? e1)
      · exact absurd rfl (nocell _ (PySem.mem_of_lookup k))
      · exact k
    obtain ⟨c, h1, h2⟩ := freeHas hfr
    have hvis : Vis X.env.scope y := (ok.free _ (PySem.mem_of_lookup hfr) rfl).elim (fun k => .inr (.inl k)) (fun k => .inr (.inr k))
    obtain ⟨m, hn, hl⟩ := I.loc
    obtain ⟨u, r, q⟩ := hl i y v e1 e2 hvis
    refine ⟨u, r, .inr ⟨.inr (by show ce.scope.names.lookup y = _; rw [hsc]; exact hfr), ?_⟩⟩
    rcases q with ⟨k, _⟩ | ⟨_, d, hd, z⟩
    · have k : X.env.scope.names.lookup y = some .local := k
      rcases ok.free _ (PySem.mem_of_lookup hfr) rfl with k' | k' <;> rw [show X.env.scope.names.lookup y = _ from k'] at k <;> cases k
    · rw [h2] at hd
      cases hd
      exact ⟨c, h1, z.keeps kp⟩
  case cell =>
    intro y c e
    obtain ⟨v, z⟩ := I.cell y c (look e).1
    exact ⟨v, z.keeps kp⟩
  case free =>
    show H ce.locals = none
    rw [hL]
    exact I.hok.fresh (Nat.le_refl _)
/-- while the generator sleeps, its consumer writes at cw alone -/
structure Doz (cw : List Addr) (s s' : Shared) : Prop where
  os : s'.os = s.os
  bare : AllBare s'.gens
  keep : ∀ b o, b ∉ cw → s.heap.get? b = some o → s'.heap.get? b = some o
  there : ∀ b ∈ cw, ∃ o, s'.heap.get? b = some o ∧ ∀ v, o.data ≠ .cell v
/-- what stands at cw is left alone by a turn -/
def KeptAt (cw : List Addr) (s₀ s : Shared) : Prop := ∀ b ∈ cw, ∀ o, s₀.heap.get? b = some o → s.heap.get? b = some o
/-- what a consumer does with an item: the items so far, the item, the heap, and what the generator wants to go on -/
abbrev Cy := List V → V → Hp → (List V → Hp → Prop) → Prop
/-- how the items so far show in what the consumer keeps at cw -/
structure Lnk (cw : List Addr) (Lk : List V → Heap → Prop) : Prop where
  st : ∀ ys h h', Lk ys h → (∀ b ∈ cw, ∀ o, h.get? b = some o → h'.get? b = some o) → Lk ys h'
def GYld (Y : Cx) (gp : List (Addr × Obj)) (cw : List Addr) (Lk : List V → Heap → Prop) (cy : Cy) : Protocol := fun _ s₀ v s kap =>
  ∃ (ys : List V) (y : V) (σ : L2.St) (H : Hp) (Nx : List V → Hp → Prop), Inv Y gp σ H s ∧ RelV y v ∧ KeptAt cw s₀ s ∧ (∀ b ∈ cw, H b = none) ∧ Lk ys s.heap ∧ cy ys y H Nx ∧ ∀ ys', Nx ys' H → ∀ s', Doz cw s s' → Lk ys' s'.heap → kap (.send .none) s'
def GFin (Y : Cx) (gp : List (Addr × Obj)) (cw : List Addr) (Lk : List V → Heap → Prop) (Qe : List V → Hp → Prop) : GenEnd := fun _ s₀ r s =>
  r = .ok .next ∧ ∃ (ys : List V) (σ : L2.St) (H : Hp), Inv Y gp σ H s ∧ KeptAt cw s₀ s ∧ (∀ b ∈ cw, H b = none) ∧ Lk ys s.heap ∧ Qe ys H
/-- the turns of a generator expression: W by the turn, a measure and the items so far -/
def Turns (J : It) (g : TG) (tt : TT) (te : TE) (vs : List Nat) (σ : L2.St) (cy : Cy) (Qe : List V → Hp → Prop) (W : Nat → Nat → List V → Hp → Prop) : Prop :=
  ∀ i m ys H, W i m ys H → (J.stop i H ∧ Qe ys H) ∨ (J.go i H ∧ 0 < m ∧ ∃ Nx : List V → Hp → Prop, (∀ ys' H', Nx ys' H' → ∃ m', m' < m ∧ W (i + 1) m' ys' H') ∧
    ∀ x H', J.yld i H x H' → g x (wipe σ vs) H' fun σ2 H2 => wipe σ2 vs = wipe σ vs ∧ tt σ2 H2 fun b H3 => if b = true then te σ2 H3 fun y H4 => cy ys y H4 Nx else Nx ys H3)
/-- the iterator's and the consumer's objects in the generator's frame -/
structure GPlace (Y : Cx) (gp : List (Addr × Obj)) (fp cw : List Addr) : Prop where
  fx : ∀ b ∈ fp, b ∈ Y.ex ∧ b ≠ Y.env.locals ∧ b ∉ Y.fs ∧ (∀ x c, Y.env.cells.lookup x = some c → c ≠ b) ∧ (∀ p ∈ Y.pn ++ gp, p.1 ≠ b) ∧ b ∉ cw
  cx : ∀ b ∈ cw, Y.s_0.heap.objs.size ≤ b ∧ b ≠ Y.env.locals ∧ b ∉ Y.fs ∧ (∀ x c, Y.env.cells.lookup x = some c → c ≠ b) ∧ ∀ p ∈ Y.pn ++ gp, p.1 ≠ b
theorem GPlace.fpOk {Y : Cx} {gp : List (Addr × Obj)} {fp cw : List Addr} (G : GPlace Y gp fp cw) {s₀ : Shared} {H : Hp} (n : ∀ b ∈ fp, H b = none) : ∀ b ∈ fp, FpOk Y (gp ++ pinsAt cw s₀.heap) H b := fun b hb => by
  obtain ⟨h1, h2, h3, h4, h5, h6⟩ := G.fx b hb
  refine ⟨n b hb, h2, h3, .inl h1, h4, fun p hp => ?_⟩
  rw [← List.append_assoc] at hp
  rcases List.mem_append.mp hp with hp | hp
  · exact h5 p hp
  · intro z
    have h7 := (of_pinsAt hp).1
    rw [z] at h7
    exact h6 h7
/-- the consumer's objects are pinned as they stand -/
theorem GPlace.pin {Y : Cx} {gp : List (Addr × Obj)} {fp cw : List Addr} (G : GPlace Y gp fp cw) {σ : L2.St} {H : Hp} {s : Shared} (I : Inv Y gp σ H s) (n : ∀ b ∈ cw, H b = none) (t : ∀ b ∈ cw, ∃ o, s.heap.get? b = some o ∧ ∀ v, o.data ≠ .cell v) :
    Inv Y (gp ++ pinsAt cw s.heap) σ H s :=
  I.pinned (fun b hb => let ⟨h1, h2, h3, h4, h5⟩ := G.cx b hb; ⟨n b hb, h2, h3, .inr h1, h4, h5⟩) t
theorem kept_of {Y : Cx} {gp pl : List (Addr × Obj)} {cw : List Addr} {σ : L2.St} {H : Hp} {s₀ s : Shared} (I : Inv Y ((gp ++ pinsAt cw s₀.heap) ++ pl) σ H s) : KeptAt cw s₀ s := fun b hb o e =>
  (I.pin (b, o) (List.mem_append_right _ (List.mem_append_left _ (List.mem_append_right _ (mem_pinsAt hb e))))).1
/-- asleep: only cw is written -/
theorem GPlace.doz {Y : Cx} {gp : List (Addr × Obj)} {fp cw : List Addr} (G : GPlace Y gp fp cw) {σ : L2.St} {H : Hp} {s s' : Shared} (I : Inv Y gp σ H s) (n : ∀ b ∈ cw, H b = none) (z : Doz cw s s') : Inv Y gp σ H s' := by
  obtain ⟨z1, z2, z3, _⟩ := z
  have nt : ∀ b u, H b = some u → b ∉ cw := fun b u q hb => by
    rw [n b hb] at q
    cases q
  obtain ⟨hh, g, d, t, o⟩ := s'
  have ho : o = s.os := z1
  subst ho
  refine I.step (g' := g) (t' := t) (d' := d) (ch := cw) (fun b hb => ?_) (fun b ob _ _ hc q _ => z3 b ob hc q) (fun b ob _ _ hc q _ => ⟨ob.slots, z3 b ob hc q⟩) (fun _ _ _ _ k => k) (fun b ob hc q => ⟨ob, z3 b ob hc q⟩) (fun _ _ q => q) (fun _ _ _ q => q)
    (fun b ps q => ⟨#[], by rw [q]; simp⟩) (fun m hm => ?_) (fun b u q => ?_) z2
  · obtain ⟨h1, h2, h3, h4, h5⟩ := G.cx b hb
    exact ⟨.inr h1, h2, h4, h5⟩
  · obtain ⟨ob, es, ep, ho, r⟩ := hm
    exact ⟨ob, es, ep, z3 _ ob (fun hb => (G.cx _ hb).2.1 rfl) ho, r⟩
  · refine (I.hok b u q).stay (fun c v hc y => z3 c v ?_ y) (fun _ y => y) fun _ _ y => y
    rcases hc with y | y
    · rw [y]
      exact nt b u q
    · exact nt c _ y
section
variable {Y : Cx} {Aw : Around} {elt tg iter : Expr} {ifs : List Expr} {scope : Scope} {pos : Pos} {it : Addr} {fp cw : List Addr} {gp : List (Addr × Obj)} {tn : Nat → Heap → Prop} {J : It} {g : TG} {tt : TT} {te : TE} {vs : List Nat} {σ : L2.St} {cy : Cy} {Qe : List V → Hp → Prop} {Lk : List V → Heap → Prop}
  {W : Nat → Nat → List V → Hp → Prop}
abbrev gxE (elt tg iter : Expr) (ifs : List Expr) (scope : Scope) (pos : Pos) : Expr := .GeneratorExp elt [⟨tg, iter, ifs, 0⟩] scope pos
theorem gx_loop (hA : Aw.over (.compLoop (gxE elt tg iter ifs scope pos) 0 (.ref it) .none Y.env) [] = Y.A) (hx : Y.xe = fun _ _ => False) (hco : Y.env.scope.isCoroutine = false) (hc : Y.calm = true)
    (T : Turn Y.prog Y.w Y.K tg J fp it tn) (pg : PG Y tg g) (pt : PTs Y ifs tt) (pe : PE Y elt te) (G : GPlace Y gp fp cw) (hLk : Lnk cw Lk) (hW : Turns J g tt te vs σ cy Qe W) :
    ∀ (m n i : Nat) (ys : List V) (s₀ s : Shared) (H : Hp), m ≤ n → Inv Y (gp ++ pinsAt cw s₀.heap) (wipe σ vs) H s → (∀ b ∈ cw, ∃ o, s₀.heap.get? b = some o) → Lk ys s₀.heap → tn i s.heap → (∀ b ∈ fp, H b = none) → W i m ys H →
      Seg (model Y.prog Y.w) Aw (GFin Y gp cw Lk Qe) (GYld Y gp cw Lk cy) n s₀ (.compLoop (gxE elt tg iter ifs scope pos) 0 (.ref it) .none Y.env) ((model Y.prog Y.w).den (.compLoop (gxE elt tg iter ifs scope pos) 0 (.ref it) .none Y.env)) [] s := by
  have cwn : ∀ {s₀ s : Shared} {pl : List (Addr × Obj)} {σ' : L2.St} {H : Hp}, (∀ b ∈ cw, ∃ o, s₀.heap.get? b = some o) → Inv Y ((gp ++ pinsAt cw s₀.heap) ++ pl) σ' H s → ∀ b ∈ cw, H b = none := fun {s₀ s pl σ' H} h I b hb => by
    obtain ⟨o, e⟩ := h b hb
    exact (I.pin (b, o) (List.mem_append_right _ (List.mem_append_left _ (List.mem_append_right _ (mem_pinsAt hb e))))).2.1
  have nil : ∀ {l : List (Addr × Obj)} {σ' : L2.St} {H : Hp} {s : Shared}, Inv Y l σ' H s → Inv Y (l ++ []) σ' H s := fun {l σ' H s} I => by
    rw [List.append_nil]
    exact I
  intro m
  induction m using Nat.strongRecOn with
  | ind m ih =>
    intro n i ys s₀ s H hmn I hcw lk st nf w
    have fk := G.fpOk (s₀ := s₀) nf
    show Seg _ _ _ _ _ _ _ ((compTurn (gxE elt tg iter ifs scope pos) 0 (.ref it) .none Y.env).onRaise (leaving Y.env)) [] s
    rw [compTurn_gen elt tg iter ifs scope pos, Sem.onRaise_eq_wrap]
    refine seg_bind_wrap (wpAny_standAt (seg_bind_wrap ?_))
    rw [hA]
    rcases hW i m ys H w with ⟨stop, q⟩ | ⟨go, m0, Nx, hNx, step⟩
    · refine thnF (T.done Y rfl rfl rfl hc i _ s _ H _ I fk st stop) fun r s6 ⟨hr, I6⟩ => ?_
      subst hr
      exact seg_end (.ok .next) ⟨rfl, ys, _, H, I6.unpinned, kept_of (nil I6), cwn hcw (nil I6), hLk.st _ _ _ lk (kept_of (nil I6)), q⟩
    · refine thnF (T.item Y rfl rfl rfl hc i _ s _ H _ I fk st go) fun r s6 ⟨u, hr, h6⟩ => ?_
      subst hr
      refine seg_bind_wrap ?_
      rw [hA]
      refine thnF h6 fun _ s7 ⟨x, H7, I7, r7, y7, st7, n7⟩ => ?_
      have I7' := I7.pinned (G.fpOk n7) (T.obj _ _ st7)
      have kfp : ∀ {s' : Shared} {σ' : L2.St} {H' : Hp}, Inv Y ((gp ++ pinsAt cw s₀.heap) ++ pinsAt fp s7.heap) σ' H' s' → ∀ b ∈ fp, (∀ o, s7.heap.get? b = some o → s'.heap.get? b = some o) ∧ H' b = none := fun {s' σ' H'} I' b hb => by
        obtain ⟨o, e, _⟩ := T.obj _ _ st7 b hb
        obtain ⟨z1, z2, _⟩ := I'.pin (b, o) (List.mem_append_right _ (List.mem_append_right _ (mem_pinsAt hb e)))
        refine ⟨fun o' e' => ?_, z2⟩
        rw [e] at e'
        cases e'
        exact z1
      have exF : ∀ {e : Value} {s' : Shared} {Z : Prop}, Y.xe e s' → Z := fun {e s' Z} h => by
        rw [hx] at h
        exact False.elim h
      refine seg_bind_wrap ?_
      rw [hA]
      refine wpAny_mono (pg.run _ s7 _ H7 x u _ I7' r7 (step x H7 y7)) (fun _ s8 ⟨σ8, H8, I8, hw8, q8⟩ => ?_) fun _ _ h => exF h
      refine seg_bind_wrap ?_
      rw [hA]
      refine wpAny_mono (pt.run _ s8 σ8 H8 _ I8 q8) (fun b s9 ⟨H9, I9, q9⟩ => ?_) fun _ _ h => exF h
      have hl : (wipe σ vs).length = σ8.length := by rw [← hw8, wipe_length]
      have weak : ∀ {l : List (Addr × Obj)} {H' : Hp} {s' : Shared}, Inv Y l σ8 H' s' → Inv Y l (wipe σ vs) H' s' := fun {l H' s'} I' => I'.weak hl fun j v e => by
        rw [← hw8] at e
        exact (wipe_some e).1
      cases b with
      | false =>
        rw [if_neg Bool.false_ne_true] at q9
        obtain ⟨m', hm, w'⟩ := hNx _ _ q9
        simp only [Bool.false_eq_true, if_false]
        exact seg_again rfl (ih m' hm n (i + 1) ys s₀ s9 H9 (by omega) (weak I9.unpinned) hcw lk (T.keep _ _ _ st7 fun b hb => (kfp I9 b hb).1) (fun b hb => (kfp I9 b hb).2) w')
      | true =>
        rw [if_pos rfl] at q9
        simp only [if_true]
        have hy : ∀ v, yieldOut Y.env v = yieldValue v := fun v => by
          unfold yieldOut
          rw [hco]
          rfl
        simp only [hy]
        rw [Sem.bind_eq_wrap', Sem.bind_eq_wrap', Sem.wrap_wrap, Sem.wrap_wrap]
        refine seg_wrap ?_
        rw [hA]
        refine wpAny_mono (pe.run _ s9 σ8 H9 _ I9 q9) (fun v s10 ⟨y, H10, I10, r10, q10⟩ => ?_) fun _ _ h => exF h
        obtain ⟨n', rfl⟩ : ∃ n', n = n' + 1 := ⟨n - 1, by omega⟩
        have Ig : Inv Y gp σ8 H10 s10 := I10.pins_of fun p hp => I10.pin p (List.mem_append_right _ (List.mem_append_left _ (List.mem_append_left _ hp)))
        refine seg_at (seg_yield rfl rfl rfl ⟨ys, y, σ8, H10, Nx, Ig, r10, kept_of I10, cwn hcw I10, hLk.st _ _ _ lk (kept_of I10), q10, fun ys' hys s' hz lk' => ?_⟩)
        obtain ⟨m', hm, w'⟩ := hNx ys' H10 hys
        have nc := cwn hcw I10
        have Iz := G.doz Ig nc hz
        refine seg_again rfl (ih m' hm n' (i + 1) ys' s' s' H10 (by omega) (weak (G.pin Iz nc hz.there)) (fun b hb => let ⟨o, e, _⟩ := hz.there b hb; ⟨o, e⟩) lk' (T.keep _ _ _ st7 fun b hb o e => ?_) (fun b hb => (kfp I10 b hb).2) w')
        exact hz.keep b o (G.fx b hb).2.2.2.2.2 ((kfp I10 b hb).1 o e)
end
section
variable {Y : Cx} {Aw : Around} {elt tg iter : Expr} {ifs : List Expr} {scope : Scope} {pos : Pos} {it : Addr} {fp cw : List Addr} {gp : List (Addr × Obj)} {tn : Nat → Heap → Prop} {J : It} {g : TG} {tt : TT} {te : TE} {vs : List Nat} {σ : L2.St} {cy : Cy} {Qe : List V → Hp → Prop} {Lk : List V → Heap → Prop}
  {W : Nat → Nat → List V → Hp → Prop}
theorem gx_first (hA : Aw.over (.compLoop (gxE elt tg iter ifs scope pos) 0 (.ref it) .none Y.env) [] = Y.A) (hx : Y.xe = fun _ _ => False) (hco : Y.env.scope.isCoroutine = false) (hc : Y.calm = true)
    (T : Turn Y.prog Y.w Y.K tg J fp it tn) (pg : PG Y tg g) (pt : PTs Y ifs tt) (pe : PE Y elt te) (G : GPlace Y gp fp cw) (hLk : Lnk cw Lk) (hW : Turns J g tt te vs σ cy Qe W)
    {m : Nat} {s : Shared} {H : Hp} (I : Inv Y gp (wipe σ vs) H s) (nc : ∀ b ∈ cw, H b = none) (hcw : ∀ b ∈ cw, ∃ o, s.heap.get? b = some o ∧ ∀ v, o.data ≠ .cell v) (lk : Lk [] s.heap) (st : tn 0 s.heap) (nf : ∀ b ∈ fp, H b = none) (w : W 0 m [] H) :
    Seg (model Y.prog Y.w) Aw (GFin Y gp cw Lk Qe) (GYld Y gp cw Lk cy) m s (.compStart (gxE elt tg iter ifs scope pos) 0 (.ref it) .none Y.env) ((model Y.prog Y.w).den (.compStart (gxE elt tg iter ifs scope pos) 0 (.ref it) .none Y.env)) [] s := by
  have go := gx_loop (pos := pos) hA hx hco hc T pg pt pe G hLk hW m m 0 [] s s H (Nat.le_refl _) (G.pin I nc hcw) (fun b hb => let ⟨o, e, _⟩ := hcw b hb; ⟨o, e⟩) lk st nf w
  show Seg _ _ _ _ _ _ _ ((compStart (gxE elt tg iter ifs scope pos) 0 (.ref it) .none Y.env).onRaise (leaving Y.env)) [] s
  unfold compStart
  rw [Sem.onRaise_eq_wrap]
  show Seg _ _ _ _ _ _ _ ((ask >>= _).wrap _ _ _ _) [] s
  refine seg_bind_wrap (wpAny_askSetting ?_)
  split
  · exact seg_again rfl go
  · have last := T.self (Aw.over (.compStart (gxE elt tg iter ifs scope pos) 0 (.ref it) .none Y.env) []) 0 s
    first
      | exact seg_bind_wrap (wpAny_rule (seg_bind_wrap (wpAny_standAt (seg_bind_wrap (last _ _ st (seg_again rfl go))))))
      | (refine seg_bind_wrap (wpAny_rule ?_); show Seg _ _ _ _ _ _ _ ((standAt iter.pos >>= _).wrap _ _ _ _) [] s; exact seg_bind_wrap (wpAny_standAt (seg_bind_wrap (last _ _ st (seg_again rfl go)))))
end
/-- a generator that was made in X's code: what stood then, its frame's objects, its own object -/
structure GMk (X : Cx) (pins : List (Addr × Obj)) (σ : L2.St) (sg : Shared) (Hg : Hp) (fp : List Addr) (a g : Addr) (go : Obj) : Prop where
  inv : Inv X pins σ Hg sg
  fx : ∀ b ∈ fp, FpOk X pins Hg b
  isGen : ∀ h : Heap, h.get? a = some go → h.IsGen a g
/-- it sleeps; ys is out, at most n more come -/
structure GRun (Y : Cx) (cw : List Addr) (Lk : List V → Heap → Prop) (cy : Cy) (Qe : List V → Hp → Prop) (a g : Addr) (go : Obj) (Aw : Around) (n : Nat) (ys : List V) (s : Shared) : Prop where
  here : s.heap.get? a = some go
  lim : s.heap.NoLimit
  run : ∃ gs, s.gens[g]? = some gs ∧ ∀ s', Doz cw s s' → Lk ys s'.heap → gs.Goes (model Y.prog Y.w) Aw (GFin Y [(a, go)] cw Lk Qe) (GYld Y [(a, go)] cw Lk cy) n (.send .none) s'
theorem Doz.turn {cw : List Addr} {s s' s'' : Shared} (x : Doz cw s s') (y : Doz cw s' s'') : Doz cw s s'' :=
  ⟨y.os.trans x.os, y.bare, fun b o hb e => y.keep b o hb (x.keep b o hb e), y.there⟩
theorem GRun.doz {Y : Cx} {cw : List Addr} {Lk : List V → Heap → Prop} {cy : Cy} {Qe : List V → Hp → Prop} {a g : Addr} {go : Obj} {Aw : Around} {n : Nat} {ys : List V} {s s' : Shared} (R : GRun Y cw Lk cy Qe a g go Aw n ys s) (z : Doz cw s s') (ha : a ∉ cw) (hs : cStatics ∉ cw) (hg : s'.gens = s.gens) :
    GRun Y cw Lk cy Qe a g go Aw n ys s' := by
  obtain ⟨h1, ⟨mc, hn, hnn⟩, gs, h3, h4⟩ := R
  exact ⟨z.keep _ _ ha h1, ⟨mc, hn.at' fun o e => z.keep _ o hs e, hnn⟩, gs, by rw [hg]; exact h3, fun s2 y lk => h4 s2 (z.turn y) lk⟩
section
variable {X : Cx} {pins : List (Addr × Obj)} {σ : L2.St} {sg : Shared} {Hg : Hp} {fp cw : List Addr} {a g : Addr} {go : Obj} {A A1 : Around} {ce : Env} {cy : Cy} {Qe : List V → Hp → Prop} {Lk : List V → Heap → Prop} {s : Shared} {E : Value → Shared → Prop}
/-- back in the consumer's frame -/
theorem GMk.back (M : GMk X pins σ sg Hg fp a g go) {σ' : L2.St} {H : Hp} {s1 s' : Shared} (I : Inv (gcx X A1 sg Hg ce fp) [(a, go)] σ' H s1) (ho : s'.os = s1.os) (kp : ∀ b o, s1.heap.get? b = some o → s'.heap.get? b = some o) (hb : AllBare s'.gens) : Inv X pins σ H s' :=
  M.inv.call' (ch := fp) (ho.trans I.os) (I.base.trans (Un.kept kp)) (I.hok.kept kp) hb fun b hb => ⟨(M.fx b hb).2.2.2.1, (M.fx b hb).2.1, (M.fx b hb).2.2.2.2.1, (M.fx b hb).2.2.2.2.2⟩
/-- what next(generator) gives -/
def GNext (X : Cx) (pins : List (Addr × Obj)) (σ : L2.St) (Y : Cx) (cw : List Addr) (Lk : List V → Heap → Prop) (cy : Cy) (Qe : List V → Hp → Prop) (a g : Addr) (go : Obj) (A : Around) (n : Nat) (s : Shared) (r : Option Value) (s' : Shared) : Prop :=
  KeptAt cw s s' ∧ match r with
  | none => ∃ ys H, Inv X pins σ H s' ∧ (∀ b ∈ cw, H b = none) ∧ Lk ys s'.heap ∧ Qe ys H
  | some v => ∃ ys y H Nx, Inv X pins σ H s' ∧ RelV y v ∧ (∀ b ∈ cw, H b = none) ∧ Lk ys s'.heap ∧ cy ys y H Nx ∧ ∀ ys', Nx ys' H → ∀ s2, Doz cw s' s2 → Lk ys' s2.heap → s2.gens = s'.gens → ∃ n', n = n' + 1 ∧ GRun Y cw Lk cy Qe a g go A n' ys' s2
theorem gx_next (M : GMk X pins σ sg Hg fp a g go) (hLk : Lnk cw Lk) (ha : a ∉ cw) (hs : cStatics ∉ cw) {n : Nat} {ys : List V} (hh : A.handled = none) (hd : A.depth < recursionLimit) (R : GRun (gcx X A1 sg Hg ce fp) cw Lk cy Qe a g go A.in1 n ys s) (hb : AllBare s.gens) (hcw : ∀ b ∈ cw, ∃ o, s.heap.get? b = some o ∧ ∀ v, o.data ≠ .cell v)
    (lk : Lk ys s.heap) : wpAny (model X.prog X.w) A (pyNext (.ref a)) (GNext X pins σ (gcx X A1 sg Hg ce fp) cw Lk cy Qe a g go A.in1 n s) E s := by
  obtain ⟨h1, h2, gs, h3, h4⟩ := R
  have hgl : g < s.gens.size := (Array.getElem?_eq_some_iff.mp h3).1
  have z0 : Doz cw s (s.setGen g .running) := ⟨rfl, allBare_setGen hb rfl, fun _ _ _ e => e, hcw⟩
  refine GenW.wpAny_gsz (n := g + 1) hgl ?_
  refine wpAny_pyNext_genexpQ (P := fun _ s₀ s1 => ∃ (ys : List V) (σ' : L2.St) (H : Hp), Inv (gcx X A1 sg Hg ce fp) [(a, go)] σ' H s1 ∧ KeptAt cw s₀ s1 ∧ (∀ b ∈ cw, H b = none) ∧ Lk ys s1.heap ∧ Qe ys H)
    hh h2 hd (M.isGen _ h1) h3 (h4 _ z0 lk) (fun v s1 gs' hbare hv => ?_) fun s1 hp h' hk => ?_
  · obtain ⟨ys1, y, σ', H, Nx, I, r, kc, nc, lk1, q, wake⟩ := hv
    intro hsz
    have hsz1 : g < s1.gens.size := by
      rw [GenW.setGen_size] at hsz
      exact hsz
    refine ⟨kc, ys1, y, H, Nx, M.back I rfl (fun _ _ e => e) (allBare_setGen I.bare hbare), r, nc, lk1, q, fun ys' hN s2 z lk2 hgs => ?_⟩
    have w2 := wake ys' hN s2 ⟨z.os, z.bare, z.keep, z.there⟩ lk2
    cases n with
    | zero => exact w2.elim
    | succ n' =>
      have R1 : GRun (gcx X A1 sg Hg ce fp) cw Lk cy Qe a g go A.in1 n' ys' (s1.setGen g gs') :=
        ⟨(I.pin (a, go) (List.mem_append_right _ (List.mem_singleton.mpr rfl))).1, I.nolimit, gs', setGen_at hsz1, fun s2 z lk2 => wake ys' hN s2 ⟨z.os, z.bare, z.keep, z.there⟩ lk2⟩
      exact ⟨n', rfl, R1.doz z ha hs hgs⟩
  · obtain ⟨ys1, σ', H, I, kc, nc, lk1, q⟩ := hp
    intro _
    refine ⟨fun b hb o e => hk _ _ (kc b hb o e), ys1, H, M.back I rfl hk (allBare_setGen I.bare rfl), nc, hLk.st _ _ _ lk1 fun b _ o e => hk b o e, q⟩
end
theorem over_gx {A : Around} {elt tg iter : Expr} {ifs : List Expr} {scope : Scope} {pos : Pos} {it : Addr} {ce : Env} : A.over (.compLoop (gxE elt tg iter ifs scope pos) 0 (.ref it) .none ce) [] = A.deeper ce := by
  first
    | rfl
    | (obtain ⟨hd, d, fr, gs, u⟩ := A; simp [Around.over, Around.deeper, marksOver, frameCount, unitsOf, envsOf, guardsOf, pushEnvs, pushGuards, Code.envs, Code.env?, Code.isFrame, Code.guards, Code.isGuard, Code.weight, Code.frames, Code.isCreation, Code.isCaller, Code.cUnits])
/-- the generator has been made and has not begun; at most m items come -/
structure GReady (X : Cx) (pins : List (Addr × Obj)) (σ : L2.St) (m : Nat) (cy : Cy) (Qe : List V → Hp → Prop) (a : Addr) (s : Shared) : Prop where
  ex : ∃ (g : Addr) (go : Obj) (sg : Shared) (Hg : Hp) (fp : List Addr) (ce : Env), GMk X pins σ sg Hg fp a g go ∧ Inv X pins σ Hg s ∧ s.heap.get? a = some go ∧ s.heap.NoLimit ∧
    ∀ (cw : List Addr) (Lk : List V → Heap → Prop) (A : Around) (s2 : Shared), Lnk cw Lk → A.handled = none → A.frames = some X.stack → A.depth ≤ X.A.depth + 1 → A.units ≤ X.A.units + 8 → (∀ b ∈ cw, s.heap.objs.size ≤ b) →
      (∀ b o, s.heap.get? b = some o → s2.heap.get? b = some o) → (∀ b ∈ cw, ∃ o, s2.heap.get? b = some o ∧ ∀ v, o.data ≠ .cell v) → s2.os = s.os → s2.gens = s.gens → Lk [] s2.heap →
      GRun (gcx X (A.deeper ce) sg Hg ce fp) cw Lk cy Qe a g go A m [] s2
section
variable {X : Cx} {pins : List (Addr × Obj)} {σ : L2.St} {H : Hp} {s : Shared} {c P : Addr} {elt iter tg : Expr} {ifs : List Expr} {scope : Scope} {gpos : Pos} {own : List (Str × Nat)} {wi : TI} {g : TG} {tt : TT} {te : TE} {k : Nat} {cy : Cy} {Qe : List V → Hp → Prop}
theorem gx_make (hr : Room (k + 1) X.A) (TB : LamX.TabB X.base X.mg c P) (hcode : X.env.code = .ref c) (hco : scope.isCoroutine = false) (ok : BlkOk X.N X.env.scope scope own) (hN : X.N.Nodup) (nocell : ∀ y ∈ scope.names, y.2 ≠ .cell)
    (h0 : scope.names.lookup (".0" : Str) = some NameKind.local) (hi : PI X tg iter wi)
    (pg : ∀ (A : Around) (s : Shared) (H : Hp) (C : Addr) (cl : List (Str × Addr)) (code : Value) (bi : Addr) (fp : List Addr), Room k A → PG (gcx X A s H (genEnv scope cl C code bi X.env) fp) tg g)
    (pt : ∀ (A : Around) (s : Shared) (H : Hp) (C : Addr) (cl : List (Str × Addr)) (code : Value) (bi : Addr) (fp : List Addr), Room k A → PTs (gcx X A s H (genEnv scope cl C code bi X.env) fp) ifs tt)
    (pe : ∀ (A : Around) (s : Shared) (H : Hp) (C : Addr) (cl : List (Str × Addr)) (code : Value) (bi : Addr) (fp : List Addr), Room k A → PE (gcx X A s H (genEnv scope cl C code bi X.env) fp) elt te)
    (hs : ∀ v, genFold iter X.env v = pure v) (I : Inv X pins σ H s)
    (h : wi σ H fun J H1 => GxR.TabG H1 P ∧ ∀ H2, GxR.Tabbed P H1 H2 → ∃ W m, W 0 m [] H2 ∧ Turns J g tt te (own.map (·.2)) σ cy Qe W) :
    wpAny (model X.prog X.w) X.A (eval (gxE elt tg iter ifs scope gpos) X.env) (fun u s' => ∃ a m, u = .ref a ∧ GReady X pins σ m cy Qe a s') X.xe s := by
  have hfree : ∀ y ∈ scope.names, y.2 = .free → ∃ c, X.env.cells.lookup y.1 = some c := fun y hy e => (ok.free y hy e).elim (fun z => I.ok.has _ (.inl z)) (fun z => I.ok.has _ (.inr z))
  refine wpAny_GeneratorExp_make hco (closure_ok hfree) nocell h0 ok.kind (by have := hr.dp; omega) ?_ hs
  refine thn (hi.run pins s σ H _ I h) fun xv s1 hx => thn hx fun itv s2 h2 => ?_
  obtain ⟨it, fp, tn, J, H2, rfl, I2, T, st2, f2, ⟨ps, hP, ht⟩, q⟩ := h2
  refine ⟨I2.nolimit, ?_⟩
  have hPs : s2.heap.get? P = some { cls := .none, data := .fields ps } := I2.hok P _ hP
  have cd : PySem.W.CodeHd s2.heap c P := TB.code.keeps fun b u e => I2.bk b u e
  have sz : ∀ b ∈ fp, b < s2.heap.objs.size := fun b hb => by
    obtain ⟨o, e, _⟩ := T.obj _ _ st2 b hb
    exact Heap.lt_size e
  have nP : ∀ b ∈ fp, b ≠ P := fun b hb z => by
    have := (f2 b hb).1
    rw [z, hP] at this
    cases this
  have cont : ∀ (code : Value) (h3 : Heap) (tk : Nat) (more : Array Value), Heap.ExtBut P s2.heap h3 → s2.heap.objs.size ≤ h3.objs.size → h3.get? P = some { cls := .none, data := .fields (ps ++ more) } → TriplesOk (ps ++ more).toList →
      wpAny (model X.prog X.w) X.A (builtinsFor X.env.globals X.env.builtins) (fun bi s4 => ∀ h', h'.Ns s4.heap.objs.size (fun y => if y = ".0" then some (.ref it) else none) → Heap.SameBut s4.heap.objs.size (s4.heap.push { cls := .type "frame", data := .dict #[] }) h' →
        ∃ a m, Value.ref h'.objs.size = .ref a ∧ GReady X pins σ m cy Qe a { s4 with
            gens := s4.gens.push (.fresh (.compStart (gxE elt tg iter ifs scope gpos) 0 (.ref it) .none (genEnv scope (cloFrom X.env.cells scope.names []) s4.heap.objs.size code bi X.env))),
            toks := s4.toks + 1 + 1 + 1,
            heap := h'.push { cls := .type "generator", data := .fields #[.int s4.gens.size 0, .str "<genexpr>" (s4.toks + 1), .str (X.env.qual ++ "<genexpr>") (s4.toks + 1 + 1)] } }) X.xe { s2 with heap := h3, toks := tk } := by
    intro code h3 tk more hx3 hsz hP3 ht3
    have kp3 : ∀ b o, b ≠ P → s2.heap.get? b = some o → h3.get? b = some o := fun b o hb e => hx3 b o hb e
    have I3 : Inv X pins σ (upd H2 P (.tbl (ps ++ more))) { s2 with heap := h3, toks := tk } := GxR.inv_tab (g' := s2.gens) (d' := s2.drawn) (t' := tk) I2 hP kp3 hP3 I2.bare
    obtain ⟨W, m, w0, hW⟩ := q (upd H2 P (.tbl (ps ++ more))) ⟨⟨_, upd_same, ht3⟩, fun b hb => upd_ne hb⟩
    have f3 : ∀ b ∈ fp, FpOk X pins (upd H2 P (.tbl (ps ++ more))) b := fun b hb => ⟨by rw [upd_ne (nP b hb)]; exact (f2 b hb).1, (f2 b hb).2⟩
    have st3 : tn 0 h3 := T.keep _ _ _ st2 fun b hb o e => kp3 b o (nP b hb) e
    have sz3 : ∀ b ∈ fp, b < h3.objs.size := fun b hb => Nat.lt_of_lt_of_le (sz b hb) hsz
    obtain ⟨bm, ob, e1, e2, e3, e4, e5, e6, e7, e8⟩ := TB.bm
    refine wpAny_builtinsFor (m := X.mg) (by rw [I3.ok.glob]; exact I3.mod.glob.keeps I3.bk) e1 e2 (I3.bk _ _ e5) e6 e7 e8 ?_
    generalize upd H2 P (.tbl (ps ++ more)) = H3 at I3 w0 f3 hW
    generalize hs3 : ({ s2 with heap := h3, toks := tk } : Shared) = s3 at I3 ⊢
    have e3h : s3.heap = h3 := by rw [← hs3]
    rw [← e3h] at st3 sz3
    intro h' hn' hb'
    have hsz' : h'.objs.size = s3.heap.objs.size + 1 := by rw [hb'.1, Heap.size_push]
    have kp' : ∀ b o, s3.heap.get? b = some o → h'.get? b = some o := fun b o e => hb'.extBut b o (Nat.ne_of_lt (Heap.lt_size e)) (Heap.get?_push_of_some _ e)
    refine ⟨_, m, rfl, ?_⟩
    generalize hgo : ({ cls := .type "generator", data := .fields #[.int s3.gens.size 0, .str "<genexpr>" (s3.toks + 1), .str (X.env.qual ++ "<genexpr>") (s3.toks + 1 + 1)] } : Obj) = go
    have isg : ∀ h : Heap, h.get? h'.objs.size = some go → h.IsGen h'.objs.size s3.gens.size := fun h e => ⟨go, _, _, e, by rw [← hgo], by rw [← hgo], by rw [← hgo]⟩
    have gnc : ∀ v, go.data ≠ .cell v := fun v z => by
      rw [← hgo] at z
      cases z
    have nf : go.data ≠ .freed := fun z => by
      rw [← hgo] at z
      cases z
    have hat : (h'.push go).get? h'.objs.size = some go := by
      rw [← hgo]
      exact Heap.get?_push_size _ rfl
    generalize hce : genEnv scope (cloFrom X.env.cells scope.names []) s3.heap.objs.size code builtinsNs X.env = ce
    have ce1 : ce.scope = scope := by rw [← hce]; rfl
    have ce2 : ce.locals = s3.heap.objs.size := by rw [← hce]; rfl
    have ce3 : ce.globals = mainGlobals := by rw [← hce]; exact I3.ok.glob
    have ce4 : ce.builtins = builtinsNs := by rw [← hce]; rfl
    have ce5 : ce.cells = cloFrom X.env.cells scope.names [] := by rw [← hce]; rfl
    have ce6 : ce.frame = some ce.locals := by rw [← hce]; rfl
    generalize hs5 : ({ s3 with gens := s3.gens.push (.fresh (.compStart (gxE elt tg iter ifs scope gpos) 0 (.ref it) .none ce)), toks := s3.toks + 1 + 1 + 1, heap := h'.push go } : Shared) = s5
    have h5 : s5.heap = h'.push go := by rw [← hs5]
    have g5 : s5.gens = s3.gens.push (.fresh (.compStart (gxE elt tg iter ifs scope gpos) 0 (.ref it) .none ce)) := by rw [← hs5]
    have o5 : s5.os = s3.os := by rw [← hs5]
    have kp5 : ∀ b o, s3.heap.get? b = some o → s5.heap.get? b = some o := fun b o e => by rw [h5]; exact Heap.get?_push_of_some _ (kp' b o e)
    have b5 : AllBare s5.gens := by rw [g5]; exact I3.bare.push rfl
    have M : GMk X pins σ s3 H3 fp h'.objs.size s3.gens.size go := ⟨I3, f3, isg⟩
    have lim5 : s5.heap.NoLimit := I3.nolimit.keeps kp5
    have I5 : Inv X pins σ H3 s5 := I3.call' (ch := []) o5 (Un.kept kp5) (I3.hok.kept kp5) b5 fun b z => by simp at z
    have at5 : s5.heap.get? h'.objs.size = some go := by rw [h5]; exact hat
    have sz5 : s5.heap.objs.size = s3.heap.objs.size + 2 := by rw [h5, Heap.size_push, hsz']
    refine ⟨⟨s3.gens.size, go, s3, H3, fp, ce, M, I5, at5, lim5, fun cw Lk A s6 hLk hh hfr hdp hun hcw kp6 tc os6 gs6 lk => ?_⟩⟩
    have kp36 : ∀ b o, s3.heap.get? b = some o → s6.heap.get? b = some o := fun b o e => kp6 b o (kp5 b o e)
    have hrA : Room k (A.deeper ce) := by
      refine ⟨hh, ?_, ?_⟩
      · have := hr.dp
        show A.depth + 1 + 3 * k + 5 < _
        omega
      · have := hr.un
        show A.units + 3 + 16 * k + 200 < _
        omega
    have nsC : s6.heap.Ns ce.locals (fun y => if y = ".0" then some (.ref it) else none) := by
      rw [ce2]
      exact (hn'.push go).keeps fun b o e => kp6 b o (by rw [h5]; exact e)
    have b6 : AllBare s6.gens := by rw [gs6]; exact b5
    have I6 : Inv (gcx X (A.deeper ce) s3 H3 ce fp) [] (wipe σ (own.map (·.2))) H3 s6 :=
      gcx_start I3 ok hN nocell (fun b hb => ⟨f3 b hb, sz3 b hb⟩) ce1 ce2 ce3 ce4 ce5 ce6 (Around.frames_deeper hfr) hh kp36 nsC (os6.trans o5) b6
    have young : ∀ b, s3.heap.objs.size < b → H3 b = none ∧ b ≠ ce.locals ∧ b ∉ frs X.stack ∧ (∀ x c, ce.cells.lookup x = some c → c ≠ b) := fun b hb => by
      refine ⟨I3.hok.fresh (Nat.le_of_lt hb), by rw [ce2]; exact Nat.ne_of_gt hb, fun z => ?_, fun x d e z => ?_⟩
      · rcases List.mem_cons.mp (I3.stkSub b z) with z | z
        · exact absurd (Nat.lt_trans (by rw [z]; exact I3.lt) hb) (Nat.lt_irrefl _)
        · exact I3.nofs (Nat.le_of_lt hb) z
      · obtain ⟨v, zc⟩ := I6.cell x d e
        rw [ce5] at e
        obtain ⟨u, zd⟩ := I3.cell x d (clo_look hfree e).1
        have := zd.lt
        rw [z] at this
        exact absurd (Nat.lt_trans this hb) (Nat.lt_irrefl _)
    have ga : s3.heap.objs.size < h'.objs.size := by rw [hsz']; exact Nat.lt_succ_self _
    have I6' : Inv (gcx X (A.deeper ce) s3 H3 ce fp) [(h'.objs.size, go)] (wipe σ (own.map (·.2))) H3 s6 := I6.pins_of fun p hp => by
      rw [List.mem_singleton.mp hp]
      obtain ⟨y1, y2, y3, _⟩ := young _ ga
      exact ⟨kp6 _ _ at5, y1, y2, y3, gnc⟩
    have cwlt : ∀ b ∈ cw, s3.heap.objs.size < b ∧ b ≠ h'.objs.size := fun b hb => by
      have h1 : s3.heap.objs.size + 2 ≤ b := by rw [← sz5]; exact hcw b hb
      refine ⟨Nat.lt_of_lt_of_le (Nat.lt_succ_of_lt (Nat.lt_succ_self _)) h1, fun z => ?_⟩
      rw [z, hsz'] at h1
      exact absurd (Nat.lt_of_succ_le h1) (Nat.lt_irrefl _)
    have G : GPlace (gcx X (A.deeper ce) s3 H3 ce fp) [(h'.objs.size, go)] fp cw := by
      refine ⟨fun b hb => ⟨hb, (I6.ok.exf b hb).1, I6.ok.exfs b hb, fun x d e => (I6.ok.exf b hb).2 x d e, fun p hp => ?_, fun z => ?_⟩, fun b hb => ?_⟩
      · rw [List.mem_singleton.mp (show p ∈ [(h'.objs.size, go)] from hp)]
        exact fun z => absurd (Nat.lt_trans (sz3 b hb) (by rw [← z]; exact ga)) (Nat.lt_irrefl _)
      · exact absurd (Nat.lt_trans (sz3 b hb) (cwlt b z).1) (Nat.lt_irrefl _)
      · obtain ⟨y1, y2, y3, y4⟩ := young b (cwlt b hb).1
        refine ⟨Nat.le_of_lt (cwlt b hb).1, y2, y3, y4, fun p hp => ?_⟩
        rw [List.mem_singleton.mp (show p ∈ [(h'.objs.size, go)] from hp)]
        exact (cwlt b hb).2.symm
    have nc : ∀ b ∈ cw, H3 b = none := fun b hb => (young b (cwlt b hb).1).1
    refine ⟨kp6 _ _ at5, lim5.keeps kp6, .fresh (.compStart (gxE elt tg iter ifs scope gpos) 0 (.ref it) .none ce), by rw [gs6, g5]; exact Array.getElem?_push_size .., fun s7 z lk7 => ⟨rfl, ?_⟩⟩
    have I7 := G.doz I6' nc z
    have st7 : tn 0 s7.heap := T.keep _ _ _ st3 fun b hb o e => z.keep b o (fun hc => absurd (Nat.lt_trans (sz3 b hb) (cwlt b hc).1) (Nat.lt_irrefl _)) (kp36 b o e)
    have pg' := pg (A.deeper ce) s3 H3 s3.heap.objs.size (cloFrom X.env.cells scope.names []) code builtinsNs fp hrA
    have pt' := pt (A.deeper ce) s3 H3 s3.heap.objs.size (cloFrom X.env.cells scope.names []) code builtinsNs fp hrA
    have pe' := pe (A.deeper ce) s3 H3 s3.heap.objs.size (cloFrom X.env.cells scope.names []) code builtinsNs fp hrA
    rw [hce] at pg' pt' pe'
    exact gx_first (Y := gcx X (A.deeper ce) s3 H3 ce fp) over_gx rfl (by show ce.scope.isCoroutine = false; rw [ce1]; exact hco) rfl T pg' pt' pe' G hLk hW I7 nc z.there lk7 st7 (fun b hb => (f3 b hb).1) w0
  cases hf : codeAmong gpos ps.toList with
  | none =>
    refine wpAny_genexprCodeX hcode (cd.code hPs ht) (cd.tab hPs) hf fun c' h' tk hx hge hlt hco' _ htab' _ => ?_
    obtain ⟨o1, vs, f1, tf, fl, tg, inF, tx, tt, op, _, _, _, _, _, _, _, _, _, htr, _⟩ := hco'
    exact cont _ h' tk _ hx (Nat.le_trans hge (Nat.le_of_lt hlt)) htab'.2 htr
  | some cv =>
    refine wpAny_genexprCode_hit hcode (cd.code hPs ht) hf ?_
    exact cont cv s2.heap s2.toks #[] (Heap.ExtBut.refl _ _) (Nat.le_refl _) (by rw [Array.append_empty]; exact hPs) (by rw [Array.append_empty]; exact ht)
end
end GXP
namespace GXP
open PySem PySem.Spec PyProof.Rows L2
/-! the consumers -/
/-- the list that the consumer fills -/
abbrev tmpL (acc : Array Value) (c : Nat) : Obj := { cls := .type "list", dict := none, data := .seq acc c, slots := #[] }
def LkT (S : Addr) (ys : List V) (h : Heap) : Prop := ∃ acc c, h.get? S = some (tmpL acc c) ∧ Vals ys acc.toList ∧ ys.length ≤ sizeLine
theorem lnkT (S : Addr) : Lnk [S] (LkT S) := ⟨fun _ _ _ ⟨acc, c, e, r⟩ k => ⟨acc, c, k S (List.mem_singleton.mpr rfl) _ e, r⟩⟩
def cyT : Cy := fun ys y H Nx => ys.length < sizeLine ∧ Nx (ys ++ [y]) H
theorem lnkN : Lnk [] (fun _ _ => True) := ⟨fun _ _ _ _ _ => trivial⟩
/-- all, any: b0 ends it -/
def cyB (b0 : Bool) (Qf : Hp → Prop) : Cy := fun ys y H Nx => ∃ b, y = .bl b ∧ if b = b0 then Qf H else Nx (ys ++ [y]) H
def sumV : List V → Int
  | [] => 0
  | .int z :: r => z + sumV r
  | _ :: r => sumV r
theorem sumV_snoc : ∀ (ys : List V) (z : Int), sumV (ys ++ [.int z]) = sumV ys + z
  | [], z => by simp [sumV]
  | y :: r, z => by
    have ih := sumV_snoc r z
    cases y <;> simp only [List.cons_append, sumV, ih] <;> omega
def LkS (S : Addr) (ys : List V) (h : Heap) : Prop := ∃ t c, h.get? S = some (tmpL #[.int (sumV ys) t] c)
theorem lnkS (S : Addr) : Lnk [S] (LkS S) := ⟨fun _ _ _ ⟨t, c, e⟩ k => ⟨t, c, k S (List.mem_singleton.mpr rfl) _ e⟩⟩
def cyS : Cy := fun ys y H Nx => ∃ z, y = .int z ∧ InLong z ∧ InLong (sumV ys + z) ∧ Nx (ys ++ [y]) H
section
variable {X : Cx} {pins : List (Addr × Obj)} {σ : L2.St} {sg : Shared} {Hg : Hp} {fp : List Addr} {a g S : Addr} {go : Obj} {A A1 : Around} {ce : Env} {Qe : List V → Hp → Prop} {R : Result → Shared → Prop}
theorem gx_drain (M : GMk X pins σ sg Hg fp a g go) (hh : A.handled = none) (hd : A.depth < recursionLimit) (hSa : a ∉ [S]) (hSc : cStatics ∉ [S]) {res : Value}
    (fin : ∀ (s' : Shared) (ys : List V) (H : Hp) (acc : Array Value) (c : Nat), Inv X pins σ H s' → H S = none → s'.heap.get? S = some (tmpL acc c) → Vals ys acc.toList → ys.length ≤ sizeLine → Qe ys H → R (.ok (.ret res)) s') :
    ∀ (n : Nat) (ys : List V) (s : Shared), GRun (gcx X A1 sg Hg ce fp) [S] (LkT S) cyT Qe a g go A.in1.in1 n ys s → LkT S ys s.heap → AllBare s.gens → codeAny (model X.prog X.w) A (.builtin "list.extend.loop" ⟨[.ref S, .ref a, res], []⟩) R s := by
  have E0 := F.entry_extend_loop
  intro n
  induction n with
  | zero =>
    intro ys s G lk hb
    obtain ⟨acc, c, eS, r, hz⟩ := id lk
    refine codeAny_builtin E0 ?_
    rw [Around.under_plainId F.plain_extend_loop]
    refine wpAny_bind (thnF (gx_next M (lnkT S) hSa hSc (A := A.in1) hh hd G hb (fun b hb => ?_) lk) fun r s1 hN => ?_)
    · rw [List.mem_singleton.mp hb]
      exact ⟨_, eS, fun v z => by cases z⟩
    · obtain ⟨kc, hN⟩ := hN
      cases r with
      | none =>
        obtain ⟨ys1, H1, I1, n1, ⟨acc1, c1, e1, r1, z1⟩, q1⟩ := hN
        exact wpAny_pure (fin s1 ys1 H1 acc1 c1 I1 (n1 S (List.mem_singleton.mpr rfl)) e1 r1 z1 q1)
      | some v =>
        obtain ⟨ys1, y, H1, Nx, I1, ry, n1, ⟨acc1, c1, e1, r1, z1⟩, ⟨hlt, hN1⟩, wake⟩ := hN
        have hs : acc1.size < sizeLine := by
          have := r1.length
          simp only [Array.length_toList] at this
          omega
        show wpAny _ A.in1 (updateSeq S (·.push v) >>= _) _ _ _
        refine wpAny_bind (wpAny_updateSeq e1 rfl ?_ (Nat.le_of_lt hs) (by show (acc1.push v).size ≤ sizeLine + 1; rw [Array.size_push]; omega))
        have o1 := Heap.get?_update_self (Obj.mapSeq (·.push v)) e1 rfl
        refine (wake (ys1 ++ [y]) hN1 { s1 with heap := s1.heap.update S (Obj.mapSeq (·.push v)) } ⟨rfl, I1.bare, fun b o hb e => ?_, fun b hb => ?_⟩ ⟨_, _, o1, ?_, ?_⟩ rfl).elim (fun n' h => (Nat.succ_ne_zero n' h.1.symm).elim)
        · exact (Heap.get?_update_other _ _ (fun z => hb (List.mem_singleton.mpr z.symm))).trans e
        · rw [List.mem_singleton.mp hb]
          exact ⟨_, o1, fun v z => by cases z⟩
        · rw [Array.toList_push]
          exact r1.append (.cons ry .nil)
        · rw [List.length_append]
          exact hlt
  | succ n ih =>
    intro ys s G lk hb
    obtain ⟨acc, c, eS, r, hz⟩ := id lk
    refine codeAny_builtin E0 ?_
    rw [Around.under_plainId F.plain_extend_loop]
    refine wpAny_bind (thnF (gx_next M (lnkT S) hSa hSc (A := A.in1) hh hd G hb (fun b hb => ?_) lk) fun r s1 hN => ?_)
    · rw [List.mem_singleton.mp hb]
      exact ⟨_, eS, fun v z => by cases z⟩
    · obtain ⟨kc, hN⟩ := hN
      cases r with
      | none =>
        obtain ⟨ys1, H1, I1, n1, ⟨acc1, c1, e1, r1, z1⟩, q1⟩ := hN
        exact wpAny_pure (fin s1 ys1 H1 acc1 c1 I1 (n1 S (List.mem_singleton.mpr rfl)) e1 r1 z1 q1)
      | some v =>
        obtain ⟨ys1, y, H1, Nx, I1, ry, n1, ⟨acc1, c1, e1, r1, z1⟩, ⟨hlt, hN1⟩, wake⟩ := hN
        have hs : acc1.size < sizeLine := by
          have := r1.length
          simp only [Array.length_toList] at this
          omega
        show wpAny _ A.in1 (updateSeq S (·.push v) >>= _) _ _ _
        refine wpAny_bind (wpAny_updateSeq e1 rfl (wpAny_pure ⟨plainId_quiet F.plain_extend_loop _, ?_⟩) (Nat.le_of_lt hs) (by show (acc1.push v).size ≤ sizeLine + 1; rw [Array.size_push]; omega))
        have o1 := Heap.get?_update_self (Obj.mapSeq (·.push v)) e1 rfl
        have lk2 : LkT S (ys1 ++ [y]) (s1.heap.update S (Obj.mapSeq (·.push v))) := ⟨_, _, o1, by rw [Array.toList_push]; exact r1.append (.cons ry .nil), by rw [List.length_append]; exact hlt⟩
        obtain ⟨n', hn, G'⟩ := wake (ys1 ++ [y]) hN1 { s1 with heap := s1.heap.update S (Obj.mapSeq (·.push v)) } ⟨rfl, I1.bare, fun b o hb e => (Heap.get?_update_other _ _ (fun z => hb (List.mem_singleton.mpr z.symm))).trans e, fun b hb => by
          rw [List.mem_singleton.mp hb]
          exact ⟨_, o1, fun v z => by cases z⟩⟩ lk2 rfl
        cases hn
        exact ih (ys1 ++ [y]) _ G' lk2 I1.bare
end
end GXP
namespace GXP
open PySem PySem.Spec PyProof.Rows L2
section
variable {X : Cx} {pins : List (Addr × Obj)} {σ : L2.St} {sg : Shared} {Hg : Hp} {fp : List Addr} {a g S : Addr} {go : Obj} {A A1 : Around} {ce : Env} {Qe : List V → Hp → Prop} {Qf : Hp → Prop} {R : Result → Shared → Prop}
theorem gx_all (M : GMk X pins σ sg Hg fp a g go) (hh : A.handled = none) (hd : A.depth < recursionLimit)
    (fin : ∀ (s' : Shared) (H : Hp) (b : Bool), Inv X pins σ H s' → (b = true → ∃ ys, Qe ys H) → (b = false → Qf H) → R (.ok (.ret (.bool b))) s') :
    ∀ (n : Nat) (ys : List V) (s : Shared), GRun (gcx X A1 sg Hg ce fp) [] (fun _ _ => True) (cyB false Qf) Qe a g go A.in1.in1 n ys s → AllBare s.gens → codeAny (model X.prog X.w) A (.builtin "all.loop" ⟨[.ref a], []⟩) R s := by
  have E0 := F.entry_all_loop
  intro n
  induction n with
  | zero =>
    intro ys s G hb
    refine codeAny_builtin E0 ?_
    rw [Around.under_plainId F.plain_all_loop]
    refine wpAny_bind (thnF (gx_next M lnkN (by simp) (by simp) (A := A.in1) hh hd G hb (fun b hb => by cases hb) trivial) fun r s1 ⟨_, hN⟩ => ?_)
    cases r with
    | none =>
      obtain ⟨ys1, H1, I1, _, _, q1⟩ := hN
      exact wpAny_bind (wpAny_rule (wpAny_pure (fin s1 H1 true I1 (fun _ => ⟨ys1, q1⟩) (fun z => by cases z))))
    | some v =>
      obtain ⟨ys1, y, H1, Nx, I1, ry, _, _, ⟨b, rfl, q⟩, wake⟩ := hN
      cases ry
      refine wpAny_bind (wpAny_holding (wpAny_truthy_bool (wpAny_bind (wpAny_letGo ?_))))
      cases b with
      | true =>
        rw [if_neg (by decide)] at q
        obtain ⟨n', h, _⟩ := wake _ q s1 ⟨rfl, I1.bare, fun _ _ _ e => e, fun b hb => by cases hb⟩ trivial rfl
        cases h
      | false =>
        rw [if_pos rfl] at q
        exact wpAny_bind (wpAny_rule (wpAny_pure (fin s1 H1 false I1 (fun z => by cases z) (fun _ => q))))
  | succ n ih =>
    intro ys s G hb
    refine codeAny_builtin E0 ?_
    rw [Around.under_plainId F.plain_all_loop]
    refine wpAny_bind (thnF (gx_next M lnkN (by simp) (by simp) (A := A.in1) hh hd G hb (fun b hb => by cases hb) trivial) fun r s1 ⟨_, hN⟩ => ?_)
    cases r with
    | none =>
      obtain ⟨ys1, H1, I1, _, _, q1⟩ := hN
      exact wpAny_bind (wpAny_rule (wpAny_pure (fin s1 H1 true I1 (fun _ => ⟨ys1, q1⟩) (fun z => by cases z))))
    | some v =>
      obtain ⟨ys1, y, H1, Nx, I1, ry, _, _, ⟨b, rfl, q⟩, wake⟩ := hN
      cases ry
      refine wpAny_bind (wpAny_holding (wpAny_truthy_bool (wpAny_bind (wpAny_letGo ?_))))
      cases b with
      | true =>
        rw [if_neg (by decide)] at q
        obtain ⟨n', h, G'⟩ := wake _ q s1 ⟨rfl, I1.bare, fun _ _ _ e => e, fun b hb => by cases hb⟩ trivial rfl
        cases h
        exact wpAny_pure ⟨plainId_quiet F.plain_all_loop _, ih _ s1 G' I1.bare⟩
      | false =>
        rw [if_pos rfl] at q
        exact wpAny_bind (wpAny_rule (wpAny_pure (fin s1 H1 false I1 (fun z => by cases z) (fun _ => q))))
theorem gx_any (M : GMk X pins σ sg Hg fp a g go) (hh : A.handled = none) (hd : A.depth < recursionLimit)
    (fin : ∀ (s' : Shared) (H : Hp) (b : Bool), Inv X pins σ H s' → (b = false → ∃ ys, Qe ys H) → (b = true → Qf H) → R (.ok (.ret (.bool b))) s') :
    ∀ (n : Nat) (ys : List V) (s : Shared), GRun (gcx X A1 sg Hg ce fp) [] (fun _ _ => True) (cyB true Qf) Qe a g go A.in1.in1 n ys s → AllBare s.gens → codeAny (model X.prog X.w) A (.builtin "any.loop" ⟨[.ref a], []⟩) R s := by
  have E0 := F.entry_any_loop
  intro n
  induction n with
  | zero =>
    intro ys s G hb
    refine codeAny_builtin E0 ?_
    rw [Around.under_plainId F.plain_any_loop]
    refine wpAny_bind (thnF (gx_next M lnkN (by simp) (by simp) (A := A.in1) hh hd G hb (fun b hb => by cases hb) trivial) fun r s1 ⟨_, hN⟩ => ?_)
    cases r with
    | none =>
      obtain ⟨ys1, H1, I1, _, _, q1⟩ := hN
      exact wpAny_bind (wpAny_rule (wpAny_pure (fin s1 H1 false I1 (fun _ => ⟨ys1, q1⟩) (fun z => by cases z))))
    | some v =>
      obtain ⟨ys1, y, H1, Nx, I1, ry, _, _, ⟨b, rfl, q⟩, wake⟩ := hN
      cases ry
      refine wpAny_bind (wpAny_holding (wpAny_truthy_bool (wpAny_bind (wpAny_letGo ?_))))
      cases b with
      | false =>
        rw [if_neg (by decide)] at q
        obtain ⟨n', h, _⟩ := wake _ q s1 ⟨rfl, I1.bare, fun _ _ _ e => e, fun b hb => by cases hb⟩ trivial rfl
        cases h
      | true =>
        rw [if_pos rfl] at q
        exact wpAny_bind (wpAny_rule (wpAny_pure (fin s1 H1 true I1 (fun z => by cases z) (fun _ => q))))
  | succ n ih =>
    intro ys s G hb
    refine codeAny_builtin E0 ?_
    rw [Around.under_plainId F.plain_any_loop]
    refine wpAny_bind (thnF (gx_next M lnkN (by simp) (by simp) (A := A.in1) hh hd G hb (fun b hb => by cases hb) trivial) fun r s1 ⟨_, hN⟩ => ?_)
    cases r with
    | none =>
      obtain ⟨ys1, H1, I1, _, _, q1⟩ := hN
      exact wpAny_bind (wpAny_rule (wpAny_pure (fin s1 H1 false I1 (fun _ => ⟨ys1, q1⟩) (fun z => by cases z))))
    | some v =>
      obtain ⟨ys1, y, H1, Nx, I1, ry, _, _, ⟨b, rfl, q⟩, wake⟩ := hN
      cases ry
      refine wpAny_bind (wpAny_holding (wpAny_truthy_bool (wpAny_bind (wpAny_letGo ?_))))
      cases b with
      | false =>
        rw [if_neg (by decide)] at q
        obtain ⟨n', h, G'⟩ := wake _ q s1 ⟨rfl, I1.bare, fun _ _ _ e => e, fun b hb => by cases hb⟩ trivial rfl
        cases h
        exact wpAny_pure ⟨plainId_quiet F.plain_any_loop _, ih _ s1 G' I1.bare⟩
      | true =>
        rw [if_pos rfl] at q
        exact wpAny_bind (wpAny_rule (wpAny_pure (fin s1 H1 true I1 (fun z => by cases z) (fun _ => q))))
theorem gx_sum (M : GMk X pins σ sg Hg fp a g go) (hh : A.handled = none) (hd : A.depth < recursionLimit) (hSa : a ∉ [S]) (hSc : cStatics ∉ [S])
    (fin : ∀ (s' : Shared) (ys : List V) (H : Hp) (t : Tok), Inv X pins σ H s' → H S = none → Qe ys H → R (.ok (.ret (.int (sumV ys) t))) s') :
    ∀ (n : Nat) (ys : List V) (s : Shared), GRun (gcx X A1 sg Hg ce fp) [S] (LkS S) cyS Qe a g go A.in1.in1 n ys s → LkS S ys s.heap → AllBare s.gens → codeAny (model X.prog X.w) A (.builtin "sum.loop" ⟨[.ref a, .ref S, rawInt 0, rawInt 0], []⟩) R s := by
  have E0 := F.entry_sum_loop
  have cwt : ∀ {ys : List V} {s : Shared}, LkS S ys s.heap → ∀ b ∈ [S], ∃ o, s.heap.get? b = some o ∧ ∀ v, o.data ≠ .cell v := fun {ys s} lk b hb => by
    obtain ⟨t, c, e⟩ := lk
    rw [List.mem_singleton.mp hb]
    exact ⟨_, e, fun v z => by cases z⟩
  have turn : ∀ (n : Nat) (ys : List V) (s : Shared), GRun (gcx X A1 sg Hg ce fp) [S] (LkS S) cyS Qe a g go A.in1.in1 n ys s → LkS S ys s.heap → AllBare s.gens →
      (∀ ys2 s2, (∃ n', n = n' + 1 ∧ GRun (gcx X A1 sg Hg ce fp) [S] (LkS S) cyS Qe a g go A.in1.in1 n' ys2 s2) → LkS S ys2 s2.heap → AllBare s2.gens → codeAny (model X.prog X.w) A (.builtin "sum.loop" ⟨[.ref a, .ref S, rawInt 0, rawInt 0], []⟩) R s2) →
      codeAny (model X.prog X.w) A (.builtin "sum.loop" ⟨[.ref a, .ref S, rawInt 0, rawInt 0], []⟩) R s := by
    intro n ys s G lk hb next
    obtain ⟨t, c, eS⟩ := id lk
    refine codeAny_builtin E0 ?_
    rw [Around.under_plainId F.plain_sum_loop]
    show wpAny _ A.in1 (seqItems? (.ref S) >>= _) _ _ s
    refine wpAny_bind (wpAny_seqItems eS rfl ?_)
    show wpAny _ A.in1 (tryCatch (pyNext (.ref a)) _ >>= _) _ _ s
    refine wpAny_bind (wpAny_tryCatch (thnF (gx_next M (lnkS S) hSa hSc (A := A.in1) hh hd G hb (cwt lk) lk) fun r s1 ⟨kc, hN⟩ => ?_))
    have eS1 := kc S (List.mem_singleton.mpr rfl) _ eS
    cases r with
    | none =>
      obtain ⟨ys1, H1, I1, n1, ⟨t1, c1, e1⟩, q1⟩ := hN
      have hd1 := congrArg Obj.data (Option.some.inj (eS1.symm.trans e1))
      simp only [Data.seq.injEq, Array.mk.injEq, List.cons.injEq, Value.int.injEq, and_true] at hd1
      rw [hd1.1.1]
      exact wpAny_pure (fin s1 ys1 H1 _ I1 (n1 S (List.mem_singleton.mpr rfl)) q1)
    | some v =>
      obtain ⟨ys1, y, H1, Nx, I1, ry, n1, ⟨t1, c1, e1⟩, ⟨z, rfl, ⟨f1, f2⟩, ⟨f3, f4⟩, hN1⟩, wake⟩ := hN
      obtain ⟨tz, rfl⟩ := ry
      have hd1 := congrArg Obj.data (Option.some.inj (eS1.symm.trans e1))
      simp only [Data.seq.injEq, Array.mk.injEq, List.cons.injEq, Value.int.injEq, and_true] at hd1
      rw [hd1.1.1]
      have hc : ((decide (-(2 ^ 63) ≤ z) && decide (z < 2 ^ 63)) && (decide (-(2 ^ 63) ≤ sumV ys1 + z) && decide (sumV ys1 + z < 2 ^ 63))) = true := by
        simp only [Bool.and_eq_true, decide_eq_true_eq]
        exact ⟨⟨f1, f2⟩, f3, f4⟩
      show wpAny _ A.in1 (if (_ : Bool) = true then (mkInt (sumV ys1 + z) >>= _) else _) _ _ _
      split
      · refine wpAny_bind (wpAny_mkInt ?_)
        show wpAny _ A.in1 (updateSeq S (fun _ => #[.int (sumV ys1 + z) s1.toks]) >>= _) _ _ _
        have o1 := Heap.get?_update_self (Obj.mapSeq (fun _ => #[Value.int (sumV ys1 + z) s1.toks])) e1 rfl
        have lk2 : LkS S (ys1 ++ [.int z]) (s1.heap.update S (Obj.mapSeq (fun _ => #[Value.int (sumV ys1 + z) s1.toks]))) := ⟨s1.toks, _, by rw [sumV_snoc]; exact o1⟩
        refine wpAny_bind (wpAny_updateSeq e1 rfl (wpAny_pure ⟨plainId_quiet F.plain_sum_loop _, ?_⟩))
        refine next (ys1 ++ [.int z]) _ (wake _ hN1 { s1 with heap := s1.heap.update S (Obj.mapSeq (fun _ => #[Value.int (sumV ys1 + z) s1.toks])), toks := s1.toks + 1 } ⟨rfl, I1.bare, fun b o hb e => (Heap.get?_update_other _ _ (fun q => hb (List.mem_singleton.mpr q.symm))).trans e, cwt lk2⟩ lk2 rfl) lk2 I1.bare
      · rename_i hneg
        exact absurd hc hneg
  intro n
  induction n with
  | zero =>
    intro ys s G lk hb
    exact turn 0 ys s G lk hb fun ys2 s2 ⟨n', h, _⟩ => by cases h
  | succ n ih =>
    intro ys s G lk hb
    refine turn (n + 1) ys s G lk hb fun ys2 s2 ⟨n', h, G'⟩ lk2 hb2 => ?_
    cases h
    exact ih ys2 s2 G' lk2 hb2
end
end GXP
namespace GXP
open PySem PySem.Spec PyProof.Rows L2
section
variable {X : Cx} {pins : List (Addr × Obj)} {σ : L2.St} {a : Addr} {A : Around} {Qe : List V → Hp → Prop} {s : Shared} {m : Nat} {E : Value → Shared → Prop}
theorem gx_collect (hG : GReady X pins σ m cyT Qe a s) (hh : A.handled = none) (hf : A.frames = some X.stack) (hd : A.depth ≤ X.A.depth + 1) (hu : A.units + 2 ≤ X.A.units + 8) (hl : A.depth < recursionLimit) {Q : List Value → Shared → Prop}
    (hQ : ∀ (items : List Value) (s' : Shared) (ys : List V) (H : Hp), Inv X pins σ H s' → Vals ys items → ys.length ≤ sizeLine → Qe ys H → Q items s') : wpAny (model X.prog X.w) A (collect (.ref a)) Q E s := by
  obtain ⟨g, go, sg, Hg, fp, ce, M, I0, ha, lim, ready⟩ := hG.ex
  have hgen := fun (h : Heap) (e : h.get? a = some go) => M.isGen h e
  have hSa : s.heap.objs.size ≠ a := fun z => by
    have := Heap.lt_size ha
    rw [← z] at this
    exact Nat.lt_irrefl _ this
  have hSc : s.heap.objs.size ≠ cStatics := fun z => by
    obtain ⟨_, hn, _⟩ := lim
    have := hn.lt
    rw [← z] at this
    exact Nat.lt_irrefl _ this
  unfold collect
  refine wpAny_bind (wpAny_runValue (codeAny_builtin F.entry_proto_collect ?_))
  rw [Around.under_plainId F.plain_proto_collect]
  show wpAny _ A.in1 (newList [] >>= fun l => again (.builtin "list.__iadd__" ⟨[l, .ref a], []⟩)) _ _ s
  refine wpAny_bind (wpAny_newObj_type (wpAny_pure ⟨plainId_quiet F.plain_list_iadd _, codeAny_builtin F.entry_list_iadd ?_⟩))
  rw [Around.under_plainId F.plain_list_iadd]
  show wpAny _ A.in1 (Builtin.List.listExtendWith (.ref s.heap.objs.size) (.ref a) (.ref s.heap.objs.size)) _ _ _
  unfold Builtin.List.listExtendWith
  have k1 : ∀ b o, s.heap.get? b = some o → (s.heap.push { cls := .type "list", data := .seq ([] : List Value).toArray }).get? b = some o := fun b o e => Heap.get?_push_of_some _ e
  refine wpAny_bind (wpAny_typeOf (Heap.IsGen.typeIs (s := { s with heap := _ }) (hgen _ (k1 _ _ ha))) ?_)
  have q1 : Builtin.List.listSameRef (.ref s.heap.objs.size) (.ref a) = false := by simp [Builtin.List.listSameRef, hSa]
  have q2 : (Value.type "generator" == Value.type "list") = false := by decide
  have q3 : (Value.type "generator" == Value.type "tuple") = false := by decide
  simp only [q1, q2, q3, Bool.or_false, Bool.false_eq_true, if_false]
  refine wpAny_bind (wpAny_pyIter_gen (s := { s with heap := _ }) (hgen _ (k1 _ _ ha)) (wpAny_bind (wpAny_holding ?_)))
  unfold Builtin.List.listLengthHint
  refine wpAny_bind (wpAny_specialOf (Heap.IsGen.typeIs (s := { s with heap := _ }) (hgen _ (k1 _ _ ha))) F.gen_no_len ?_)
  show wpAny _ A.in1 (specialOf (Value.ref a) (Str.ofString "__length_hint__") >>= _) _ _ _
  refine wpAny_bind (wpAny_specialOf (Heap.IsGen.typeIs (s := { s with heap := _ }) (hgen _ (k1 _ _ ha))) F.gen_no_hint (wpAny_pure ?_))
  show wpAny _ A.in1 (rule "list.extend.makes-room" >>= fun _ => Builtin.List.listTouch (.ref s.heap.objs.size) >>= fun _ =>
    again (.builtin "list.extend.loop" ⟨[.ref s.heap.objs.size, .ref a, .ref s.heap.objs.size], []⟩)) _ _ _
  refine wpAny_bind (wpAny_rule (wpAny_bind ?_))
  have o1 : (s.heap.push { cls := .type "list", data := .seq ([] : List Value).toArray }).get? s.heap.objs.size = some { cls := .type "list", data := .seq ([] : List Value).toArray } := Heap.get?_push_size _ rfl
  show wpAny _ A.in1 (updateSeq s.heap.objs.size (·.push .none) >>= fun _ => updateSeq s.heap.objs.size (·.pop)) _ _ _
  refine wpAny_bind (wpAny_updateSeq o1 rfl ?_)
  have o2 := Heap.get?_update_self (Obj.mapSeq (·.push Value.none)) o1 rfl
  refine wpAny_updateSeq o2 rfl (wpAny_pure ⟨plainId_quiet F.plain_extend_loop _, ?_⟩)
  have o3 := Heap.get?_update_self (Obj.mapSeq (·.pop)) o2 rfl
  have k3 : ∀ b o, s.heap.get? b = some o → (((s.heap.push { cls := .type "list", data := .seq ([] : List Value).toArray }).update s.heap.objs.size (Obj.mapSeq (·.push Value.none))).update s.heap.objs.size (Obj.mapSeq (·.pop))).get? b = some o := fun b o e =>
    have hb : s.heap.objs.size ≠ b := fun z => Nat.lt_irrefl b (by have := Heap.lt_size e; rw [z] at this; exact this)
    (Heap.get?_update_other _ _ hb).trans ((Heap.get?_update_other _ _ hb).trans (k1 b o e))
  have lk0 : LkT s.heap.objs.size [] (((s.heap.push { cls := .type "list", data := .seq ([] : List Value).toArray }).update s.heap.objs.size (Obj.mapSeq (·.push Value.none))).update s.heap.objs.size (Obj.mapSeq (·.pop))) := ⟨_, _, o3, .nil, Nat.zero_le _⟩
  have G := ready [s.heap.objs.size] (LkT s.heap.objs.size) A.in1.in1 { s with heap := ((s.heap.push { cls := .type "list", data := .seq ([] : List Value).toArray }).update s.heap.objs.size (Obj.mapSeq (·.push Value.none))).update s.heap.objs.size (Obj.mapSeq (·.pop)) } (lnkT _) hh hf hd hu
    (fun b hb => by rw [List.mem_singleton.mp hb]; exact Nat.le_refl _) k3 (fun b hb => by rw [List.mem_singleton.mp hb]; exact ⟨_, o3, fun v z => by cases z⟩) rfl rfl lk0
  refine gx_drain M hh hl (fun hm => hSa (List.mem_singleton.mp hm).symm) (fun hm => hSc (List.mem_singleton.mp hm).symm) (fun s' ys H acc c I' n' e' r' z' q' => ?_) m [] _ G lk0 I0.bare
  show wpAny _ A (load s.heap.objs.size >>= _) _ _ s'
  exact wpAny_bind (wpAny_load e' (wpAny_pure (hQ acc.toList s' ys H I' r' z' q')))
theorem call_tuple_gx (hr : Room 1 X.A) (hf : X.A.frames = some X.stack) {Q : VK} (hG : GReady X pins σ m cyT (fun ys H => ∀ p, H p = none → Q (.ref p) (upd H p (.tup ys))) a s) :
    wpAny (model X.prog X.w) X.A (call (.type "tuple") [.ref a]) (EP X pins σ Q) E s := by
  obtain ⟨g, go, sg, Hg, fp, ce, M, I0, ha, lim, ready⟩ := id hG.ex
  have hTI : s.TypeIs (.ref a) "generator" := (M.isGen _ ha).typeIs
  refine callType_codes (Q₁ := fun obj s1 => s1.TypeIs obj "tuple" ∧ EP X pins σ Q obj s1) F.called_tuple (F.typeCall_tuple_1 _) F.entry_object_init (codeAny_of_tree ?_) fun obj s1 h1 =>
    ⟨h1.1, F.args_object_init_2 obj _, object_init_meets F.called_tuple.init.lookup F.called_tuple.made (by decide) X.prog X.w X.A.in1 _ s1 ⟨h1.1, rfl, h1.2⟩⟩
  show wpAny _ X.A.in1.in1 (do checkBuiltinCall "tuple.__new__" ⟨[.type "tuple", .ref a], []⟩; again (.builtin "tuple.__new__" ⟨[.type "tuple", .ref a], []⟩)) _ _ s
  refine wpAny_bind (wpAny_of_eq (F.newCall_tuple_1 _) (wpAny_pure ⟨plainId_quiet F.plain_tuple_new _, codeAny_builtin F.entry_tuple_new ?_⟩))
  rw [Around.under_plainId F.plain_tuple_new]
  have hsub := sub_tuple_self
  have hinit := init_tuple_lookup
  have hmh := madeHere_tuple
  have hr1 := hr.dp
  have hr2 := hr.hd
  have col := fun (Q : List Value → Shared → Prop) (E : Value → Shared → Prop) hQ => gx_collect (A := X.A.in1.in1) (E := E) (Q := Q) hG hr2 hf (Nat.le_succ _) (by show X.A.units + 1 + 1 + 2 ≤ _; omega) (by show X.A.depth < _; omega) hQ
  wp_walk using wpAny_typeOf hTI, col
  intro items s' ys H I' r' z' q'
  show wpAny _ _ (Builtin.Tuple.tupleExact items.toArray >>= fun v => ret v) _ _ _
  unfold Builtin.Tuple.tupleExact
  refine wpAny_bind (wpAny_newObj_type (wpAny_pure ?_) ?_)
  · have hn : H s'.heap.objs.size = none := I'.hok.fresh (Nat.le_refl _)
    refine ⟨⟨_, Heap.get?_push_size _ rfl, rfl⟩, .ref s'.heap.objs.size, _, I'.laid (t' := s'.toks) (o := .tup ys) (fun b o e => Heap.get?_push_of_some _ e) (Nat.le_refl _) ⟨z', items, r', ?_⟩, rfl, q' _ hn⟩
    exact ⟨_, Heap.get?_push_size _ rfl, rfl, 0, rfl⟩
  · show items.toArray.size ≤ sizeLine
    rw [List.size_toArray, ← r'.length]
    exact z'
theorem call_all_gx (hr : Room 1 X.A) (hf : X.A.frames = some X.stack) {Q : VK} (hG : GReady X pins σ m (cyB false (Q (.bl false))) (fun _ H => Q (.bl true) H) a s) :
    wpAny (model X.prog X.w) X.A (call (.builtin "all") [.ref a]) (EP X pins σ Q) E s := by
  obtain ⟨g, go, sg, Hg, fp, ce, M, I0, ha, lim, ready⟩ := id hG.ex
  have hr1 := hr.dp
  refine call_function_tree F.kind_all F.plain_all F.entry_all (F.args_all1 _) ?_
  unfold Builtin.«all»
  refine wpAny_bind (m := oneArg "all" _) (wpAny_pure (wpAny_bind (wpAny_pyIter_gen (M.isGen _ ha) (wpAny_pure ⟨plainId_quiet F.plain_all_loop _, ?_⟩))))
  have G := ready [] (fun _ _ => True) X.A.in1.in1 s lnkN hr.hd hf (Nat.le_succ _) (by show X.A.units + 1 + 1 ≤ _; omega) (fun b hb => by cases hb) (fun _ _ e => e) (fun b hb => by cases hb) rfl rfl trivial
  refine gx_all M hr.hd (by omega) (fun s' H b I' h1 h2 => ?_) m [] s G I0.bare
  cases b with
  | true =>
    obtain ⟨_, q⟩ := h1 rfl
    exact ⟨.bl true, H, I', rfl, q⟩
  | false => exact ⟨.bl false, H, I', rfl, h2 rfl⟩
theorem call_any_gx (hr : Room 1 X.A) (hf : X.A.frames = some X.stack) {Q : VK} (hG : GReady X pins σ m (cyB true (Q (.bl true))) (fun _ H => Q (.bl false) H) a s) :
    wpAny (model X.prog X.w) X.A (call (.builtin "any") [.ref a]) (EP X pins σ Q) E s := by
  obtain ⟨g, go, sg, Hg, fp, ce, M, I0, ha, lim, ready⟩ := id hG.ex
  have hr1 := hr.dp
  refine call_function_tree F.kind_any F.plain_any F.entry_any (F.args_any1 _) ?_
  unfold Builtin.«any»
  refine wpAny_bind (m := oneArg "any" _) (wpAny_pure (wpAny_bind (wpAny_pyIter_gen (M.isGen _ ha) (wpAny_pure ⟨plainId_quiet F.plain_any_loop _, ?_⟩))))
  have G := ready [] (fun _ _ => True) X.A.in1.in1 s lnkN hr.hd hf (Nat.le_succ _) (by show X.A.units + 1 + 1 ≤ _; omega) (fun b hb => by cases hb) (fun _ _ e => e) (fun b hb => by cases hb) rfl rfl trivial
  refine gx_any M hr.hd (by omega) (fun s' H b I' h1 h2 => ?_) m [] s G I0.bare
  cases b with
  | false =>
    obtain ⟨_, q⟩ := h1 rfl
    exact ⟨.bl false, H, I', rfl, q⟩
  | true => exact ⟨.bl true, H, I', rfl, h2 rfl⟩
theorem call_sum_gx (hr : Room 1 X.A) (hf : X.A.frames = some X.stack) {Q : VK} (hG : GReady X pins σ m cyS (fun ys H => Q (.int (sumV ys)) H) a s) :
    wpAny (model X.prog X.w) X.A (call (.builtin "sum") [.ref a]) (EP X pins σ Q) E s := by
  obtain ⟨g, go, sg, Hg, fp, ce, M, I0, ha, lim, ready⟩ := id hG.ex
  have hr1 := hr.dp
  have hSa : s.heap.objs.size ≠ a := fun z => by
    have := Heap.lt_size ha
    rw [← z] at this
    exact Nat.lt_irrefl _ this
  have hSc : s.heap.objs.size ≠ cStatics := fun z => by
    obtain ⟨_, hn, _⟩ := lim
    have := hn.lt
    rw [← z] at this
    exact Nat.lt_irrefl _ this
  refine call_function_tree F.kind_sum F.plain_sum F.entry_sum (F.args_sum1 _) ?_
  unfold Builtin.«sum»
  simp only [List.length_cons, List.length_nil]; rw [if_neg (by decide)]
  refine wpAny_bind (wpAny_of_eq (show Builtin.Builtins.bindParams "sum" ["start"] 0 { } = pure [none] from rfl) (wpAny_bind (wpAny_pyIter_gen (M.isGen _ ha) (wpAny_bind (wpAny_mkInt (wpAny_bind (wpAny_pure ?_)))))))
  simp only [List.forIn_cons, List.forIn_nil]; refine wpAny_bind (wpAny_bind (wpAny_bind (wpAny_isInstance (T := "int") (b := false) (typeIs_int _ _ _) PySem.sub_int_str ?_)))
  simp only [Bool.false_eq_true, if_false]; refine wpAny_pure (wpAny_bind (wpAny_bind (wpAny_isInstance (T := "int") (b := false) (typeIs_int _ _ _) sub_int_bytes ?_)))
  simp only [Bool.false_eq_true, if_false]; refine wpAny_pure (wpAny_bind (wpAny_bind (wpAny_isInstance (T := "int") (b := false) (typeIs_int _ _ _) sub_int_bytearray ?_)))
  simp only [Bool.false_eq_true, if_false]; refine wpAny_pure (wpAny_pure (wpAny_bind (wpAny_newObj_type (wpAny_pure ⟨plainId_quiet F.plain_sum_loop _, ?_⟩))))
  have o1 : (s.heap.push { cls := .type "list", data := .seq ([.int 0 s.toks] : List Value).toArray }).get? s.heap.objs.size = some { cls := .type "list", data := .seq ([.int 0 s.toks] : List Value).toArray } := Heap.get?_push_size _ rfl
  have lk0 : LkS s.heap.objs.size [] (s.heap.push { cls := .type "list", data := .seq ([.int 0 s.toks] : List Value).toArray }) := ⟨s.toks, 0, o1⟩
  have G := ready [s.heap.objs.size] (LkS s.heap.objs.size) X.A.in1.in1 { s with heap := s.heap.push { cls := .type "list", data := .seq ([.int 0 s.toks] : List Value).toArray }, toks := s.toks + 1 } (lnkS _) hr.hd hf (Nat.le_succ _) (by show X.A.units + 1 + 1 ≤ _; omega)
    (fun b hb => by rw [List.mem_singleton.mp hb]; exact Nat.le_refl _) (fun b o e => Heap.get?_push_of_some _ e) (fun b hb => by rw [List.mem_singleton.mp hb]; exact ⟨_, o1, fun v z => by cases z⟩) rfl rfl lk0
  refine gx_sum M hr.hd (by omega) (fun hm => hSa (List.mem_singleton.mp hm).symm) (fun hm => hSc (List.mem_singleton.mp hm).symm) (fun s' ys H t I' n' q' => ?_) m [] _ G lk0 I0.bare
  exact ⟨.int (sumV ys), H, I', ⟨t, rfl⟩, q'⟩
end
end GXP
namespace GXP
open PySem PySem.Spec PyProof.Rows L2
/-- F(elt for target in iter if ..): what its reading asks; P the table of the def's code object -/
def tGx (P : Addr) (wi : TI) (g : TG) (tt : TT) (te : TE) (vs : List Nat) (cy : VK → Cy) (Qe : VK → List V → Hp → Prop) : TE := fun σ H Q =>
  wi σ H fun J H1 => GxR.TabG H1 P ∧ ∀ H2, GxR.Tabbed P H1 H2 → ∃ W m, W 0 m [] H2 ∧ Turns J g tt te vs σ (cy Q) (Qe Q) W
section
variable {X : Cx} {c P : Addr} {elt iter tg : Expr} {ifs : List Expr} {scope : Scope} {p pos gpos : Pos} {own : List (Str × Nat)} {wi : TI} {g : TG} {tt : TT} {te : TE} {k : Nat}
/-- what is asked of the expression itself -/
structure GxOk (X : Cx) (k : Nat) (c P : Addr) (elt tg iter : Expr) (ifs : List Expr) (scope : Scope) (own : List (Str × Nat)) (wi : TI) (g : TG) (tt : TT) (te : TE) : Prop where
  hr : Room (k + 1) X.A
  hc : X.calm = true
  tb : LamX.TabB X.base X.mg c P
  code : X.env.code = .ref c
  co : scope.isCoroutine = false
  ok : BlkOk X.N X.env.scope scope own
  nd : X.N.Nodup
  nocell : ∀ y ∈ scope.names, y.2 ≠ .cell
  dot : scope.names.lookup (".0" : Str) = some NameKind.local
  pi : PI X tg iter wi
  pg : ∀ (A : Around) (s : Shared) (H : Hp) (C : Addr) (cl : List (Str × Addr)) (code : Value) (bi : Addr) (fp : List Addr), Room k A → PG (gcx X A s H (genEnv scope cl C code bi X.env) fp) tg g
  pt : ∀ (A : Around) (s : Shared) (H : Hp) (C : Addr) (cl : List (Str × Addr)) (code : Value) (bi : Addr) (fp : List Addr), Room k A → PTs (gcx X A s H (genEnv scope cl C code bi X.env) fp) ifs tt
  pe : ∀ (A : Around) (s : Shared) (H : Hp) (C : Addr) (cl : List (Str × Addr)) (code : Value) (bi : Addr) (fp : List Addr), Room k A → PE (gcx X A s H (genEnv scope cl C code bi X.env) fp) elt te
  fold : ∀ v, genFold iter X.env v = pure v
theorem GxOk.make (G : GxOk X k c P elt tg iter ifs scope own wi g tt te) {cy : Cy} {Qe : List V → Hp → Prop} {pins : List (Addr × Obj)} {s : Shared} {σ : L2.St} {H : Hp} (I : Inv X pins σ H s)
    (h : wi σ H fun J H1 => GxR.TabG H1 P ∧ ∀ H2, GxR.Tabbed P H1 H2 → ∃ W m, W 0 m [] H2 ∧ Turns J g tt te (own.map (·.2)) σ cy Qe W) :
    wpAny (model X.prog X.w) X.A (eval (gxE elt tg iter ifs scope gpos) X.env) (fun u s' => ∃ a m, u = .ref a ∧ GReady X pins σ m cy Qe a s') X.xe s :=
  gx_make G.hr G.tb G.code G.co G.ok G.nd G.nocell G.dot G.pi G.pg G.pt G.pe G.fold I h
theorem pe_tupleGx (hg : Gl X "tuple") (hm : X.mg "tuple" = none) (G : GxOk X k c P elt tg iter ifs scope own wi g tt te)
    (he : starEach [gxE elt tg iter ifs scope gpos] X.env = (false, eval (gxE elt tg iter ifs scope gpos) X.env) :: starEach [] X.env := by rfl) :
    PE X (.Call (.Name "tuple" p) [gxE elt tg iter ifs scope gpos] [] pos) (tGx P wi g tt te (own.map (·.2)) (fun _ => cyT) fun Q ys H => ∀ p, H p = none → Q (.ref p) (upd H p (.tup ys))) := by
  refine ⟨fun pins s σ H Q I h => ?_⟩
  refine wpAny_Call_Name_kw (ld_blt I hg hm (by decide +kernel : bootBuiltins "tuple" = some (.type "tuple")) (PyProof.Rows.callWith_type1 ?_ he (by rfl)))
  rw [he]
  show wpAny _ _ (spliced ((false, eval (gxE elt tg iter ifs scope gpos) X.env) :: backTo pos (starEach [] X.env))) _ _ s
  exact Calls.spliced_cons (thn (G.make I h) fun u s1 ⟨a, m, e, hG⟩ => e ▸ Calls.spliced_nil (call_tuple_gx (G.hr.mono (by omega)) I.ok.frames hG))
theorem pe_allGx (hg : Gl X "all") (hm : X.mg "all" = none) (G : GxOk X k c P elt tg iter ifs scope own wi g tt te)
    (he : starEach [gxE elt tg iter ifs scope gpos] X.env = (false, eval (gxE elt tg iter ifs scope gpos) X.env) :: starEach [] X.env := by rfl) :
    PE X (.Call (.Name "all" p) [gxE elt tg iter ifs scope gpos] [] pos) (tGx P wi g tt te (own.map (·.2)) (fun Q => cyB false (Q (.bl false))) fun Q _ H => Q (.bl true) H) := by
  refine ⟨fun pins s σ H Q I h => ?_⟩
  refine wpAny_Call_Name_kw (ld_blt I hg hm (by decide +kernel : bootBuiltins "all" = some (.builtin "all")) (PyProof.Rows.callWith_builtin1 ?_ he (by rfl)))
  rw [he]
  show wpAny _ _ (spliced ((false, eval (gxE elt tg iter ifs scope gpos) X.env) :: backTo pos (starEach [] X.env))) _ _ s
  exact Calls.spliced_cons (thn (G.make I h) fun u s1 ⟨a, m, e, hG⟩ => e ▸ Calls.spliced_nil (call_all_gx (G.hr.mono (by omega)) I.ok.frames hG))
theorem pe_anyGx (hg : Gl X "any") (hm : X.mg "any" = none) (G : GxOk X k c P elt tg iter ifs scope own wi g tt te)
    (he : starEach [gxE elt tg iter ifs scope gpos] X.env = (false, eval (gxE elt tg iter ifs scope gpos) X.env) :: starEach [] X.env := by rfl) :
    PE X (.Call (.Name "any" p) [gxE elt tg iter ifs scope gpos] [] pos) (tGx P wi g tt te (own.map (·.2)) (fun Q => cyB true (Q (.bl true))) fun Q _ H => Q (.bl false) H) := by
  refine ⟨fun pins s σ H Q I h => ?_⟩
  refine wpAny_Call_Name_kw (ld_blt I hg hm (by decide +kernel : bootBuiltins "any" = some (.builtin "any")) (PyProof.Rows.callWith_builtin1 ?_ he (by rfl)))
  rw [he]
  show wpAny _ _ (spliced ((false, eval (gxE elt tg iter ifs scope gpos) X.env) :: backTo pos (starEach [] X.env))) _ _ s
  exact Calls.spliced_cons (thn (G.make I h) fun u s1 ⟨a, m, e, hG⟩ => e ▸ Calls.spliced_nil (call_any_gx (G.hr.mono (by omega)) I.ok.frames hG))
theorem pe_sumGx (hg : Gl X "sum") (hm : X.mg "sum" = none) (G : GxOk X k c P elt tg iter ifs scope own wi g tt te)
    (he : starEach [gxE elt tg iter ifs scope gpos] X.env = (false, eval (gxE elt tg iter ifs scope gpos) X.env) :: starEach [] X.env := by rfl) :
    PE X (.Call (.Name "sum" p) [gxE elt tg iter ifs scope gpos] [] pos) (tGx P wi g tt te (own.map (·.2)) (fun _ => cyS) fun Q ys H => Q (.int (sumV ys)) H) := by
  refine ⟨fun pins s σ H Q I h => ?_⟩
  refine wpAny_Call_Name_kw (ld_blt I hg hm (by decide +kernel : bootBuiltins "sum" = some (.builtin "sum")) (PyProof.Rows.callWith_builtin1 ?_ he (by rfl)))
  rw [he]
  show wpAny _ _ (spliced ((false, eval (gxE elt tg iter ifs scope gpos) X.env) :: backTo pos (starEach [] X.env))) _ _ s
  exact Calls.spliced_cons (thn (G.make I h) fun u s1 ⟨a, m, e, hG⟩ => e ▸ Calls.spliced_nil (call_sum_gx (G.hr.mono (by omega)) I.ok.frames hG))
end
/-! readings over a list, a tuple, a range: an invariant by the turn, the items so far, the heap -/
section
variable {K : PySem.W.Frag} {a : Addr} {xs : List V} {g : TG} {tt : TT} {te : TE} {vs : List Nat} {σ : L2.St} {cy : Cy} {Qe : List V → Hp → Prop} {H0 : Hp}
theorem gx_tup (Pv : Nat → List V → Hp → Prop) (h0 : Pv 0 [] H0) (hl : ∀ i ys H, i ≤ xs.length → Pv i ys H → SqT K H a xs)
    (hs : ∀ i x ys H, xs[i]? = some x → Pv i ys H → g x (wipe σ vs) H fun σ2 H2 => wipe σ2 vs = wipe σ vs ∧ tt σ2 H2 fun b H3 => if b = true then te σ2 H3 fun y H4 => cy ys y H4 (Pv (i + 1)) else Pv (i + 1) ys H3)
    (hd : ∀ ys H, Pv xs.length ys H → Qe ys H) : ∃ W m, W 0 m [] H0 ∧ Turns (Itt K a) g tt te vs σ cy Qe W := by
  refine ⟨fun i m ys H => m = xs.length - i ∧ i ≤ xs.length ∧ Pv i ys H, xs.length, ⟨rfl, Nat.zero_le _, h0⟩, ?_⟩
  rintro i m ys H ⟨rfl, hi, p⟩
  have q := hl i ys H hi p
  by_cases hlt : i < xs.length
  · refine .inr ⟨⟨xs, _, q, List.getElem?_eq_getElem hlt⟩, by omega, Pv (i + 1), fun ys' H' p' => ⟨_, by omega, rfl, hlt, p'⟩, fun x H' y => ?_⟩
    obtain ⟨rfl, y⟩ := y
    exact hs i x ys _ (y xs q) p
  · have e : i = xs.length := by omega
    subst e
    exact .inl ⟨⟨xs, q, Nat.le_refl _⟩, hd ys H p⟩
theorem gx_list (Pv : Nat → List V → Hp → Prop) (h0 : Pv 0 [] H0) (hl : ∀ i ys H, i ≤ xs.length → Pv i ys H → SqL K H a xs)
    (hs : ∀ i x ys H, xs[i]? = some x → Pv i ys H → g x (wipe σ vs) H fun σ2 H2 => wipe σ2 vs = wipe σ vs ∧ tt σ2 H2 fun b H3 => if b = true then te σ2 H3 fun y H4 => cy ys y H4 (Pv (i + 1)) else Pv (i + 1) ys H3)
    (hd : ∀ ys H, Pv xs.length ys H → Qe ys H) : ∃ W m, W 0 m [] H0 ∧ Turns (Itl K a) g tt te vs σ cy Qe W := by
  refine ⟨fun i m ys H => m = xs.length - i ∧ i ≤ xs.length ∧ Pv i ys H, xs.length, ⟨rfl, Nat.zero_le _, h0⟩, ?_⟩
  rintro i m ys H ⟨rfl, hi, p⟩
  have q := hl i ys H hi p
  by_cases hlt : i < xs.length
  · refine .inr ⟨⟨xs, _, q, List.getElem?_eq_getElem hlt⟩, by omega, Pv (i + 1), fun ys' H' p' => ⟨_, by omega, rfl, hlt, p'⟩, fun x H' y => ?_⟩
    obtain ⟨rfl, y⟩ := y
    exact hs i x ys _ (y xs q) p
  · have e : i = xs.length := by omega
    subst e
    exact .inl ⟨⟨xs, q, Nat.le_refl _⟩, hd ys H p⟩
theorem gx_range {lo : Int} {n : Nat} (Pv : Nat → List V → Hp → Prop) (h0 : Pv 0 [] H0)
    (hs : ∀ i ys H, i < n → Pv i ys H → g (.int (lo + i)) (wipe σ vs) H fun σ2 H2 => wipe σ2 vs = wipe σ vs ∧ tt σ2 H2 fun b H3 => if b = true then te σ2 H3 fun y H4 => cy ys y H4 (Pv (i + 1)) else Pv (i + 1) ys H3)
    (hd : ∀ ys H, Pv n ys H → Qe ys H) : ∃ W m, W 0 m [] H0 ∧ Turns (Itr lo n) g tt te vs σ cy Qe W := by
  refine ⟨fun i m ys H => m = n - i ∧ i ≤ n ∧ Pv i ys H, n, ⟨rfl, Nat.zero_le _, h0⟩, ?_⟩
  rintro i m ys H ⟨rfl, hi, p⟩
  by_cases hlt : i < n
  · refine .inr ⟨hlt, by omega, Pv (i + 1), fun ys' H' p' => ⟨_, by omega, rfl, hlt, p'⟩, fun x H' y => ?_⟩
    obtain ⟨rfl, rfl⟩ := y
    exact hs i ys _ hlt p
  · have e : i = n := by omega
    subst e
    exact .inl ⟨Nat.le_refl _, hd ys H p⟩
end
end GXP
/-! ### sorted(d) of a dict whose keys are pairs of ints, any number of them -/
namespace SDT
open PySem PySem.Spec PyProof.Rows L2
def keyAt (H : Hp) (b : Addr) : Int × Int := match H b with
  | some (.tup [.int i, .int j]) => (i, j)
  | _ => (0, 0)
def keyOf (H : Hp) (v : Value) : Int × Int := match v with
  | .ref b => keyAt H b
  | _ => (0, 0)
theorem keyAt_of {H : Hp} {b : Addr} {i j : Int} (e : H b = some (.tup [.int i, .int j])) : keyAt H b = (i, j) := by
  unfold keyAt
  rw [e]
def pairKey (k : Int × Int) : List Key := [Sum.inl k.1, Sum.inl k.2]
/-- b holds the pair k -/
abbrev PairAt (H : Hp) (k : Int × Int) (b : Addr) : Prop := H b = some (.tup [.int k.1, .int k.2])
def rSortedDT : List V → Hp → VK → Prop := fun vs H Q => ∃ (d : Addr) (kvs : List (List Key × V)) (ks : List (Int × Int)), vs = [V.ref d] ∧ Rd H d (.dT kvs) ∧ kvs.map (·.1) = ks.map pairKey ∧
  ∀ (ys : List (Int × Int)) (bs : List Addr) (p : Addr), ys.Perm ks → ys.Pairwise (fun x y => SrtO.lexB y x = false) → Paired (PairAt H) ys bs → H p = none → Q (.ref p) (upd H p (.lst (bs.map V.ref)))
theorem paired_keys {H : Hp} : ∀ {kvs : List (List Key × V)} {xs : List (List Key × Addr × Value)} {ks : List (Int × Int)}, KT H kvs xs → kvs.map (·.1) = ks.map pairKey → (∀ x ∈ xs, ∃ k : Int × Int, PairAt H k x.2.1) ∧ xs.map (fun x => keyAt H x.2.1) = ks
  | _, _, [], .nil, _ => ⟨fun x m => absurd m List.not_mem_nil, rfl⟩
  | _, _, _ :: _, .nil, e => by cases e
  | _, _, [], .cons _ _, e => by cases e
  | _, _, k :: ks, .cons h t, e => by
    obtain ⟨e1, e2⟩ := List.cons.inj e
    obtain ⟨h1, h2, _⟩ := h
    dsimp only at e1
    rw [e1] at h2
    have q : PairAt H k _ := h2
    obtain ⟨r1, r2⟩ := paired_keys t e2
    refine ⟨fun x m => ?_, ?_⟩
    · rcases List.mem_cons.mp m with rfl | m
      · exact ⟨k, q⟩
      · exact r1 x m
    · rw [List.map_cons, keyAt_of q, r2]
theorem paired_of {H : Hp} : ∀ {bs : List Addr}, (∀ b ∈ bs, ∃ k : Int × Int, PairAt H k b) → Paired (PairAt H) (bs.map (keyAt H)) bs
  | [], _ => .nil
  | b :: bs, h => by
    refine .cons ?_ (paired_of fun x m => h x (List.mem_cons_of_mem _ m))
    obtain ⟨k, e⟩ := h b List.mem_cons_self
    rw [keyAt_of e]
    exact e
theorem refs_of : ∀ {us : List Value}, (∀ u ∈ us, ∃ a, u = Value.ref a) → ∃ bs : List Addr, us = bs.map Value.ref
  | [], _ => ⟨[], rfl⟩
  | u :: us, h => by
    obtain ⟨bs, e⟩ := refs_of (us := us) fun x m => h x (List.mem_cons_of_mem _ m)
    obtain ⟨a, e2⟩ := h u List.mem_cons_self
    exact ⟨a :: bs, by rw [e, e2]; rfl⟩
section
variable {X : Cx}
theorem cr_sortedDT (hc : X.calm = true) : CallR X (.builtin "sorted") rSortedDT := by
  intro pins s σ H xs us Q I r h
  obtain ⟨d, kvs, ks, rfl, hd, hks, q⟩ := h
  obtain ⟨u, rfl, rx⟩ := vals1 r
  cases rx
  obtain ⟨z, hs, ps, pr, o, es, ep, ho, hx, hdt, he, hn⟩ := (show ObjOk X.prog X.w H s.heap d (.dT kvs) from hd.ok I.hok)
  have l1 : es.size = ps.length := size_of_entries he
  have l2 : kvs.length = ps.length := Paired.length pr
  obtain ⟨pk, ek⟩ := paired_keys pr hks
  refine Calls.call_function_entry PyProof.Rows.kind_sorted PyProof.Rows.plain_sorted PyProof.Rows.entry_sorted (PyProof.Rows.args_sorted1 _) ?_
  unfold Builtin.«sorted»
  refine wpAny_bind (m := checkCount "sorted" 1 1 _) (wpAny_pure ?_)
  refine wpAny_bind (PySem.W.kdu_collect (A := X.A.in1) (kdl_raw hs hx hdt) (I.ok.hd hc) ho (by omega) fun h' tk acc hk it => ?_)
  have ea : acc.toList = ps.map fun x => Value.ref x.2.1 := by
    have hl : acc.toList.length = ps.length := by rw [Array.length_toList, it.1]; exact l1
    apply List.ext_getElem?
    intro j
    rw [List.getElem?_map]
    cases hj : acc.toList[j]? with
    | none =>
      have h1 := List.getElem?_eq_none_iff.mp hj
      rw [List.getElem?_eq_none (by omega)]
      all_goals rfl
    | some v =>
      obtain ⟨en, hen, hv⟩ := it.2 j v (by rw [← Array.getElem?_toList]; exact hj)
      have qe := entry_at he j
      rw [hen] at qe
      cases hb : ps[j]? with
      | none =>
        rw [hb] at qe
        exact nomatch (show some en = none from qe)
      | some b =>
        rw [hb] at qe
        have e2 : en = entryOfKey (tupleKind (mixKind X.prog X.w)) b := Option.some.inj qe
        rw [hv, e2]
        all_goals rfl
  have hal : acc.toList.length = ps.length := by rw [ea, List.length_map]
  have I1 : Inv X pins σ H { s with heap := h', toks := tk } := I.kept hk
  refine wpAny_bind (wpAny_newList ?_ (by rw [hal]; omega))
  have hoL : (h'.push (seqObj "list" acc.toList.toArray 0)).get? h'.objs.size = some (seqObj "list" acc.toList.toArray 0) := Heap.get?_push_size _ rfl
  show wpAny _ _ _ _ _ { s with heap := h'.push (seqObj "list" acc.toList.toArray 0), toks := tk }
  have pair : ∀ v ∈ acc.toList, Srt.IsPair (h'.push (seqObj "list" acc.toList.toArray 0)) v (keyOf H v).1 (keyOf H v).2 := fun v m => by
    rw [ea] at m
    obtain ⟨x, hm, rfl⟩ := List.mem_map.mp m
    obtain ⟨k, hk2⟩ := pk x hm
    obtain ⟨_, its2, r2, o2, ho2, hc2, n2, hd2⟩ := I1.hok _ _ hk2
    obtain ⟨u1, u2, rfl, ri, rj⟩ := vals2 r2
    obtain ⟨t1, rfl⟩ := ri
    obtain ⟨t2, rfl⟩ := rj
    have e : keyOf H (Value.ref x.2.1) = k := keyAt_of hk2
    rw [e]
    exact ⟨x.2.1, o2, t1, t2, n2, rfl, Heap.get?_push_of_some _ ho2, hc2, hd2⟩
  refine wpAny_bind (wpAny_holding (wpAny_call_entry PyProof.Rows.slot_list_sort ⟨_, hoL, rfl⟩ PyProof.Rows.entry_list_sort
    (SrtO.list_sort_ord (s := { s with heap := h'.push (seqObj "list" acc.toList.toArray 0), toks := tk }) (SrtO.swo_lex (keyOf H)) hoL (by rw [hal]; omega)
      (fun h2 => SrtO.pairs_sortableO (by omega) pair fun o1 e c => ?_) fun out h1 h2 => ⟨_, rfl, ?_⟩)
    (PyProof.Rows.args_list_sort _)))
  · have e' : some o1 = some (seqObj "list" acc.toList.toArray 0) := e.symm.trans hoL
    cases e'
    exact absurd (Value.type.inj c) (by decide)
  obtain ⟨e', he'⟩ := PyProof.Rows.sortedHeap_at (vs := acc.toList) (out := out.toArray) hoL
  have hm : ∀ u ∈ out, ∃ x ∈ ps, u = Value.ref x.2.1 := fun u hu => by
    have := h2.perm.mem_iff.mp hu
    rw [ea] at this
    obtain ⟨x, hx, e⟩ := List.mem_map.mp this
    exact ⟨x, hx, e.symm⟩
  obtain ⟨bs, rfl⟩ := refs_of (us := out) fun u hu => by
    obtain ⟨x, _, e⟩ := hm u hu
    exact ⟨_, e⟩
  have hb : ∀ b ∈ bs, ∃ k : Int × Int, PairAt H k b := fun b hb => by
    obtain ⟨x, hx, e⟩ := hm _ (List.mem_map.mpr ⟨b, hb, rfl⟩)
    cases e
    exact pk x hx
  have ev : (bs.map Value.ref).map (keyOf H) = bs.map (keyAt H) := by
    rw [List.map_map]
    rfl
  have hp : (bs.map (keyAt H)).Perm ks := by
    have := h2.perm.map (keyOf H)
    rw [ev, ea, List.map_map] at this
    rw [← ek]
    exact this
  have hsr : (bs.map (keyAt H)).Pairwise fun x y => SrtO.lexB y x = false := by
    rw [← ev]
    exact SrtO.srtd_map (f := keyOf H) (lt := SrtO.lexB) h1
  have hlen : (bs.map V.ref).length ≤ sizeLine := by
    have := h2.perm.length_eq
    rw [List.length_map] at this
    rw [List.length_map]
    omega
  refine wpAny_pure ⟨_, rfl, .ref h'.objs.size, upd H h'.objs.size (.lst (bs.map V.ref)), I1.laid (t' := tk) (fun b u e => ?_) (Nat.le_refl _)
    (show ObjOk X.prog X.w _ _ _ (.lst (bs.map V.ref)) from ⟨hlen, bs.map Value.ref, e', vals_refs bs, he'⟩), rfl, q _ bs _ hp hsr (paired_of hb) (I1.hok.fresh (Nat.le_refl _))⟩
  have hb : b < h'.objs.size := Heap.lt_size e
  rw [PyProof.Rows.sortedHeap_old (Nat.ne_of_lt hb) (by rw [size_push']; exact Nat.lt_succ_of_lt hb)]
  exact Heap.get?_push_of_some _ e
end
end SDT
namespace PM
/-- terms: the pair of exponents and the coefficient -/
abbrev Ex := Int × Int
abbrev Trm := Ex × Int
def ltE (p q : Ex) : Prop := p.1 < q.1 ∨ (p.1 = q.1 ∧ p.2 < q.2)
instance (p q : Ex) : Decidable (ltE p q) := by
  unfold ltE
  exact inferInstance
theorem ltE_trans {p q r : Ex} (h : ltE p q) (k : ltE q r) : ltE p r := by
  unfold ltE at *
  omega
theorem ltE_irr {p : Ex} : ¬ ltE p p := by
  unfold ltE
  omega
theorem ltE_ne {p q : Ex} (h : ltE p q) : p ≠ q := fun e => by
  subst e
  exact ltE_irr h
theorem ltE_or {p q : Ex} (h : ¬ ltE p q) (k : p ≠ q) : ltE q p := by
  unfold ltE at *
  have k : ¬ (p.1 = q.1 ∧ p.2 = q.2) := fun z => k (Prod.ext z.1 z.2)
  omega
/-- the value of a list of terms under a weighing of the exponents -/
def lin (f : Ex → Int) : List Trm → Int
  | [] => 0
  | t :: r => t.2 * f t.1 + lin f r
def Eqv (p q : List Trm) : Prop := ∀ f, lin f p = lin f q
theorem Eqv.refl (p : List Trm) : Eqv p p := fun _ => rfl
theorem Eqv.symm {p q : List Trm} (h : Eqv p q) : Eqv q p := fun f => (h f).symm
theorem Eqv.trans {p q r : List Trm} (h : Eqv p q) (k : Eqv q r) : Eqv p r := fun f => (h f).trans (k f)
theorem lin_append (f : Ex → Int) : ∀ p q : List Trm, lin f (p ++ q) = lin f p + lin f q
  | [], q => by simp [lin]
  | t :: r, q => by
    simp only [List.cons_append, lin, lin_append f r q]
    omega
theorem Eqv.append {p p' q q' : List Trm} (h : Eqv p p') (k : Eqv q q') : Eqv (p ++ q) (p' ++ q') := fun f => by
  rw [lin_append, lin_append, h f, k f]
theorem Eqv.perm {p q : List Trm} (h : p.Perm q) : Eqv p q := fun f => by
  induction h with
  | nil => rfl
  | cons x _ ih => simp only [lin, ih]
  | swap x y l =>
    simp only [lin]
    omega
  | trans _ _ a b => exact a.trans b
/-- strictly ascending, no coefficient 0 -/
def Canon (p : List Trm) : Prop := p.Pairwise (fun s t => ltE s.1 t.1) ∧ ∀ t ∈ p, t.2 ≠ 0
theorem lin_zero {f : Ex → Int} : ∀ {p : List Trm}, (∀ t ∈ p, f t.1 = 0) → lin f p = 0
  | [], _ => rfl
  | t :: r, h => by
    rw [lin, h t List.mem_cons_self, lin_zero (p := r) fun s hs => h s (List.mem_cons_of_mem _ hs)]
    simp
theorem canon_uniq : ∀ {p q : List Trm}, Canon p → Canon q → Eqv p q → p = q
  | [], [], _, _, _ => rfl
  | [], t :: r, _, hq, h => by
    exfalso
    have e := h fun x => if x = t.1 then 1 else 0
    have z : lin (fun x => if x = t.1 then (1 : Int) else 0) r = 0 := lin_zero fun s hs => if_neg (ltE_ne ((List.pairwise_cons.mp hq.1).1 s hs)).symm
    simp only [lin, z, if_pos] at e
    exact hq.2 t List.mem_cons_self (by omega)
  | t :: r, [], hp, _, h => by
    exfalso
    have e := h fun x => if x = t.1 then 1 else 0
    have z : lin (fun x => if x = t.1 then (1 : Int) else 0) r = 0 := lin_zero fun s hs => if_neg (ltE_ne ((List.pairwise_cons.mp hp.1).1 s hs)).symm
    simp only [lin, z, if_pos] at e
    exact hp.2 t List.mem_cons_self (by omega)
  | t :: r, u :: w, hp, hq, h => by
    have p1 := List.pairwise_cons.mp hp.1
    have q1 := List.pairwise_cons.mp hq.1
    have key : t.1 = u.1 := by
      by_cases e : t.1 = u.1
      · exact e
      · exfalso
        by_cases l : ltE t.1 u.1
        · have z1 : lin (fun x => if x = t.1 then (1 : Int) else 0) r = 0 := lin_zero fun s hs => if_neg (ltE_ne (p1.1 s hs)).symm
          have z2 : lin (fun x => if x = t.1 then (1 : Int) else 0) (u :: w) = 0 := lin_zero fun s hs => by
            refine if_neg (Ne.symm ?_)
            rcases List.mem_cons.mp hs with rfl | hs
            · exact e
            · exact ltE_ne (ltE_trans l (q1.1 s hs))
          have e2 := h fun x => if x = t.1 then 1 else 0
          rw [z2] at e2
          simp only [lin, z1, if_pos] at e2
          exact hp.2 t List.mem_cons_self (by omega)
        · have l := ltE_or l e
          have z1 : lin (fun x => if x = u.1 then (1 : Int) else 0) w = 0 := lin_zero fun s hs => if_neg (ltE_ne (q1.1 s hs)).symm
          have z2 : lin (fun x => if x = u.1 then (1 : Int) else 0) (t :: r) = 0 := lin_zero fun s hs => by
            refine if_neg (Ne.symm ?_)
            rcases List.mem_cons.mp hs with rfl | hs
            · exact Ne.symm e
            · exact ltE_ne (ltE_trans l (p1.1 s hs))
          have e2 := h fun x => if x = u.1 then 1 else 0
          rw [z2] at e2
          simp only [lin, z1, if_pos] at e2
          exact hq.2 u List.mem_cons_self (by omega)
    have z1 : lin (fun x => if x = t.1 then (1 : Int) else 0) r = 0 := lin_zero fun s hs => if_neg (ltE_ne (p1.1 s hs)).symm
    have z2 : lin (fun x => if x = t.1 then (1 : Int) else 0) w = 0 := lin_zero fun s hs => if_neg (by rw [key]; exact (ltE_ne (q1.1 s hs)).symm)
    have e2 := h fun x => if x = t.1 then 1 else 0
    simp only [lin, z1, z2] at e2
    simp only [if_true, if_pos key.symm] at e2
    have ec : t.2 = u.2 := by omega
    have et : t = u := Prod.ext key ec
    have er : Eqv r w := fun f => by
      have e3 := h f
      simp only [lin, et] at e3
      omega
    rw [et, canon_uniq ⟨p1.2, fun s hs => hp.2 s (List.mem_cons_of_mem _ hs)⟩ ⟨q1.2, fun s hs => hq.2 s (List.mem_cons_of_mem _ hs)⟩ er]
/-- a term put into a list in order -/
def ins (t : Trm) : List Trm → List Trm
  | [] => if t.2 = 0 then [] else [t]
  | u :: r => if ltE t.1 u.1 then (if t.2 = 0 then u :: r else t :: u :: r) else if t.1 = u.1 then (if t.2 + u.2 = 0 then r else (t.1, t.2 + u.2) :: r) else u :: ins t r
def canon (ts : List Trm) : List Trm := ts.foldr ins []
theorem lin_ins (f : Ex → Int) (t : Trm) : ∀ p : List Trm, lin f (ins t p) = t.2 * f t.1 + lin f p
  | [] => by
    unfold ins
    split
    · rename_i h
      rw [h]
      simp [lin]
    · simp [lin]
  | u :: r => by
    unfold ins
    split
    · split
      · rename_i h
        rw [h]
        simp
      · simp [lin]
    · split
      · rename_i e
        split
        · rename_i h
          simp only [lin]
          rw [← e]
          have : t.2 * f t.1 + u.2 * f t.1 = 0 := by
            rw [← Int.add_mul, h, Int.zero_mul]
          omega
        · simp only [lin]
          rw [← e, Int.add_mul]
          omega
      · simp only [lin, lin_ins f t r]
        omega
theorem eqv_canon (ts : List Trm) : Eqv (canon ts) ts := fun f => by
  induction ts with
  | nil => rfl
  | cons t r ih =>
    show lin f (ins t (canon r)) = _
    rw [lin_ins, ih]
    rfl
theorem mem_ins {t s : Trm} : ∀ {p : List Trm}, s ∈ ins t p → s.1 = t.1 ∨ s ∈ p
  | [], h => by
    unfold ins at h
    split at h
    · cases h
    · rw [List.mem_singleton] at h
      exact .inl (by rw [h])
  | u :: r, h => by
    unfold ins at h
    split at h
    · split at h
      · exact .inr h
      · rcases List.mem_cons.mp h with h | h
        · exact .inl (by rw [h])
        · exact .inr h
    · split at h
      · split at h
        · exact .inr (List.mem_cons_of_mem _ h)
        · rcases List.mem_cons.mp h with h | h
          · exact .inl (by rw [h])
          · exact .inr (List.mem_cons_of_mem _ h)
      · rcases List.mem_cons.mp h with h | h
        · exact .inr (h ▸ List.mem_cons_self)
        · rcases mem_ins h with h | h
          · exact .inl h
          · exact .inr (List.mem_cons_of_mem _ h)
theorem canon_ins {t : Trm} : ∀ {p : List Trm}, Canon p → Canon (ins t p)
  | [], _ => by
    unfold ins
    split
    · exact ⟨List.Pairwise.nil, fun s hs => by cases hs⟩
    · rename_i h
      exact ⟨List.pairwise_singleton _ _, fun s hs => by
        rw [List.mem_singleton] at hs
        rw [hs]
        exact h⟩
  | u :: r, hp => by
    have p1 := List.pairwise_cons.mp hp.1
    have tl : Canon r := ⟨p1.2, fun s hs => hp.2 s (List.mem_cons_of_mem _ hs)⟩
    unfold ins
    split
    · rename_i l
      split
      · exact hp
      · rename_i h
        refine ⟨List.pairwise_cons.mpr ⟨fun s hs => ?_, hp.1⟩, fun s hs => ?_⟩
        · rcases List.mem_cons.mp hs with rfl | hs
          · exact l
          · exact ltE_trans l (p1.1 s hs)
        · rcases List.mem_cons.mp hs with rfl | hs
          · exact h
          · exact hp.2 s hs
    · rename_i l
      split
      · rename_i e
        split
        · exact tl
        · rename_i h
          refine ⟨List.pairwise_cons.mpr ⟨fun s hs => ?_, p1.2⟩, fun s hs => ?_⟩
          · show ltE t.1 s.1
            rw [e]
            exact p1.1 s hs
          · rcases List.mem_cons.mp hs with rfl | hs
            · exact h
            · exact hp.2 s (List.mem_cons_of_mem _ hs)
      · rename_i e
        have ih := canon_ins (t := t) tl
        refine ⟨List.pairwise_cons.mpr ⟨fun s hs => ?_, ih.1⟩, fun s hs => ?_⟩
        · rcases mem_ins hs with h | h
          · rw [h]
            exact ltE_or l e
          · exact p1.1 s h
        · rcases List.mem_cons.mp hs with rfl | hs
          · exact hp.2 s List.mem_cons_self
          · exact ih.2 s hs
theorem canon_canon (ts : List Trm) : Canon (canon ts) := by
  induction ts with
  | nil => exact ⟨List.Pairwise.nil, fun s hs => by cases hs⟩
  | cons t r ih => exact canon_ins ih
theorem canon_of {p ts : List Trm} (h : Canon p) (e : Eqv p ts) : p = canon ts := canon_uniq h (canon_canon ts) (e.trans (eqv_canon ts).symm)
theorem canon_congr {p q : List Trm} (h : Eqv p q) : canon p = canon q := canon_uniq (canon_canon p) (canon_canon q) ((eqv_canon p).trans (h.trans (eqv_canon q).symm))
theorem canon_self {p : List Trm} (h : Canon p) : canon p = p := (canon_of h (Eqv.refl p)).symm
/-! products -/
def addE (p q : Ex) : Ex := (p.1 + q.1, p.2 + q.2)
def mulT (p q : List Trm) : List Trm := p.flatMap fun x => q.map fun y => (addE x.1 y.1, x.2 * y.2)
theorem lin_scale (f : Ex → Int) (x : Trm) : ∀ q : List Trm, lin f (q.map fun y => (addE x.1 y.1, x.2 * y.2)) = x.2 * lin (fun y => f (addE x.1 y)) q
  | [] => by simp [lin]
  | y :: r => by
    simp only [List.map_cons, lin, lin_scale f x r]
    rw [Int.mul_add, Int.mul_assoc]
theorem lin_mul (f : Ex → Int) (q : List Trm) : ∀ p : List Trm, lin f (mulT p q) = lin (fun x => lin (fun y => f (addE x y)) q) p
  | [] => rfl
  | x :: r => by
    show lin f ((q.map fun y => (addE x.1 y.1, x.2 * y.2)) ++ mulT r q) = _
    rw [lin_append, lin_scale, lin_mul f q r]
    rfl
theorem lin_congr {f g : Ex → Int} (h : ∀ x, f x = g x) (p : List Trm) : lin f p = lin g p := by
  rw [show f = g from funext h]
theorem lin_add (f g : Ex → Int) : ∀ p : List Trm, lin (fun x => f x + g x) p = lin f p + lin g p
  | [] => by simp [lin]
  | t :: r => by
    simp only [lin, lin_add f g r]
    rw [Int.mul_add]
    omega
theorem lin_smul (c : Int) (f : Ex → Int) : ∀ p : List Trm, lin (fun x => c * f x) p = c * lin f p
  | [] => by simp [lin]
  | t :: r => by
    simp only [lin, lin_smul c f r]
    rw [Int.mul_add, Int.mul_left_comm]
theorem lin_const0 : ∀ p : List Trm, lin (fun _ => 0) p = 0
  | [] => rfl
  | t :: r => by simp [lin, lin_const0 r]
theorem lin_swap (g : Ex → Ex → Int) (q : List Trm) : ∀ p : List Trm, lin (fun x => lin (fun y => g x y) q) p = lin (fun y => lin (fun x => g x y) p) q
  | [] => by simp only [lin, lin_const0]
  | t :: r => by
    simp only [lin]
    rw [lin_swap g q r, lin_add, lin_smul]
theorem Eqv.mul {p p' q q' : List Trm} (h : Eqv p p') (k : Eqv q q') : Eqv (mulT p q) (mulT p' q') := fun f => by
  rw [lin_mul, lin_mul, h, lin_congr fun x => k _]
theorem mul_comm (p q : List Trm) : Eqv (mulT p q) (mulT q p) := fun f => by
  rw [lin_mul, lin_mul, lin_swap]
  refine lin_congr (fun y => lin_congr (fun x => ?_) _) _
  unfold addE
  rw [Int.add_comm, Int.add_comm x.2]
theorem mul_assoc (p q r : List Trm) : Eqv (mulT (mulT p q) r) (mulT p (mulT q r)) := fun f => by
  rw [lin_mul, lin_mul, lin_mul]
  refine lin_congr (fun x => ?_) _
  rw [lin_mul]
  refine lin_congr (fun y => lin_congr (fun z => ?_) _) _
  unfold addE
  simp only [Int.add_assoc]
def one : List Trm := [((0, 0), 1)]
theorem one_mul (p : List Trm) : Eqv (mulT one p) p := fun f => by
  rw [lin_mul]
  show (1 : Int) * lin _ p + 0 = _
  rw [Int.one_mul, Int.add_zero]
  refine lin_congr (fun y => ?_) _
  unfold addE
  simp
/-- powers -/
def pw (p : List Trm) : Nat → List Trm
  | 0 => one
  | n + 1 => mulT (pw p n) p
theorem pw_add (p : List Trm) (i : Nat) : ∀ j, Eqv (mulT (pw p i) (pw p j)) (pw p (i + j))
  | 0 => (mul_comm _ _).trans (one_mul _)
  | j + 1 => (mul_assoc _ _ _).symm.trans (Eqv.mul (pw_add p i j) (Eqv.refl p))
theorem pw_congr {p q : List Trm} (h : Eqv p q) : ∀ n, Eqv (pw p n) (pw q n)
  | 0 => Eqv.refl _
  | n + 1 => Eqv.mul (pw_congr h n) h
/-! the size of coefficients -/
def norm : List Trm → Nat
  | [] => 0
  | t :: r => t.2.natAbs + norm r
theorem norm_append : ∀ p q : List Trm, norm (p ++ q) = norm p + norm q
  | [], q => by simp [norm]
  | t :: r, q => by
    simp only [List.cons_append, norm, norm_append r q]
    omega
theorem norm_ins (t : Trm) : ∀ p : List Trm, norm (ins t p) ≤ t.2.natAbs + norm p
  | [] => by
    unfold ins
    split <;> simp [norm]
  | u :: r => by
    unfold ins
    split
    · split <;> simp [norm]
    · split
      · split
        · simp only [norm]
          omega
        · simp only [norm]
          omega
      · have := norm_ins t r
        simp only [norm]
        omega
theorem norm_canon : ∀ ts : List Trm, norm (canon ts) ≤ norm ts
  | [] => Nat.le_refl _
  | t :: r => by
    show norm (ins t (canon r)) ≤ _
    have h1 := norm_ins t (canon r)
    have h2 := norm_canon r
    simp only [norm]
    omega
theorem norm_scale (x : Trm) : ∀ q : List Trm, norm (q.map fun y => (addE x.1 y.1, x.2 * y.2)) = x.2.natAbs * norm q
  | [] => by simp [norm]
  | y :: r => by
    simp only [List.map_cons, norm, norm_scale x r]
    rw [Nat.mul_add, Int.natAbs_mul]
theorem norm_mul (q : List Trm) : ∀ p : List Trm, norm (mulT p q) = norm p * norm q
  | [] => by simp [norm, mulT]
  | x :: r => by
    show norm ((q.map fun y => (addE x.1 y.1, x.2 * y.2)) ++ mulT r q) = _
    rw [norm_append, norm_scale, norm_mul q r]
    simp only [norm]
    rw [Nat.add_mul]
theorem norm_mem {t : Trm} : ∀ {p : List Trm}, t ∈ p → t.2.natAbs ≤ norm p
  | u :: r, h => by
    rcases List.mem_cons.mp h with rfl | h
    · simp only [norm]
      omega
    · have := norm_mem h
      simp only [norm]
      omega
theorem length_canon_le : ∀ ts : List Trm, (canon ts).length ≤ ts.length
  | [] => Nat.le_refl _
  | t :: r => by
    have h : ∀ p : List Trm, (ins t p).length ≤ p.length + 1 := by
      intro p
      induction p with
      | nil =>
        unfold ins
        split <;> simp
      | cons u w ih =>
        unfold ins
        split
        · split <;> simp
        · split
          · split <;> simp <;> omega
          · simp only [List.length_cons]
            omega
    have h2 := length_canon_le r
    have h3 := h (canon r)
    show (ins t (canon r)).length ≤ _
    simp only [List.length_cons]
    omega
theorem length_mul (p q : List Trm) : (mulT p q).length = p.length * q.length := by
  induction p with
  | nil => simp [mulT]
  | cons x r ih =>
    show ((q.map fun y => (addE x.1 y.1, x.2 * y.2)) ++ mulT r q).length = _
    rw [List.length_append, List.length_map, ih, List.length_cons, Nat.add_mul]
    omega
/-! a dict that gathers: pairs in the order in which they came, no key twice -/
def look (d : List Trm) (k : Ex) : Int := match d.find? (fun p => decide (p.1 = k)) with
  | some p => p.2
  | none => 0
def put (d : List Trm) (k : Ex) (v : Int) : List Trm := if d.any (fun p => decide (p.1 = k)) then d.map (fun p => if p.1 = k then (p.1, v) else p) else d ++ [(k, v)]
def addTo (d : List Trm) (t : Trm) : List Trm := put d t.1 (look d t.1 + t.2)
def gather (ts : List Trm) : List Trm := ts.foldl addTo []
def keys (d : List Trm) : List Ex := d.map (·.1)
theorem keys_put (d : List Trm) (k : Ex) (v : Int) : keys (put d k v) = if k ∈ keys d then keys d else keys d ++ [k] := by
  have h : (d.any fun p => decide (p.1 = k)) = true ↔ k ∈ keys d := by
    rw [List.any_eq_true]
    unfold keys
    constructor
    · rintro ⟨p, hp, e⟩
      exact List.mem_map.mpr ⟨p, hp, of_decide_eq_true e⟩
    · intro h
      obtain ⟨p, hp, e⟩ := List.mem_map.mp h
      exact ⟨p, hp, decide_eq_true e⟩
  unfold put
  by_cases hk : k ∈ keys d
  · rw [if_pos (h.mpr hk), if_pos hk]
    unfold keys
    rw [List.map_map]
    refine List.map_congr_left fun p _ => ?_
    show (if p.1 = k then (p.1, v) else p).1 = p.1
    split <;> rfl
  · rw [if_neg (fun z => hk (h.mp z)), if_neg hk]
    unfold keys
    rw [List.map_append]
    rfl
theorem nodup_put {d : List Trm} (h : (keys d).Nodup) (k : Ex) (v : Int) : (keys (put d k v)).Nodup := by
  rw [keys_put]
  split
  · exact h
  · rename_i hk
    rw [List.nodup_append]
    refine ⟨h, List.pairwise_singleton _ _, fun a ha b hb => ?_⟩
    rw [List.mem_singleton] at hb
    rw [hb]
    exact fun e => hk (e ▸ ha)
theorem look_none {d : List Trm} {k : Ex} (h : k ∉ keys d) : look d k = 0 := by
  unfold look
  rw [List.find?_eq_none.mpr]
  intro p hp e
  exact h (List.mem_map.mpr ⟨p, hp, of_decide_eq_true e⟩)
theorem look_cons (p : Trm) (d : List Trm) (k : Ex) : look (p :: d) k = if p.1 = k then p.2 else look d k := by
  unfold look
  rw [List.find?_cons]
  by_cases h : p.1 = k
  · simp [h]
  · simp [h]
theorem lin_map_put (f : Ex → Int) (k : Ex) (v : Int) : ∀ {d : List Trm}, (keys d).Nodup → k ∈ keys d → lin f (d.map fun p => if p.1 = k then (p.1, v) else p) = lin f d + (v - look d k) * f k
  | [], _, h => by simp [keys] at h
  | p :: r, hn, hk => by
    have n1 : p.1 ∉ keys r ∧ (keys r).Nodup := List.nodup_cons.mp hn
    rw [look_cons]
    simp only [List.map_cons, lin]
    by_cases e : p.1 = k
    · rw [if_pos e, if_pos e]
      have z : r.map (fun p => if p.1 = k then (p.1, v) else p) = r := by
        refine (List.map_congr_left fun q hq => if_neg fun z => n1.1 (List.mem_map.mpr ⟨q, hq, by rw [z, e]⟩)).trans (List.map_id' r)
      rw [z, ← e, Int.sub_mul]
      show v * f p.1 + lin f r = _
      omega
    · have hk2 : k ∈ keys r := by
        rcases List.mem_cons.mp (show k ∈ p.1 :: keys r from hk) with z | z
        · exact absurd z.symm e
        · exact z
      rw [if_neg e, if_neg e, lin_map_put f k v n1.2 hk2]
      omega
theorem lin_put (f : Ex → Int) {d : List Trm} (hn : (keys d).Nodup) (k : Ex) (v : Int) : lin f (put d k v) = lin f d + (v - look d k) * f k := by
  have h : (d.any fun p => decide (p.1 = k)) = true ↔ k ∈ keys d := by
    rw [List.any_eq_true]
    unfold keys
    constructor
    · rintro ⟨p, hp, e⟩
      exact List.mem_map.mpr ⟨p, hp, of_decide_eq_true e⟩
    · intro h
      obtain ⟨p, hp, e⟩ := List.mem_map.mp h
      exact ⟨p, hp, decide_eq_true e⟩
  unfold put
  by_cases hk : k ∈ keys d
  · rw [if_pos (h.mpr hk), lin_map_put f k v hn hk]
  · rw [if_neg (fun z => hk (h.mp z)), lin_append, look_none hk]
    simp [lin]
theorem gather_go (f : Ex → Int) : ∀ (ts d : List Trm), (keys d).Nodup → (keys (ts.foldl addTo d)).Nodup ∧ lin f (ts.foldl addTo d) = lin f d + lin f ts
  | [], d, h => ⟨h, by simp [lin]⟩
  | t :: r, d, h => by
    have n := nodup_put h t.1 (look d t.1 + t.2)
    obtain ⟨h1, h2⟩ := gather_go f r (addTo d t) n
    refine ⟨h1, ?_⟩
    show lin f (r.foldl addTo (addTo d t)) = _
    rw [h2]
    unfold addTo
    rw [lin_put f h]
    simp only [lin]
    rw [show look d t.1 + t.2 - look d t.1 = t.2 by omega]
    omega
theorem gather_nodup (ts : List Trm) : (keys (gather ts)).Nodup := (gather_go (fun _ => 0) ts [] List.nodup_nil).1
theorem gather_eqv (ts : List Trm) : Eqv (gather ts) ts := fun f => by
  have h := (gather_go f ts [] List.nodup_nil).2
  simp only [lin] at h
  unfold gather
  omega
theorem length_put (d : List Trm) (k : Ex) (v : Int) : (put d k v).length ≤ d.length + 1 := by
  unfold put
  split
  · rw [List.length_map]
    omega
  · rw [List.length_append]
    exact Nat.le_refl _
theorem length_gather_go : ∀ (ts d : List Trm), (ts.foldl addTo d).length ≤ d.length + ts.length
  | [], d => Nat.le_refl _
  | t :: r, d => by
    have h1 := length_gather_go r (addTo d t)
    have h2 : (addTo d t).length ≤ d.length + 1 := length_put _ _ _
    show (r.foldl addTo (addTo d t)).length ≤ _
    simp only [List.length_cons]
    omega
theorem look_of_mem : ∀ {d : List Trm} {p : Trm}, (keys d).Nodup → p ∈ d → look d p.1 = p.2
  | q :: r, p, hn, hp => by
    have n1 : q.1 ∉ keys r ∧ (keys r).Nodup := List.nodup_cons.mp hn
    rw [look_cons]
    rcases List.mem_cons.mp hp with rfl | hp
    · rw [if_pos rfl]
    · rw [if_neg (fun e => n1.1 (List.mem_map.mpr ⟨p, hp, e.symm⟩)), look_of_mem n1.2 hp]
/-- what is read off by keys in order -/
def read (d : List Trm) (ks : List Ex) : List Trm := (ks.filter fun k => decide (look d k ≠ 0)).map fun k => (k, look d k)
theorem lin_read (f : Ex → Int) (d : List Trm) : ∀ ks : List Ex, lin f (read d ks) = lin f (ks.map fun k => (k, look d k))
  | [] => rfl
  | k :: r => by
    have ih := lin_read f d r
    unfold read at *
    rw [List.filter_cons]
    by_cases h : look d k = 0
    · simp only [h, ne_eq, not_true_eq_false, decide_false, Bool.false_eq_true, if_false, List.map_cons, lin]
      rw [ih]
      simp
    · rw [if_pos (decide_eq_true h)]
      simp only [List.map_cons, lin, ih]
theorem map_look {d : List Trm} (hn : (keys d).Nodup) : (keys d).map (fun k => (k, look d k)) = d := by
  unfold keys
  rw [List.map_map]
  refine (List.map_congr_left fun p hp => ?_).trans (List.map_id' d)
  show (p.1, look d p.1) = p
  rw [look_of_mem hn hp]
theorem read_canon {ts d : List Trm} {ks : List Ex} (hn : (keys d).Nodup) (he : Eqv d ts) (hp : ks.Perm (keys d)) (hs : ks.Pairwise fun a b => ¬ ltE b a) : read d ks = canon ts := by
  refine canon_of ⟨?_, fun t ht => ?_⟩ fun f => ?_
  · have h2 : ks.Pairwise ltE := by
      exact (List.Pairwise.and hs (hp.nodup_iff.mpr hn)).imp fun h => ltE_or h.1 (Ne.symm h.2)
    unfold read
    rw [List.pairwise_map]
    exact h2.sublist List.filter_sublist
  · obtain ⟨k, hk, rfl⟩ := List.mem_map.mp ht
    exact of_decide_eq_true (List.mem_filter.mp hk).2
  · rw [lin_read]
    have h3 : (ks.map fun k => (k, look d k)).Perm d := by
      have := hp.map fun k => (k, look d k)
      rw [map_look hn] at this
      exact this
    rw [Eqv.perm h3 f]
    exact he f
end PM
/-! ### heaps that grow: what is no table stays, tables stay tables -/
namespace EXT
open PySem PySem.Spec PyProof.Rows L2 SDT PM
structure Ext (H H' : Hp) : Prop where
  keep : ∀ b x, H b = some x → (∀ ps, x ≠ .tbl ps) → H' b = some x
  tabs : ∀ b ps, H b = some (.tbl ps) → ∃ qs, H' b = some (.tbl qs) ∧ (TriplesOk ps.toList → TriplesOk qs.toList)
theorem Ext.tab {H H' : Hp} (s : Ext H H') {b : Addr} (h : GxR.TabG H b) : GxR.TabG H' b := by
  obtain ⟨ps, h1, h2⟩ := h
  obtain ⟨qs, g1, g2⟩ := s.tabs b ps h1
  exact ⟨qs, g1, g2 h2⟩
theorem Ext.refl (H : Hp) : Ext H H := ⟨fun _ _ e _ => e, fun _ ps h => ⟨ps, h, id⟩⟩
theorem Ext.trans {H H1 H2 : Hp} (a : Ext H H1) (b : Ext H1 H2) : Ext H H2 := ⟨fun c x e n => b.keep c x (a.keep c x e n) n, fun c ps h => by
  obtain ⟨qs, g1, g2⟩ := a.tabs c ps h
  obtain ⟨rs, k1, k2⟩ := b.tabs c qs g1
  exact ⟨rs, k1, fun z => k2 (g2 z)⟩⟩
theorem Ext.own {H H1 : Hp} {d : Addr} {o : HO} (s : Ext H H1) (hd : H d = none) : Ext H (upd H1 d o) := by
  refine ⟨fun b x e n => ?_, fun b ps h => ?_⟩
  · rw [upd_ne (ne_of_none e hd)]
    exact s.keep b x e n
  · obtain ⟨qs, g1, g2⟩ := s.tabs b ps h
    exact ⟨qs, by rw [upd_ne (ne_of_none h hd)]; exact g1, g2⟩
theorem ext_upd {H : Hp} {p : Addr} {o : HO} (h : H p = none) : Ext H (upd H p o) := (Ext.refl H).own h
theorem Ext.new {H H1 : Hp} {p : Addr} {o : HO} (s : Ext H H1) (h : H1 p = none) : Ext H (upd H1 p o) := s.trans (ext_upd h)
theorem ext_tabbed {H H' : Hp} {P : Addr} (t : GxR.TabG H P) (h : GxR.Tabbed P H H') : Ext H H' := by
  obtain ⟨ps, e0, _⟩ := t
  refine ⟨fun b x e n => ?_, fun b qs g => ?_⟩
  · rw [h.2 b (fun z => ?_)]
    · exact e
    · rw [z, e0] at e
      exact n ps (Option.some.inj e).symm
  · by_cases z : b = P
    · obtain ⟨rs, g1, g2⟩ := h.1
      rw [z]
      exact ⟨rs, g1, fun _ => g2⟩
    · exact ⟨qs, by rw [h.2 b z]; exact g, id⟩
theorem Ext.tabbed {H H1 H2 : Hp} {P : Addr} (s : Ext H H1) (t : GxR.TabG H1 P) (h : GxR.Tabbed P H1 H2) : Ext H H2 := s.trans (ext_tabbed t h)
theorem Ext.free {H H' : Hp} {p : Addr} (s : Ext H H') (h : H' p = none) : H p = none := by
  cases e : H p with
  | none => rfl
  | some x =>
    cases x with
    | tbl ps =>
      obtain ⟨qs, g, _⟩ := s.tabs p ps e
      rw [h] at g
      cases g
    | _ =>
      have := s.keep p _ e (fun ps z => by cases z)
      rw [h] at this
      cases this
theorem _root_.L2.Same.ext {H H' : Hp} (s : Same H H') : Ext H H' := ⟨fun b x e _ => s b x e, fun b ps e => ⟨ps, s _ _ e, id⟩⟩
section
variable {K : PySem.W.Frag} {H H' : Hp} (s : Ext H H')
include s
theorem Ext.rdL {a : Addr} {xs : List V} (h : Rd H a (.lst xs)) : Rd H' a (.lst xs) := by
  rcases h with h | ⟨o, h⟩
  · exact .inl (s.keep _ _ h (fun _ z => by cases z))
  · exact .inr ⟨o, s.keep _ _ h (fun _ z => by cases z)⟩
theorem Ext.rdT {a : Addr} {xs : List V} (h : Rd H a (.tup xs)) : Rd H' a (.tup xs) := by
  rcases h with h | ⟨o, h⟩
  · exact .inl (s.keep _ _ h (fun _ z => by cases z))
  · exact .inr ⟨o, s.keep _ _ h (fun _ z => by cases z)⟩
theorem Ext.seq {a : Addr} {xs : List V} (h : SqL K H a xs) : SqL K H' a xs := h.imp s.rdL id
theorem Ext.tup {a : Addr} {xs : List V} (h : SqT K H a xs) : SqT K H' a xs := h.imp s.rdT id
theorem Ext.at {a : Addr} {xs : List V} (h : H a = some (.tup xs)) : H' a = some (.tup xs) := s.keep _ _ h (fun _ z => by cases z)
theorem Ext.dt {a : Addr} {xs : List (List Key × V)} (h : H a = some (.dT xs)) : H' a = some (.dT xs) := s.keep _ _ h (fun _ z => by cases z)
theorem Ext.lst {a : Addr} {xs : List V} (h : H a = some (.lst xs)) : H' a = some (.lst xs) := s.keep _ _ h (fun _ z => by cases z)
end
mutual
theorem dp_ext {K : PySem.W.Frag} {H H' : Hp} (s : Ext H H') : ∀ {v : V} {d : PyData}, Dp K H v d → Dp K H' v d
  | _, _, .non => .non
  | _, _, .bl b => .bl b
  | _, _, .int i => .int i
  | _, _, .str x => .str x
  | _, _, .lst h t => .lst (s.seq h) (dpAll_ext s t)
  | _, _, .tup h t => .tup (s.tup h) (dpAll_ext s t)
theorem dpAll_ext {K : PySem.W.Frag} {H H' : Hp} (s : Ext H H') : ∀ {vs : List V} {ds : List PyData}, DpAll K H vs ds → DpAll K H' vs ds
  | _, _, .nil => .nil
  | _, _, .cons h t => .cons (dp_ext s h) (dpAll_ext s t)
end
theorem Ext.pairs {H H' : Hp} (s : Ext H H') : ∀ {ks : List (Int × Int)} {bs : List Addr}, Paired (PairAt H) ks bs → Paired (PairAt H') ks bs
  | _, _, .nil => .nil
  | _, _, .cons h t => .cons (s.at h) (s.pairs t)
/-! ### terms and polynomials in the heap -/
/-- v is the term t -/
def TermAt (K : PySem.W.Frag) (H : Hp) (v : V) (t : Trm) : Prop := ∃ a b, v = .ref a ∧ SqT K H a [.ref b, .int t.2] ∧ SqT K H b [.int t.1.1, .int t.1.2]
/-- the same, the key known to be one -/
def TermT (H : Hp) (v : V) (t : Trm) : Prop := ∃ a b, v = .ref a ∧ H a = some (.tup [.ref b, .int t.2]) ∧ PairAt H t.1 b
theorem TermT.at {K : PySem.W.Frag} {H : Hp} {v : V} {t : Trm} (h : TermT H v t) : TermAt K H v t := by
  obtain ⟨a, b, e, h1, h2⟩ := h
  exact ⟨a, b, e, .inl (.inl h1), .inl (.inl h2)⟩
theorem Ext.termT {H H' : Hp} (s : Ext H H') {v : V} {t : Trm} (h : TermT H v t) : TermT H' v t := by
  obtain ⟨a, b, e, h1, h2⟩ := h
  exact ⟨a, b, e, s.at h1, s.at h2⟩
theorem Ext.term {K : PySem.W.Frag} {H H' : Hp} (s : Ext H H') {v : V} {t : Trm} (h : TermAt K H v t) : TermAt K H' v t := by
  obtain ⟨a, b, e, h1, h2⟩ := h
  exact ⟨a, b, e, s.tup h1, s.tup h2⟩
theorem paired_imp {α β : Type} {R R' : α → β → Prop} (h : ∀ a b, R a b → R' a b) : ∀ {as : List α} {bs : List β}, Paired R as bs → Paired R' as bs
  | _, _, .nil => .nil
  | _, _, .cons x t => .cons (h _ _ x) (paired_imp h t)
/-- the item of a pairing at a place -/
theorem paired_at {α β : Type} {R : α → β → Prop} : ∀ {as : List α} {bs : List β} {i : Nat} {a : α}, Paired R as bs → as[i]? = some a → ∃ b, bs[i]? = some b ∧ R a b
  | _, _, _, _, .nil, h => by simp at h
  | _, _, 0, _, .cons x t, h => by
    simp only [List.getElem?_cons_zero, Option.some.injEq] at h
    subst h
    exact ⟨_, rfl, x⟩
  | _, _, i + 1, _, .cons x t, h => by
    simp only [List.getElem?_cons_succ] at h
    obtain ⟨b, h1, h2⟩ := paired_at t h
    exact ⟨b, by simpa using h1, h2⟩
theorem paired_app {α β : Type} {R : α → β → Prop} : ∀ {as : List α} {bs : List β} {as' : List α} {bs' : List β}, Paired R as bs → Paired R as' bs' → Paired R (as ++ as') (bs ++ bs')
  | _, _, _, _, .nil, k => k
  | _, _, _, _, .cons x t, k => .cons x (paired_app t k)
theorem paired_snoc {α β : Type} {R : α → β → Prop} {as : List α} {bs : List β} {a : α} {b : β} (h : Paired R as bs) (x : R a b) : Paired R (as ++ [a]) (bs ++ [b]) := paired_app h (.cons x .nil)
/-- vs are the terms ts -/
abbrev Terms (K : PySem.W.Frag) (H : Hp) (vs : List V) (ts : List Trm) : Prop := Paired (TermAt K H) vs ts
abbrev TermsT (H : Hp) (vs : List V) (ts : List Trm) : Prop := Paired (TermT H) vs ts
theorem Ext.terms {K : PySem.W.Frag} {H H' : Hp} (s : Ext H H') {vs : List V} {ts : List Trm} (h : Terms K H vs ts) : Terms K H' vs ts := paired_imp (fun _ _ => s.term) h
theorem Ext.termsT {H H' : Hp} (s : Ext H H') {vs : List V} {ts : List Trm} (h : TermsT H vs ts) : TermsT H' vs ts := paired_imp (fun _ _ => s.termT) h
theorem terms_of {K : PySem.W.Frag} {H : Hp} {vs : List V} {ts : List Trm} (h : TermsT H vs ts) : Terms K H vs ts := paired_imp (fun _ _ h => h.at) h
/-- a tuple of terms at p -/
def PolyAt (K : PySem.W.Frag) (H : Hp) (p : Addr) (ts : List Trm) : Prop := ∃ vs, SqT K H p vs ∧ Terms K H vs ts
def PolyT (H : Hp) (p : Addr) (ts : List Trm) : Prop := ∃ vs, H p = some (.tup vs) ∧ TermsT H vs ts
theorem PolyT.at {K : PySem.W.Frag} {H : Hp} {p : Addr} {ts : List Trm} (h : PolyT H p ts) : PolyAt K H p ts := by
  obtain ⟨vs, h1, h2⟩ := h
  exact ⟨vs, .inl (.inl h1), terms_of h2⟩
theorem Ext.poly {K : PySem.W.Frag} {H H' : Hp} (s : Ext H H') {p : Addr} {ts : List Trm} (h : PolyAt K H p ts) : PolyAt K H' p ts := by
  obtain ⟨vs, h1, h2⟩ := h
  exact ⟨vs, s.tup h1, s.terms h2⟩
theorem Ext.polyT {H H' : Hp} (s : Ext H H') {p : Addr} {ts : List Trm} (h : PolyT H p ts) : PolyT H' p ts := by
  obtain ⟨vs, h1, h2⟩ := h
  exact ⟨vs, s.at h1, s.termsT h2⟩
/-- a term, a polynomial as data -/
def termD (t : Trm) : PyData := .tuple [.tuple [.int t.1.1, .int t.1.2], .int t.2]
def polyD (ts : List Trm) : PyData := .tuple (ts.map termD)
theorem TermAt.dp {K : PySem.W.Frag} {H : Hp} {v : V} {t : Trm} (h : TermAt K H v t) : Dp K H v (termD t) := by
  obtain ⟨a, b, rfl, h1, h2⟩ := h
  exact .tup h1 (.cons (.tup h2 (.cons (.int _) (.cons (.int _) .nil))) (.cons (.int _) .nil))
theorem terms_dp {K : PySem.W.Frag} {H : Hp} : ∀ {vs : List V} {ts : List Trm}, Terms K H vs ts → DpAll K H vs (ts.map termD)
  | _, _, .nil => .nil
  | _, _, .cons h t => .cons h.dp (terms_dp t)
theorem PolyAt.dp {K : PySem.W.Frag} {H : Hp} {p : Addr} {ts : List Trm} (h : PolyAt K H p ts) : Dp K H (.ref p) (polyD ts) := by
  obtain ⟨vs, h1, h2⟩ := h
  exact .tup h1 (terms_dp h2)
/-! ### a dict of exponents -/
def kvsOf (d : List Trm) : List (List Key × V) := d.map fun t => (pairKey t.1, .int t.2)
theorem pairKey_inj {k j : Ex} (h : pairKey k = pairKey j) : k = j := by
  obtain ⟨h1, h2⟩ := List.cons.inj h
  obtain ⟨h3, _⟩ := List.cons.inj h2
  exact Prod.ext (Sum.inl.inj h1) (Sum.inl.inj h3)
theorem valV_kvs (k : Ex) : ∀ d : List Trm, valV (kvsOf d) (pairKey k) = if k ∈ keys d then some (.int (look d k)) else none
  | [] => rfl
  | t :: d => by
    by_cases e : t.1 = k
    · rw [show kvsOf (t :: d) = (pairKey t.1, V.int t.2) :: kvsOf d from rfl, valV_pos (by rw [e]), if_pos (by rw [← e]; exact List.mem_map.mpr ⟨t, List.mem_cons_self, rfl⟩), look_cons, if_pos e]
    · rw [show kvsOf (t :: d) = (pairKey t.1, V.int t.2) :: kvsOf d from rfl, valV_neg (fun z => e (pairKey_inj z)), valV_kvs k d, look_cons, if_neg e]
      have : (k ∈ keys (t :: d)) ↔ k ∈ keys d := by
        show k ∈ t.1 :: keys d ↔ _
        rw [List.mem_cons]
        exact ⟨fun z => z.resolve_left fun q => e q.symm, .inr⟩
      by_cases m : k ∈ keys d
      · rw [if_pos m, if_pos (this.mpr m)]
      · rw [if_neg m, if_neg (fun z => m (this.mp z))]
theorem getD_kvs (d : List Trm) (k : Ex) : (valV (kvsOf d) (pairKey k)).getD (.int 0) = .int (look d k) := by
  rw [valV_kvs]
  by_cases m : k ∈ keys d
  · rw [if_pos m]
    rfl
  · rw [if_neg m, look_none m]
    rfl
theorem put_kvs (d : List Trm) (k : Ex) (v : Int) : putK (kvsOf d) (pairKey k) (.int v) = kvsOf (put d k v) := by
  have e : ((kvsOf d).any fun kv => decide (kv.1 = pairKey k)) = d.any fun p => decide (p.1 = k) := by
    unfold kvsOf
    rw [List.any_map]
    congr 1
    funext t
    show decide (pairKey t.1 = pairKey k) = decide (t.1 = k)
    by_cases z : t.1 = k
    · rw [decide_eq_true z, decide_eq_true (by rw [z])]
    · rw [decide_eq_false z, decide_eq_false (fun q => z (pairKey_inj q))]
  unfold putK put
  rw [e]
  by_cases z : (d.any fun p => decide (p.1 = k)) = true
  · rw [if_pos z, if_pos z]
    unfold kvsOf
    rw [List.map_map, List.map_map]
    refine List.map_congr_left fun t _ => ?_
    show (if pairKey t.1 = pairKey k then (pairKey t.1, V.int v) else (pairKey t.1, V.int t.2)) = _
    by_cases q : t.1 = k
    · rw [if_pos (by rw [q])]
      simp only [Function.comp, if_pos q]
    · rw [if_neg (fun w => q (pairKey_inj w))]
      simp only [Function.comp, if_neg q]
  · rw [if_neg z, if_neg z]
    unfold kvsOf
    rw [List.map_append]
    rfl
theorem length_kvs (d : List Trm) : (kvsOf d).length = d.length := by
  unfold kvsOf
  rw [List.length_map]
theorem keys_kvs (d : List Trm) : (kvsOf d).map (·.1) = (keys d).map pairKey := by
  unfold kvsOf keys
  rw [List.map_map, List.map_map]
  rfl
theorem lex_lt {p q : Ex} : SrtO.lexB p q = false ↔ ¬ ltE p q := SrtO.lexB_no
end EXT
/-! ### a def whose code object is known -/
namespace L2
open PySem PySem.Spec PyProof.Rows
structure FunC (K : PySem.W.Frag) (x qual : Str) (st : Stmt) (f : Addr) (fd : FuncData) (c : Addr) : Prop where
  ex : ∃ (oc : Value) (od : Option Addr) (kV doc pm : Value) (an : Option Addr) (ct : Value) (osl : Array (Option Value)),
    fd = PySem.W.fnOf x qual (defArgs st) (defBody st) (defScope st) .none kV doc pm an (.ref c) ct ∧ K.lookup f = some ⟨oc, od, .func fd, osl⟩ ∧ PySem.W.codeIn K (.ref c) qual = true
  kp : PySem.W.keepIn K (.ref f) = true
section
variable {P : Program} {w : World} {K : PySem.W.Frag} {mg : Str → Option Value} {base : Heap}
theorem FunC.ok {x qual : Str} {st : Stmt} {f c : Addr} {fd : FuncData} {N ps : List Str} {k : Nat} {sp : Sp} (F : FunC K x qual st f fd c) (S : FnScope N ps (defScope st)) (len : ∀ vs H Q E, sp vs H Q E → vs.length = ps.length)
    (hbody : ∀ (A : Around) (outer : List Env) (s : Shared) (H : Hp) (vs : List V) (Q : VK) (E : XK), Room k (A.deeper (envOfC qual (defScope st) s.heap.objs.size f (.ref c))) → sp vs H Q E →
      ∃ t, PSs (cxOf CX0 P w K mg base N qual (defScope st) f (.ref c) A outer s H E).nox (defBody st) t ∧ t { nx := fun _ H' => Q .non H', rt := Q } (start N vs) H) :
    FnOk P w K mg base CX0 (k + 1) f fd ps sp := by
  obtain ⟨oc, od, kV, doc, pm, an, ct, osl, e, lk, hcd⟩ := F.ex
  subst e
  refine fn_of lk hcd S len fun A outer s H vs Q E hr hsp => ?_
  obtain ⟨t, h, q⟩ := hbody A outer s H vs Q E hr hsp
  exact ⟨t, h.nox, q⟩
theorem FunC.binds {x qual : Str} {st : Stmt} {f c : Addr} {fd : FuncData} {ps : List Str} (F : FunC K x qual st f fd c)
    (h : ∀ (kV doc pm : Value) (an : Option Addr) (cdv ct : Value) (us : List Value), us.length = ps.length → bindArgs (PySem.W.fnOf x qual (defArgs st) (defBody st) (defScope st) .none kV doc pm an cdv ct) ⟨us, []⟩ = pure (ps.zip us)) : Binds K fd ps [] := by
  obtain ⟨oc, od, kV, doc, pm, an, ct, osl, e, lk, hcd⟩ := F.ex
  subst e
  exact .all (h kV doc pm an (.ref c) ct)
theorem funC_mk {x qual : Str} {st : Stmt} {f c : Addr} {oc : Value} {od an : Option Addr} {osl : Array (Option Value)} {kV doc pm ct : Value} (l : K.lookup f = some ⟨oc, od, .func (PySem.W.fnOf x qual (defArgs st) (defBody st) (defScope st) .none kV doc pm an (.ref c) ct), osl⟩)
    (h : PySem.W.codeIn K (.ref c) qual = true) (k : PySem.W.keepIn K (.ref f) = true) : FunC K x qual st f (PySem.W.fnOf x qual (defArgs st) (defBody st) (defScope st) .none kV doc pm an (.ref c) ct) c := ⟨⟨oc, od, kV, doc, pm, an, ct, osl, rfl, l, h⟩, k⟩
end
end L2
/-! ### the end: the tables of all defs -/
namespace LamX
open PySem PySem.Spec PyProof.Rows L2
/-- the table of each def of the text is empty -/
def AllTab (q : Program) (K : PySem.W.Frag) (h : Heap) : Prop := ∀ (y : Str) (f c P : Addr) (o : Obj) (fd : FuncData) (e : Value) (dd : Option Addr) (vs : Array Value) (sl : Array (Option Value)), ((recsOf q).any fun r => r.name == y) = true →
  PySem.W.nsIn K mainGlobals y = some (some (.ref f)) → K.lookup f = some o → o.data = .func fd → fd.code = .ref c → K.lookup c = some ⟨e, dd, .fields vs, sl⟩ → vs[11]? = some (.ref P) → h.get? P = some { cls := .none, data := .fields #[] }
theorem walk_ofAll {l : PySem.W.OpenLaw} {n k : Nat} {q : Program} {loose : List Str} {XP : (Str → Option Value) → Heap → Prop} {YP : World → Heap → Prop} {d : DefRec} {K : Params → PySem.W.Frag} {CX : World → CXT} {x : Str}
    (hn : l.most = some n) (hn2 : n ≤ sizeLine) (hdf : d.params.defaults = []) (hr : Room k callerA) (hY : ∀ (w : World) (h : Heap), YP w h → (K w.params).In h)
    (F : ∀ (w : World) (mg : Str → Option Value) (fa : Addr) (h : Heap), YP w h → (K w.params).In h → h.Ns mainGlobals mg → mg d.name = some (.ref fa) → AllTab q (K w.params) h → LawAtS l w (K w.params) (CX w) k n x mg fa h)
    (hCX : ∀ (w : World) (H : Hp) (s : Shared) (e : Value) (s' : Shared), CX w [] H s (fun _ _ _ => False) e s' → False) :
    PySem.W.WalkO q loose XP YP l.row.toRowW d [] (fun f vs => PySem.call f vs) := by
  refine Att.attach_callB hn hdf fun w s₀ s₁ mg mb fa o pm cd doc a vs ns G Y ho hd hcd hmg hobj hints hlen hbits hg => ?_
  have KX := hY w _ Y
  have own : AllTab q (K w.params) s₁.heap := fun y f c P o1 fd1 e dd vs1 sl hrec k0 k1 k2 k3 k4 k5 => by
    obtain ⟨dL, hm, hn1⟩ := List.any_eq_true.mp hrec
    have hn2 : dL.name = y := beq_iff_eq.mp hn1
    obtain ⟨a', o', fd', c', P', h1, h2, h3, h4, h5, h6⟩ := G.T.tab dL hm
    rw [hn2, PySem.W.mg_of KX G.T.g k0] at h1
    cases h1
    have g1 := KX _ _ k1
    rw [g1] at h2
    cases h2
    rw [k2] at h3
    cases h3
    rw [k3] at h4
    cases h4
    obtain ⟨⟨oc, vc, e1, _, e3, e4⟩, hP⟩ := h6
    have g2 := KX _ _ k4
    rw [g2] at e1
    cases e1
    cases e3
    rw [k5] at e4
    cases e4
    exact hP
  obtain ⟨fd, cs, sp, hT, nT, C, hb, hsp, hF⟩ := F w mg fa _ Y KX G.T.g hmg own
  exact law_callTs KX G.T.g G.T.b G.T.builtins G.T.nolimit hg hT nT C G.T.bmain hobj hints (Nat.le_trans hlen hn2) hr hF hb (fun H hH hS => hsp H a ns hlen hbits hH hS) fun H e s' => hCX w H s₁ e s'
end LamX
namespace L2
open PySem PySem.Spec PyProof.Rows
/-- a list or a tuple, walked -/
def iSeq (K : PySem.W.Frag) (tl : TE) : TI := fun σ H R => tl σ H fun x H1 => ∃ a, x = .ref a ∧ (((∃ xs, SqL K H1 a xs) ∧ R (Itl K a) H1) ∨ ((∃ xs, SqT K H1 a xs) ∧ R (Itt K a) H1))
theorem pi_seq {X : Cx} {tg l : Expr} {tl : TE} (hl : PE X l tl) : PI X tg l (iSeq X.K tl) := by
  refine ⟨fun pins s σ H R I h => ?_⟩
  refine thn (hl.run pins s σ H _ I h) fun v s1 ⟨x, H1, I1, r1, a, e, q1⟩ => ?_
  subst e
  cases r1
  rcases q1 with ⟨⟨xs, hq⟩, q⟩ | ⟨⟨xs, hq⟩, q⟩
  · obtain ⟨its, rv, p, hz⟩ := I1.list hq
    refine wpAny_pyIter_list p.isList ⟨s1.heap.objs.size, [s1.heap.objs.size], _, _, H1, rfl, I1.kept (t' := s1.toks) fun b o e => Heap.get?_push_of_some _ e, turn_list a _, ⟨_, Heap.get?_push_size _ rfl, rfl, rfl⟩, fun b hb => ?_, q⟩
    obtain rfl : b = s1.heap.objs.size := by simpa using hb
    exact I1.fpOk (Nat.le_refl _) (I1.hok.fresh (Nat.le_refl _))
  · obtain ⟨its, rv, p, hz⟩ := I1.tuple hq
    refine wpAny_pyIter_tuple (show s1.heap.IsTuple a its.toArray from p) ⟨s1.heap.objs.size, [s1.heap.objs.size], _, _, H1, rfl, I1.kept (t' := s1.toks) fun b o e => Heap.get?_push_of_some _ e, turn_tuple a _, ⟨_, Heap.get?_push_size _ rfl, rfl, rfl⟩, fun b hb => ?_, q⟩
    obtain rfl : b = s1.heap.objs.size := by simpa using hb
    exact I1.fpOk (Nat.le_refl _) (I1.hok.fresh (Nat.le_refl _))
/-- walking a list or a tuple: one invariant -/
theorem for_seq {K : PySem.W.Frag} {a : Addr} {xs : List V} {g : TG} {tb : TS} {D : Ends} {σ : St} {H H0 : Hp} (ha : SqL K H0 a xs ∨ SqT K H0 a xs) (Pv : Nat → St → Hp → Prop) (h0 : Pv 0 σ H) (hl : ∀ i σ H1, i ≤ xs.length → Pv i σ H1 → EXT.Ext H0 H1)
    (hs : ∀ i x σ H, xs[i]? = some x → Pv i σ H → g x σ H fun σ2 H2 => tb { D with nx := Pv (i + 1), ct := Pv (i + 1), bk := D.nx } σ2 H2) (hd : ∀ σ H, Pv xs.length σ H → D.nx σ H) :
    let G : It → Prop := fun J => ∃ W : Nat → Nat → St → Hp → Prop, (∃ m, W 0 m σ H) ∧ ∀ i m σ H, W i m σ H →
      ((J.stop i H ∧ D.nx σ H) ∨ (J.go i H ∧ ∃ N : St → Hp → Prop, (∀ σ' H', N σ' H' → ∃ m', m' < m ∧ W (i + 1) m' σ' H') ∧ ∀ x H', J.yld i H x H' → g x σ H' fun σ2 H2 => tb { D with nx := N, ct := N, bk := D.nx } σ2 H2))
    ((∃ xs, SqL K H a xs) ∧ G (Itl K a)) ∨ ((∃ xs, SqT K H a xs) ∧ G (Itt K a)) := by
  rcases ha with h | h
  · exact .inl ⟨⟨xs, (hl _ _ _ (Nat.zero_le _) h0).seq h⟩, for_list Pv h0 (fun i σ H1 hi p => (hl i σ H1 hi p).seq h) hs hd⟩
  · exact .inr ⟨⟨xs, (hl _ _ _ (Nat.zero_le _) h0).tup h⟩, for_tup Pv h0 (fun i σ H1 hi p => (hl i σ H1 hi p).tup h) hs hd⟩
end L2
namespace L2
open PySem PySem.Spec PyProof.Rows
/-- pairs of ints, by their first, then by their second -/
def geP (x y : Int × Int) : Bool := !SrtO.lexB x y
theorem ge_not (i j : Int) : (!decide (i < j)) = decide (j ≤ i) := by
  by_cases z : i < j
  · rw [decide_eq_true z, decide_eq_false (by omega)]
    rfl
  · rw [decide_eq_false z, decide_eq_true (by omega)]
    rfl
/-- t >= u of two pairs of ints -/
def rGeP (K : PySem.W.Frag) : R2 := fun x y H Q => ∃ (a b : Addr) (p q : Int × Int), x = .ref a ∧ y = .ref b ∧ SqT K H a [.int p.1, .int p.2] ∧ SqT K H b [.int q.1, .int q.2] ∧ Q (.bl (geP p q)) H
theorem pair_vals {i j : Int} {its : List Value} (r : Vals [V.int i, .int j] its) : ∃ t u, its = [.int i t, .int j u] := by
  obtain ⟨u1, u2, rfl, ⟨t, rfl⟩, ⟨u, rfl⟩⟩ := vals2 r
  exact ⟨t, u, rfl⟩
theorem op_geP {X : Cx} (hu : X.A.units < cLine) : OpR X (compareOp .GtE) (rGeP X.K) := by
  intro pins s σ H x y v u Q I rx ry h
  obtain ⟨a, b, p, q, rfl, rfl, ha, hb, k⟩ := h
  cases rx
  cases ry
  obtain ⟨its, r1, p1, _⟩ := I.tuple ha
  obtain ⟨its2, r2, p2, _⟩ := I.tuple hb
  obtain ⟨t1, t2, rfl⟩ := pair_vals r1
  obtain ⟨t3, t4, rfl⟩ := pair_vals r2
  have R := Ob.RcOp.tuples_ge (A := X.A) (s := s) (e := fun j => if j = 0 then (p.1 == q.1) else (p.2 == q.2)) (r := fun j => if j = 0 then decide (q.1 ≤ p.1) else decide (q.2 ≤ p.2)) p1 p2 hu (fun j h1 h2 => by
    match j, h1, h2 with
    | 0, _, _ => exact SeqAt.EqAt.int_int _ _ _ _
    | 1, _, _ => exact SeqAt.EqAt.int_int _ _ _ _) (fun j h1 h2 _ => by
    match j, h1, h2 with
    | 0, _, _ => exact Ob.RcOp.ge_int _ _ _ _
    | 1, _, _ => exact Ob.RcOp.ge_int _ _ _ _)
  have e : geP p q = Ob.lexAt (fun j => if j = 0 then (p.1 == q.1) else (p.2 == q.2)) (fun j => if j = 0 then decide (q.1 ≤ p.1) else decide (q.2 ≤ p.2)) (decide (2 ≥ 2)) 0 2 := by
    rw [Ob.lexAt_succ, Ob.lexAt_succ, Ob.lexAt_zero]
    unfold geP SrtO.lexB
    by_cases e1 : p.1 = q.1
    · rw [if_pos e1, ge_not]
      by_cases e2 : p.2 = q.2
      · have b1 : (p.1 == q.1) = true := beq_iff_eq.mpr e1
        have b2 : (p.2 == q.2) = true := beq_iff_eq.mpr e2
        have z : q.2 ≤ p.2 := by omega
        simp [b1, b2, z]
      · have b1 : (p.1 == q.1) = true := beq_iff_eq.mpr e1
        have b2 : (p.2 == q.2) = false := beq_eq_false_iff_ne.mpr e2
        simp [b1, b2]
    · have b1 : (p.1 == q.1) = false := beq_eq_false_iff_ne.mpr e1
      rw [if_neg e1, ge_not]
      simp [b1]
  rw [e] at k
  have z : wpAny (model X.prog X.w) X.A (compareOp .GtE (.ref a) (.ref b)) (EP X pins σ Q) X.xe s := R X.prog X.w X.xe (EP X pins σ Q) ⟨.bl _, H, I, rfl, k⟩
  exact z
/-- a op b op' c op'' d -/
def tChain3 (r r' r'' : R2) (ta tb tc td : TE) : TE := fun σ H Q => ta σ H fun x H1 => tb σ H1 fun y H2 => r x y H2 fun z H3 => ∃ k, z = .bl k ∧
  (if k = true then tc σ H3 fun w' H4 => r' y w' H4 fun z2 H5 => ∃ k2, z2 = .bl k2 ∧ (if k2 = true then td σ H5 fun w2 H6 => r'' w' w2 H6 Q else Q (.bl false) H5) else Q (.bl false) H3)
theorem pe_chain3 {X : Cx} {a b c d : Expr} {pos : Pos} {ta tb tc td : TE} {op op' op'' : CmpOp} {r r' r'' : R2} (ho : OpR X (compareOp op) r) (ho' : OpR X (compareOp op') r') (ho'' : OpR X (compareOp op'') r'') (ha : PE X a ta) (hb : PE X b tb) (hc : PE X c tc) (hd : PE X d td)
    (hm : lastMarks [op, op', op''] [b, c, d] = false := by with_unfolding_all rfl) : PE X (.Compare a [op, op', op''] [b, c, d] pos) (tChain3 r r' r'' ta tb tc td) := by
  refine ⟨fun pins s σ H Q I h => ?_⟩
  refine Compare_chain (thn (ha.run pins s σ H _ I h) fun v s1 ⟨x, H1, I1, r1, q1⟩ => chain_link (thn (hb.run pins s1 σ H1 _ I1 q1) fun u s2 ⟨y, H2, I2, r2, q2⟩ =>
    thn (ho pins s2 σ H2 x y v u _ I2 r1 r2 q2) fun d s3 ⟨z, H3, I3, r3, k, e, q3⟩ => ?_)) hm
  subst e
  cases r3
  refine wpAny_truthy_bool ?_
  cases k with
  | false => exact ite_ff ⟨.bl false, H3, I3, rfl, q3⟩
  | true =>
    refine ite_tt (chain_link (thn (hc.run pins s3 σ H3 _ I3 q3) fun w' s4 ⟨z', H4, I4, r4, q4⟩ => thn (ho' pins s4 σ H4 y z' u w' _ I4 r2 r4 q4) fun d5 s5 ⟨z5, H5, I5, r5, k5, e5, q5⟩ => ?_))
    subst e5
    cases r5
    refine wpAny_truthy_bool ?_
    cases k5 with
    | false => exact ite_ff ⟨.bl false, H5, I5, rfl, q5⟩
    | true => exact ite_tt (chain_last (thn (hd.run pins s5 σ H5 _ I5 q5) fun w2 s6 ⟨z6, H6, I6, r6, q6⟩ => ho'' pins s6 σ H6 z' z6 w' w2 Q I6 r4 r6 q6))
theorem pt_chain3 {X : Cx} {a b c d : Expr} {pos : Pos} {ta tb tc td : TE} {op op' op'' : CmpOp} {r r' r'' : R2} (ho : OpR X (compareOp op) r) (ho' : OpR X (compareOp op') r') (ho'' : OpR X (compareOp op'') r'') (ha : PE X a ta) (hb : PE X b tb) (hc : PE X c tc) (hd : PE X d td)
    (hm : lastMarks [op, op', op''] [b, c, d] = false := by with_unfolding_all rfl) : PT X (.Compare a [op, op', op''] [b, c, d] pos) (tTest (tChain3 r r' r'' ta tb tc td)) := by
  refine ⟨fun pins s σ H Q I h => ?_⟩
  refine isTrue_chain (thn (ha.run pins s σ H _ I h) fun v s1 ⟨x, H1, I1, r1, q1⟩ => test_link (thn (hb.run pins s1 σ H1 _ I1 q1) fun u s2 ⟨y, H2, I2, r2, q2⟩ =>
    thn (ho pins s2 σ H2 x y v u _ I2 r1 r2 q2) fun d s3 ⟨z, H3, I3, r3, k, e, q3⟩ => ?_)) hm
  subst e
  cases r3
  refine wpAny_truthy_bool ?_
  cases k with
  | false =>
    obtain ⟨k', e', q'⟩ := q3
    cases e'
    exact ite_ff ⟨H3, I3, q'⟩
  | true =>
    refine ite_tt (test_link (thn (hc.run pins s3 σ H3 _ I3 q3) fun w' s4 ⟨z', H4, I4, r4, q4⟩ => thn (ho' pins s4 σ H4 y z' u w' _ I4 r2 r4 q4) fun d5 s5 ⟨z5, H5, I5, r5, k5, e5, q5⟩ => ?_))
    subst e5
    cases r5
    refine wpAny_truthy_bool ?_
    cases k5 with
    | false =>
      obtain ⟨k', e', q'⟩ := q5
      cases e'
      exact ite_ff ⟨H5, I5, q'⟩
    | true =>
      refine ite_tt (test_last (thn (hd.run pins s5 σ H5 _ I5 q5) fun w2 s6 ⟨z6, H6, I6, r6, q6⟩ => thn (ho'' pins s6 σ H6 z' z6 w' w2 _ I6 r4 r6 q6) fun d7 s7 ⟨z7, H7, I7, r7, k7, e7, q7⟩ => ?_))
      subst e7
      cases r7
      exact wpAny_truthy_bool ⟨H7, I7, q7⟩
end L2
namespace L2
open PySem PySem.Spec PyProof.Rows RZ
/-- zip of two tuples, the second not longer than the first -/
theorem for_zipM {K : PySem.W.Frag} {a b : Addr} {xs ys : List V} {g : TG} {tb : TS} {D : Ends} {σ : L2.St} {H : Hp} (hl : ys.length ≤ xs.length) (Pv : Nat → L2.St → Hp → Prop) (h0 : Pv 0 σ H) (hq : ∀ i σ H, Pv i σ H → SqT K H a xs ∧ SqT K H b ys)
    (hs : ∀ (i : Nat) (x y : V) (T : Addr) (σ : L2.St) (H : Hp), xs[i]? = some x → ys[i]? = some y → Pv i σ H → H T = none → g (.ref T) σ (upd H T (.tup [x, y])) fun σ2 H2 => tb { D with nx := Pv (i + 1), ct := Pv (i + 1), bk := D.nx } σ2 H2)
    (hd : ∀ σ H, Pv ys.length σ H → D.nx σ H) :
    ∃ W : Nat → Nat → L2.St → Hp → Prop, (∃ m, W 0 m σ H) ∧ ∀ i m σ H, W i m σ H →
      ((ItzT K a b).stop i H ∧ D.nx σ H) ∨ ((ItzT K a b).go i H ∧ ∃ N : L2.St → Hp → Prop, (∀ σ' H', N σ' H' → ∃ m', m' < m ∧ W (i + 1) m' σ' H') ∧ ∀ v H', (ItzT K a b).yld i H v H' → g v σ H' fun σ2 H2 => tb { D with nx := N, ct := N, bk := D.nx } σ2 H2) := by
  refine ⟨fun i m σ H => m = ys.length - i ∧ i ≤ ys.length ∧ Pv i σ H, ⟨ys.length, rfl, Nat.zero_le _, h0⟩, ?_⟩
  rintro i m σ H ⟨rfl, hi, p⟩
  obtain ⟨qx, qy⟩ := hq i σ H p
  by_cases hlt : i < ys.length
  · have hlx : i < xs.length := by omega
    refine .inr ⟨⟨xs, ys, _, _, qx, qy, List.getElem?_eq_getElem hlx, List.getElem?_eq_getElem hlt⟩, Pv (i + 1), fun σ' H' p' => ⟨ys.length - (i + 1), by omega, rfl, hlt, p'⟩, fun v H' y => ?_⟩
    obtain ⟨T, x', y', rfl, hT, rfl, f1, f2⟩ := y
    exact hs i x' y' T σ H (f1 xs qx) (f2 ys qy) p hT
  · obtain rfl : i = ys.length := by omega
    exact .inl ⟨⟨xs, ys, qx, qy, Or.inr (Nat.le_refl _)⟩, hd σ H p⟩
end L2
namespace L2
open PySem PySem.Spec PyProof.Rows
section
variable {X : Cx} {CX : CXT} {k : Nat} {f C : Addr} {fd : FuncData} {ps : List Str} {sp : Sp} {E : St → XK} {x : Str} {p pos : Pos} {e : Expr} {es : List Expr} {t : TA}
/-- C(..) in a try's body: what it lets out may speak of the slots -/
theorem run_makeS {pins : List (Addr × Obj)} {σ : St} {H : Hp} {s : Shared} {Q : VK} {us : List Value} {vs : List V} (M : Mk X.K C f) (F : FnOk X.prog X.w X.K X.mg X.base CX k f fd ps sp) (hr : Room (k + 1) X.A) (hb : Binds X.K fd ps [])
    (hx : PassesAt CX X σ (E σ)) (I : Inv X pins σ H s) (r : Vals vs us)
    (h : ∀ x dx, H x = none → H dx = none → dx ≠ x → sp (.ref x :: vs) (upd (upd H dx (.own x)) x (.ins C dx [])) (fun v H2 => v = .non ∧ Q (.ref x) H2) (E σ)) :
    wpAny (model X.prog X.w) X.A (call (.ref C) us) (EP X pins σ Q) X.xe s := by
  have hq := h (s.heap.objs.size + 1) s.heap.objs.size (I.hok.fresh (Nat.le_succ _)) (I.hok.fresh (Nat.le_refl _)) (Nat.ne_of_lt (Nat.lt_succ_self _))
  have I2 := Inv.made (C := C) I
  have r2 : Vals (V.ref (s.heap.objs.size + 1) :: vs) (Value.ref (s.heap.objs.size + 1) :: us) := .cons rfl r
  have hl : (Value.ref (s.heap.objs.size + 1) :: us).length = ps.length := by
    have l1 := r2.length
    rw [F.len _ _ _ _ hq] at l1
    exact l1.symm
  have bb := hb _ (Value.ref (s.heap.objs.size + 1) :: us) I2.kIn (by rw [List.append_nil]; exact hl)
  rw [List.append_nil] at bb
  refine wpAny_call (make_map (f := f) I.kIn M.makes M.init (beq_iff_eq.mp M.fn) (codeAny_mono (F.run _ X.stack _ _ ⟨Value.ref (s.heap.objs.size + 1) :: us, []⟩ (Value.ref (s.heap.objs.size + 1) :: us) _ _ (E σ) (hr.make C us []) (I2.env0.make C us []) bb r2 hq) fun r s' hq' => ?_))
  cases r with
  | error e => exact hx pins _ _ e s' I2 hq'
  | ok fl =>
    cases fl with
    | ret u =>
      obtain ⟨v, H', I3, rv, ev, q3⟩ := I2.after hq'
      subst ev
      exact ⟨rv, ⟨V.ref (s.heap.objs.size + 1), H', I3, rfl, q3⟩⟩
    | next => exact False.elim hq'
    | brk => exact False.elim hq'
    | cont => exact False.elim hq'
def tMakeS (C : Addr) (sp : Sp) (E : St → XK) (t : TA) : TE := fun σ H Q => t σ H fun vs H1 => ∀ x dx, H1 x = none → H1 dx = none → dx ≠ x →
  sp (.ref x :: vs) (upd (upd H1 dx (.own x)) x (.ins C dx [])) (fun v H2 => v = .non ∧ Q (.ref x) H2) (E σ)
theorem pe_makeS (M : Mk X.K C f) (F : FnOk X.prog X.w X.K X.mg X.base CX k f fd ps sp) (hr : Room (k + 1) X.A) (hg : Gl X x) (hm : X.mg x = some (.ref C)) (hb : Binds X.K fd ps []) (hx : ∀ σ, PassesAt CX X σ (E σ))
    (ha : PA X (e :: es) t) (hdb : (x == ("__debug__" : Str)) = false := by decide) (he : starEach (e :: es) X.env = (false, eval e X.env) :: starEach es X.env := by rfl) (hpl : (backTo pos (starEach es X.env)).any (·.1) = false := by rfl) :
    PE X (.Call (.Name x p) (e :: es) [] pos) (tMakeS C sp E t) := by
  refine ⟨fun pins s σ H Q I h => ?_⟩
  refine wpAny_Call_Name_kw (ld_glob I hg hm ?_ hdb)
  refine PySem.W.callWith_K (h₀ := X.base) I.ok.mod.kin M.kp (thn (ha.run pos pins s σ H _ I h) fun us s1 ⟨vs, H1, I1, r, q⟩ => ⟨I1.kIn, ?_⟩) he hpl
  exact run_makeS M F hr hb (hx σ) I1 r q
end
end L2
namespace KP
open PySem PySem.Spec PyProof.Rows L2 EXT SDT GXP
def veB : List Value := [.type "ValueError", .type "Exception", .type "BaseException", .type "object"]
def topS (i : Nat) : Stmt := PySem.Challenge.pw_spinfield_k05_spins.main.body.getD i (.Pass ⟨0, 0, 0, 0⟩)
abbrev s_Spins_init : Stmt := inClass (topS 7) 0
abbrev n_Spins_init : List Str := ["self", "fields", "edges", "edge"]
theorem sc_Spins_init : FnScope n_Spins_init ["self", "fields", "edges"] (defScope s_Spins_init) := ⟨rfl, rfl, rfl, by decide +kernel, rfl, by decide +kernel, by decide +kernel⟩
abbrev s_check_fields : Stmt := topS 8
abbrev n_check_fields : List Str := ["fields", "field"]
theorem sc_check_fields : FnScope n_check_fields ["fields"] (defScope s_check_fields) := ⟨rfl, rfl, rfl, by decide +kernel, rfl, by decide +kernel, by decide +kernel⟩
abbrev s_check_edges : Stmt := topS 9
abbrev n_check_edges : List Str := ["edges", "count", "u", "v", "j", "before", "behind"]
theorem sc_check_edges : FnScope n_check_edges ["edges", "count"] (defScope s_check_edges) := ⟨rfl, rfl, rfl, by decide +kernel, rfl, by decide +kernel, by decide +kernel⟩
abbrev s_law_cell : Stmt := topS 11
abbrev n_law_cell : List Str := ["script", "k"]
theorem sc_law_cell : FnScope n_law_cell ["script", "k"] (defScope s_law_cell) := ⟨rfl, rfl, rfl, by decide +kernel, rfl, by decide +kernel, by decide +kernel⟩
abbrev s_law_mix : Stmt := topS 12
abbrev n_law_mix : List Str := ["cell", "k", "number"]
theorem sc_law_mix : FnScope n_law_mix ["cell", "k"] (defScope s_law_mix) := ⟨rfl, rfl, rfl, by decide +kernel, rfl, by decide +kernel, by decide +kernel⟩
abbrev s_law_row : Stmt := topS 13
abbrev n_law_row : List Str := ["cell", "count", "bound", "found", "rest", "k"]
theorem sc_law_row : FnScope n_law_row ["cell", "count", "bound"] (defScope s_law_row) := ⟨rfl, rfl, rfl, by decide +kernel, rfl, by decide +kernel, by decide +kernel⟩
abbrev s_law_tuples : Stmt := topS 14
abbrev n_law_tuples : List Str := ["thing", "part"]
theorem sc_law_tuples : FnScope n_law_tuples ["thing"] (defScope s_law_tuples) := ⟨rfl, rfl, rfl, by decide +kernel, rfl, by decide +kernel, by decide +kernel⟩
abbrev s_law_spins : Stmt := topS 15
abbrev n_law_spins : List Str := ["script", "first", "most", "kind", "count", "fields", "digit", "pairs", "u", "v", "edges", "digits", "k", "coupling"]
theorem sc_law_spins : FnScope n_law_spins ["script", "first", "most", "kind"] (defScope s_law_spins) := ⟨rfl, rfl, rfl, by decide +kernel, rfl, by decide +kernel, by decide +kernel⟩
abbrev s_law_is_spins : Stmt := topS 16
abbrev n_law_is_spins : List Str := ["fields", "edges", "field", "k", "u", "v", "coupling"]
theorem sc_law_is_spins : FnScope n_law_is_spins ["fields", "edges"] (defScope s_law_is_spins) := ⟨rfl, rfl, rfl, by decide +kernel, rfl, by decide +kernel, by decide +kernel⟩
abbrev s_law_all_edges : Stmt := topS 17
abbrev n_law_all_edges : List Str := ["count", "most", "found", "u", "v"]
theorem sc_law_all_edges : FnScope n_law_all_edges ["count", "most"] (defScope s_law_all_edges) := ⟨rfl, rfl, rfl, by decide +kernel, rfl, by decide +kernel, by decide +kernel⟩
abbrev s_law_changed : Stmt := topS 18
abbrev n_law_changed : List Str := ["fields", "edges", "cell", "kind", "at", "place", "u", "v", "coupling", "other"]
theorem sc_law_changed : FnScope n_law_changed ["fields", "edges", "cell"] (defScope s_law_changed) := ⟨rfl, rfl, rfl, by decide +kernel, rfl, by decide +kernel, by decide +kernel⟩
abbrev s_law : Stmt := topS 19
abbrev n_law : List Str := ["script", "fields", "edges", "cell", "good", "copies", "spins", "e", "due"]
theorem sc_law : FnScope n_law ["script"] (defScope s_law) := ⟨rfl, rfl, rfl, by decide +kernel, rfl, by decide +kernel, by decide +kernel⟩
structure Top (K : PySem.W.Frag) (mg : Str → Option Value) : Type where
  f_check_fields : Addr
  d_check_fields : FuncData
  c_check_fields : Addr
  P_check_fields : Addr
  F_check_fields : FunC K "_check_fields" "_check_fields" s_check_fields f_check_fields d_check_fields c_check_fields
  b_check_fields : Binds K d_check_fields ["fields"] []
  g_check_fields : mg "_check_fields" = some (.ref f_check_fields)
  f_check_edges : Addr
  d_check_edges : FuncData
  F_check_edges : Fun K "_check_edges" "_check_edges" s_check_edges f_check_edges d_check_edges
  b_check_edges : Binds K d_check_edges ["edges", "count"] []
  g_check_edges : mg "_check_edges" = some (.ref f_check_edges)
  f_law_cell : Addr
  d_law_cell : FuncData
  F_law_cell : Fun K "_law_cell" "_law_cell" s_law_cell f_law_cell d_law_cell
  b_law_cell : Binds K d_law_cell ["script", "k"] []
  g_law_cell : mg "_law_cell" = some (.ref f_law_cell)
  f_law_mix : Addr
  d_law_mix : FuncData
  F_law_mix : Fun K "_law_mix" "_law_mix" s_law_mix f_law_mix d_law_mix
  b_law_mix : Binds K d_law_mix ["cell", "k"] []
  g_law_mix : mg "_law_mix" = some (.ref f_law_mix)
  f_law_row : Addr
  d_law_row : FuncData
  F_law_row : Fun K "_law_row" "_law_row" s_law_row f_law_row d_law_row
  b_law_row : Binds K d_law_row ["cell", "count", "bound"] []
  g_law_row : mg "_law_row" = some (.ref f_law_row)
  f_law_tuples : Addr
  d_law_tuples : FuncData
  F_law_tuples : Fun K "_law_tuples" "_law_tuples" s_law_tuples f_law_tuples d_law_tuples
  b_law_tuples : Binds K d_law_tuples ["thing"] []
  g_law_tuples : mg "_law_tuples" = some (.ref f_law_tuples)
  f_law_spins : Addr
  d_law_spins : FuncData
  F_law_spins : Fun K "_law_spins" "_law_spins" s_law_spins f_law_spins d_law_spins
  b_law_spins : Binds K d_law_spins ["script", "first", "most", "kind"] []
  g_law_spins : mg "_law_spins" = some (.ref f_law_spins)
  f_law_is_spins : Addr
  d_law_is_spins : FuncData
  F_law_is_spins : Fun K "_law_is_spins" "_law_is_spins" s_law_is_spins f_law_is_spins d_law_is_spins
  b_law_is_spins : Binds K d_law_is_spins ["fields", "edges"] []
  g_law_is_spins : mg "_law_is_spins" = some (.ref f_law_is_spins)
  f_law_all_edges : Addr
  d_law_all_edges : FuncData
  F_law_all_edges : Fun K "_law_all_edges" "_law_all_edges" s_law_all_edges f_law_all_edges d_law_all_edges
  b_law_all_edges : Binds K d_law_all_edges ["count", "most"] []
  g_law_all_edges : mg "_law_all_edges" = some (.ref f_law_all_edges)
  f_law_changed : Addr
  d_law_changed : FuncData
  F_law_changed : Fun K "_law_changed" "_law_changed" s_law_changed f_law_changed d_law_changed
  b_law_changed : Binds K d_law_changed ["fields", "edges", "cell"] []
  g_law_changed : mg "_law_changed" = some (.ref f_law_changed)
  t_MOST_VERTICES : Tok
  g_MOST_VERTICES : mg "MOST_VERTICES" = some (.int 12 t_MOST_VERTICES)
  t_MOST_EDGES : Tok
  g_MOST_EDGES : mg "MOST_EDGES" = some (.int 24 t_MOST_EDGES)
  t_MOST_SIZE : Tok
  g_MOST_SIZE : mg "MOST_SIZE" = some (.int 9 t_MOST_SIZE)
  f_FieldError : Addr
  g_FieldError : mg "FieldError" = some (.ref f_FieldError)
  q_FieldError : PySem.W.excIn K f_FieldError veB "ValueError.__new__" = true
  k_FieldError : PySem.W.keepIn K (.ref f_FieldError) = true
  b_FieldError : PySem.W.subIn K (.ref f_FieldError) (.type "BaseException") = some true
  y_FieldError : PySem.W.typeIn K (.ref f_FieldError) = some (.type "type")
  f_InvalidSpins : Addr
  g_InvalidSpins : mg "InvalidSpins" = some (.ref f_InvalidSpins)
  q_InvalidSpins : PySem.W.excIn K f_InvalidSpins veB "ValueError.__new__" = true
  k_InvalidSpins : PySem.W.keepIn K (.ref f_InvalidSpins) = true
  b_InvalidSpins : PySem.W.subIn K (.ref f_InvalidSpins) (.type "BaseException") = some true
  y_InvalidSpins : PySem.W.typeIn K (.ref f_InvalidSpins) = some (.type "type")
  C_Spins : Addr
  g_Spins : mg "Spins" = some (.ref C_Spins)
  cl_Spins : Cls K C_Spins
  f_Spins_init : Addr
  d_Spins_init : FuncData
  c_Spins_init : Addr
  P_Spins_init : Addr
  F_Spins_init : FunC K "__init__" "Spins.__init__" s_Spins_init f_Spins_init d_Spins_init c_Spins_init
  b_Spins_init : Binds K d_Spins_init ["self", "fields", "edges"] []
  mk_Spins : Mk K C_Spins f_Spins_init
  na_Spins_fields : NoAttr K C_Spins "fields"
  na_Spins_edges : NoAttr K C_Spins "edges"
  m_abs : mg "abs" = none
  m_all : mg "all" = none
  m_bool : mg "bool" = none
  m_int : mg "int" = none
  m_isinstance : mg "isinstance" = none
  m_len : mg "len" = none
  m_list : mg "list" = none
  m_range : mg "range" = none
  m_tuple : mg "tuple" = none
  m_zip : mg "zip" = none
  xm : PySem.W.exmOne K (.ref f_InvalidSpins) (.ref f_FieldError) = some true
  ki : PySem.W.kitOne K (.ref f_InvalidSpins) (.ref f_InvalidSpins) = some true
  kv : PySem.W.kitOne K (.ref f_InvalidSpins) (.type "ValueError") = some true
  ec : ExcC K f_InvalidSpins
  m_ValueError : mg "ValueError" = none
structure Tb {K : PySem.W.Frag} {mg : Str → Option Value} (T : Top K mg) (base : Heap) : Prop where
  t_Spins_init : LamX.TabB base mg T.c_Spins_init T.P_Spins_init
  t_check_fields : LamX.TabB base mg T.c_check_fields T.P_check_fields
/-- the tables stand -/
structure Tg {K : PySem.W.Frag} {mg : Str → Option Value} (T : Top K mg) (H : Hp) : Prop where
  t_Spins_init : GxR.TabG H T.P_Spins_init
  t_check_fields : GxR.TabG H T.P_check_fields
theorem Tg.ext {K : PySem.W.Frag} {mg : Str → Option Value} {T : Top K mg} {H H1 : Hp} (G : Tg T H) (s : Ext H H1) : Tg T H1 := ⟨s.tab G.t_Spins_init, s.tab G.t_check_fields⟩
theorem sl2 : (2 : Nat) ≤ sizeLine := by rw [sizeLine_eq]; decide
theorem sl_of {n : Nat} (h : n ≤ 1000000) : n ≤ sizeLine := by rw [sizeLine_eq]; omega
theorem sl_lt {n : Nat} (h : n < 1000000) : n < sizeLine := by rw [sizeLine_eq]; omega
end KP
namespace KP
open PySem PySem.Spec PyProof.Rows L2 EXT SDT GXP
section
variable {P : Program} {w : World} {K : PySem.W.Frag} {mg : Str → Option Value} {base : Heap}
theorem _root_.L2.FunC.okX {x qual : Str} {st : Stmt} {f c : Addr} {fd : FuncData} {N ps : List Str} {k : Nat} {sp : Sp} (F : FunC K x qual st f fd c) (S : FnScope N ps (defScope st)) (len : ∀ vs H Q E, sp vs H Q E → vs.length = ps.length)
    (hbody : ∀ (A : Around) (outer : List Env) (s : Shared) (H : Hp) (vs : List V) (Q : VK) (E : XK), Room k (A.deeper (envOfC qual (defScope st) s.heap.objs.size f (.ref c))) → sp vs H Q E →
      ∃ t, PSs (cxOf (L2.CX P w) P w K mg base N qual (defScope st) f (.ref c) A outer s H E) (defBody st) t ∧ t { nx := fun _ H' => Q .non H', rt := Q } (start N vs) H) :
    FnOk P w K mg base (L2.CX P w) (k + 1) f fd ps sp := by
  obtain ⟨oc, od, kV, doc, pm, an, ct, osl, e, lk, hcd⟩ := F.ex
  subst e
  exact fn_of lk hcd S len fun A outer s H vs Q E hr hsp => hbody A outer s H vs Q E hr hsp
theorem iteB {c : Bool} {A B : Prop} (h1 : c = true → A) (h2 : c = false → B) : if c = true then A else B := by
  cases c
  · exact iteF (h2 rfl)
  · exact iteT (h1 rfl)
/-- fields as they may be -/
def goodF (fs : List Int) : Prop := 1 ≤ fs.length ∧ fs.length ≤ 12 ∧ ∀ f ∈ fs, -9 ≤ f ∧ f ≤ 9
def spFields (T : Top K mg) : Sp := fun vs H Q E => ∃ (a : Addr) (fs : List Int), vs = [.ref a] ∧ SqT K H a (fs.map V.int) ∧ Tg T H ∧
  (goodF fs → ∀ H', Ext H H' → Q .non H') ∧ (¬ goodF fs → ∀ H', Ext H H' → E (.ref T.f_InvalidSpins) none H')
theorem ok_check_fields (T : Top K mg) (B : Tb T base) : FnOk P w K mg base (L2.CX P w) 2 T.f_check_fields T.d_check_fields ["fields"] (spFields T) := by
  refine T.F_check_fields.okX sc_check_fields (fun vs H Q E h => ?_) (fun A outer s H vs Q E hr h => ?_)
  · obtain ⟨a, fs, rfl, _⟩ := h
    rfl
  · obtain ⟨a, fs, rfl, ha, G, q1, q2⟩ := h
    refine ⟨_, (pss_cons (ps_if (pt_not (pt_chain op_le op_le pe_int (pe_callB call_len_seq (by rfl) T.m_len (by decide +kernel) (pa_cons (pv 0) pa_nil)) (pe_glob (v := .int 12) (by rfl) T.g_MOST_VERTICES ⟨_, rfl⟩))) (pss_one (ps_raise rfl (takes_of rfl rfl rfl rfl) (pmk_own PySem.F.excBase_ValueError T.q_InvalidSpins T.g_InvalidSpins T.k_InvalidSpins (raises_own T.b_InvalidSpins T.y_InvalidSpins) (by rfl)))) pss_nil)
      (pss_one (ps_if (pt_not (pt_val (GXP.pe_allGx (own := [("field", 1)]) (g := gName 1) (tt := tYes) (k := 0) (c := T.c_check_fields) (P := T.P_check_fields) (by rfl) T.m_all ⟨hr.mono (by decide), rfl, B.t_check_fields, rfl, rfl, blkOk_by (own := [("field", 1)]) (N := n_check_fields) (sc := defScope s_check_fields) (by decide +kernel), sc_check_fields.nd, by decide +kernel, rfl, (pi_tup (pv 0)), fun A s H C cl code bi fp hrA => (pg_name (i := 1) sc_check_fields.nd rfl (by first | exact .inl rfl | exact .inr rfl)), fun A s H C cl code bi fp hrA => pts_nil, fun A s H C cl code bi fp hrA => (pe_chain op_le op_le (pe_un un_neg (pe_glob (v := .int 9) (by rfl) T.g_MOST_SIZE ⟨_, rfl⟩)) (pv 1) (pe_glob (v := .int 9) (by rfl) T.g_MOST_SIZE ⟨_, rfl⟩)), fun _ => rfl⟩))) (pss_one (ps_raise rfl (takes_of rfl rfl rfl rfl) (pmk_own PySem.F.excBase_ValueError T.q_InvalidSpins T.g_InvalidSpins T.k_InvalidSpins (raises_own T.b_InvalidSpins T.y_InvalidSpins) (by rfl)))) pss_nil))), ?_⟩
    have hl : (fs.map V.int).length = fs.length := List.length_map _
    have bad : ¬ goodF fs → ∀ H', Ext H H' → E (.ref T.f_InvalidSpins) none H' := q2
    refine ⟨_, rfl, a, _, rfl, .inr ha, _, _, rfl, rfl, _, rfl, ite2 (fun e1 => ?_) (fun e1 => ?_)⟩
    · have e1 : 1 ≤ fs.length := by
        have := of_decide_eq_true e1
        rw [hl] at this
        omega
      refine ⟨_, _, rfl, rfl, _, rfl, iteB (fun e2 => ?_) (fun e2 => ?_)⟩
      · have e2 : ¬ fs.length ≤ 12 := fun z => by
          have e3 : (12 : Int) < fs.length := by simpa using e2
          omega
        exact bad (fun g => e2 g.2.1) H (Ext.refl H)
      · have e2 : fs.length ≤ 12 := by
          have : decide (((fs.map V.int).length : Int) ≤ 12) = true := by simpa using e2
          have := of_decide_eq_true this
          rw [hl] at this
          omega
        refine ⟨_, rfl, a, rfl, ⟨_, ha⟩, G.t_check_fields, fun H2 t2 => ?_⟩
        have x2 : Ext H H2 := ext_tabbed G.t_check_fields t2
        refine gx_tup (xs := fs.map V.int) (fun i zs H3 => H3 = H2 ∧ ∀ f ∈ fs.take i, -9 ≤ f ∧ f ≤ 9) ⟨rfl, fun f m => by simp at m⟩ (fun i zs H3 _ h => by rw [h.1]; exact x2.tup ha) (fun i x zs H3 hi hP => ?_) (fun zs H3 hP => ?_)
        · obtain ⟨rfl, hz⟩ := hP
          rw [List.getElem?_map] at hi
          cases hf : fs[i]? with
          | none => rw [hf] at hi; cases hi
          | some f =>
            rw [hf] at hi
            cases hi
            have hm := List.mem_of_getElem? hf
            have take1 : fs.take (i + 1) = fs.take i ++ [f] := by rw [List.take_add_one, hf]; rfl
            refine ⟨rfl, _, rfl, _, rfl, _, _, rfl, rfl, _, rfl, ite2 (fun e3 => ?_) (fun e3 => ?_)⟩
            · have e3 := of_decide_eq_true e3
              refine ⟨_, _, rfl, rfl, _, rfl, ?_⟩
              by_cases e4 : f ≤ 9
              · rw [decide_eq_true e4, if_neg (by decide)]
                refine ⟨rfl, fun g m => ?_⟩
                rw [take1] at m
                rcases List.mem_append.mp m with m | m
                · exact hz g m
                · rw [List.mem_singleton.mp m]
                  exact ⟨e3, e4⟩
              · rw [decide_eq_false e4, if_pos rfl]
                exact ⟨_, rfl, iteT (bad (fun g => e4 (g.2.2 f hm).2) _ x2)⟩
            · have e3 : ¬ -9 ≤ f := fun z => e3 (decide_eq_true z)
              refine ⟨_, rfl, ?_⟩
              rw [if_pos rfl]
              exact ⟨_, rfl, iteT (bad (fun g => e3 (g.2.2 f hm).1) _ x2)⟩
        · obtain ⟨rfl, hz⟩ := hP
          rw [hl, List.take_length] at hz
          exact ⟨_, rfl, iteF (q1 ⟨e1, e2, hz⟩ _ x2)⟩
    · have e1 : ¬ 1 ≤ fs.length := fun z => e1 (decide_eq_true (by rw [hl]; omega))
      exact ⟨_, rfl, iteT (bad (fun g => e1 g.1) H (Ext.refl H))⟩
/-- an edge, as a tuple of three ints -/
abbrev Eg := Int × Int × Int
def EdgeAt (K : PySem.W.Frag) (H : Hp) (v : V) (e : Eg) : Prop := ∃ a, v = .ref a ∧ SqT K H a [.int e.1, .int e.2.1, .int e.2.2]
def okE (n : Int) (e : Eg) : Prop := 0 ≤ e.1 ∧ e.1 < e.2.1 ∧ e.2.1 < n ∧ e.2.2 ≠ 0 ∧ -9 ≤ e.2.2 ∧ e.2.2 ≤ 9
def ltEg (x y : Eg) : Prop := x.1 < y.1 ∨ (x.1 = y.1 ∧ x.2.1 < y.2.1)
def goodE (n : Int) (es : List Eg) : Prop := es.length ≤ 24 ∧ (∀ e ∈ es, okE n e) ∧ ∀ i x y, es[i]? = some x → es[i + 1]? = some y → ltEg x y
def spEdges (T : Top K mg) : Sp := fun vs H Q E => ∃ (a : Addr) (xs : List V) (es : List Eg) (n : Int), vs = [.ref a, .int n] ∧ SqT K H a xs ∧ Paired (EdgeAt K H) xs es ∧ es.length < 1000000 ∧
  (goodE n es → ∀ H', Ext H H' → Q .non H') ∧ (¬ goodE n es → ∀ H', Ext H H' → E (.ref T.f_InvalidSpins) none H')
theorem cut2 {x y z : V} : ¬ (HT.sIx [x, y, z].length 0 none = 0 ∧ HT.sIx [x, y, z].length [x, y, z].length (some 2) = [x, y, z].length) := fun w => by
  have h := w.2
  rw [show (some (2 : Int)) = some ((2 : Nat) : Int) from rfl, HT.sIx_nat] at h
  simp at h
theorem ok_check_edges (T : Top K mg) : FnOk P w K mg base (L2.CX P w) 1 T.f_check_edges T.d_check_edges ["edges", "count"] (spEdges T) := by
  refine T.F_check_edges.okX sc_check_edges (fun vs H Q E h => ?_) (fun cdv A outer s H vs Q E hr h => ?_)
  · obtain ⟨a, xs, es, n, rfl, _⟩ := h
    rfl
  · obtain ⟨a, xs, es, n, rfl, ha, hes, hlen, q1, q2⟩ := h
    refine ⟨_, (pss_cons (ps_if (pt_cmpR op_gt (pe_callB call_len_seq (by rfl) T.m_len (by decide +kernel) (pa_cons (pv 0) pa_nil)) (pe_glob (v := .int 24) (by rfl) T.g_MOST_EDGES ⟨_, rfl⟩) (nomark _)) (pss_one (ps_raise rfl (takes_of rfl rfl rfl rfl) (pmk_own PySem.F.excBase_ValueError T.q_InvalidSpins T.g_InvalidSpins T.k_InvalidSpins (raises_own T.b_InvalidSpins T.y_InvalidSpins) (by rfl)))) pss_nil)
      (pss_cons (ps_for (passes_of rfl) rfl (pi_tup (pv 0)) (pg_tup rfl (pgs_cons (pg_name (i := 2) sc_check_edges.nd rfl (by first | exact .inl rfl | exact .inr rfl)) (pgs_cons (pg_name (i := 3) sc_check_edges.nd rfl (by first | exact .inl rfl | exact .inr rfl)) (pgs_cons (pg_name (i := 4) sc_check_edges.nd rfl (by first | exact .inl rfl | exact .inr rfl)) pgs_nil)))) (pss_cons (ps_if (pt_not (pt_chain3 op_le op_lt op_lt pe_int (pv 2) (pv 3) (pv 1))) (pss_one (ps_raise rfl (takes_of rfl rfl rfl rfl) (pmk_own PySem.F.excBase_ValueError T.q_InvalidSpins T.g_InvalidSpins T.k_InvalidSpins (raises_own T.b_InvalidSpins T.y_InvalidSpins) (by rfl)))) pss_nil)
      (pss_one (ps_if (PW.pt (pw_or (pt_cmpR op_eq (pv 4) pe_int (nomark _)) (pw_or1 (pt_not (pt_chain op_le op_le (pe_un un_neg (pe_glob (v := .int 9) (by rfl) T.g_MOST_SIZE ⟨_, rfl⟩)) (pv 4) (pe_glob (v := .int 9) (by rfl) T.g_MOST_SIZE ⟨_, rfl⟩)))))) (pss_one (ps_raise rfl (takes_of rfl rfl rfl rfl) (pmk_own PySem.F.excBase_ValueError T.q_InvalidSpins T.g_InvalidSpins T.k_InvalidSpins (raises_own T.b_InvalidSpins T.y_InvalidSpins) (by rfl)))) pss_nil))))
      (pss_one (ps_for (passes_of rfl) rfl (RZ.pi_zipA (by rfl) T.m_zip (pa_cons (pv 0) (pa_cons (pe_slice sl_tupA (pv 0) (po_some pe_int) po_none) pa_nil))) (pg_tup rfl (pgs_cons (pg_name (i := 5) sc_check_edges.nd rfl (by first | exact .inl rfl | exact .inr rfl)) (pgs_cons (pg_name (i := 6) sc_check_edges.nd rfl (by first | exact .inl rfl | exact .inr rfl)) pgs_nil))) (pss_one (ps_if (pt_cmpR (op_geP (Nat.lt_of_le_of_lt (Nat.le_add_right _ _) hr.units)) (pe_slice sl_tupA (pv 5) po_none (po_some pe_int)) (pe_slice sl_tupA (pv 6) po_none (po_some pe_int)) (nomark _)) (pss_one (ps_raise rfl (takes_of rfl rfl rfl rfl) (pmk_own PySem.F.excBase_ValueError T.q_InvalidSpins T.g_InvalidSpins T.k_InvalidSpins (raises_own T.b_InvalidSpins T.y_InvalidSpins) (by rfl)))) pss_nil)))))), ?_⟩
    have bad : ¬ goodE n es → ∀ H', Ext H H' → E (.ref T.f_InvalidSpins) none H' := q2
    have hl := hes.length
    refine ⟨_, rfl, a, _, rfl, .inr ha, _, _, rfl, rfl, _, rfl, ite2 (fun e1 => ?_) (fun e1 => ?_)⟩
    · have e1 := of_decide_eq_true e1
      exact bad (fun g => by have := g.1; omega) H (Ext.refl H)
    have el24 : es.length ≤ 24 := by
      have : ¬ (24 : Int) < (xs.length : Int) := fun z => e1 (decide_eq_true z)
      omega
    refine ⟨_, rfl, a, rfl, ⟨_, ha⟩, for_tup (xs := xs) (fun i σ H1 => (∃ x1 x2 x3, σ = [some (.ref a), some (.int n), x1, x2, x3, none, none]) ∧ Ext H H1 ∧ ∀ e ∈ es.take i, okE n e) ⟨⟨_, _, _, rfl⟩, Ext.refl H, fun e m => by simp at m⟩ (fun i σ H1 _ h => h.2.1.tup ha) (fun i x σ H1 hi hP => ?_) (fun σ H1 hP => ?_)⟩
    · obtain ⟨⟨x1, x2, x3, rfl⟩, s1, hok⟩ := hP
      obtain ⟨⟨u, v, j⟩, hei, a1, rfl, h1⟩ := paired_at hes hi
      have hm := List.mem_of_getElem? hei
      have take1 : es.take (i + 1) = es.take i ++ [(u, v, j)] := by rw [List.take_add_one, hei]; rfl
      have bade : ¬ okE n (u, v, j) → E (.ref T.f_InvalidSpins) none H1 := fun z => bad (fun g => z (g.2.1 _ hm)) H1 s1
      refine ⟨a1, _, rfl, s1.tup h1, rfl, _, _, rfl, _, _, rfl, _, _, rfl, rfl, ?_⟩
      refine ⟨_, rfl, _, _, rfl, rfl, _, rfl, ite2 (fun b1 => ?_) (fun b1 => ?_)⟩
      · have b1 : 0 ≤ u := of_decide_eq_true b1
        refine ⟨_, rfl, _, _, rfl, rfl, _, rfl, ite2 (fun b2 => ?_) (fun b2 => ?_)⟩
        · have b2 : u < v := of_decide_eq_true b2
          refine ⟨_, rfl, _, _, rfl, rfl, _, rfl, ?_⟩
          by_cases b3 : v < n
          · rw [decide_eq_true b3]
            refine iteF ?_
            refine ⟨_, rfl, rfl, _, rfl, ?_⟩
            by_cases b4 : j = 0
            · subst b4
              refine iteT (iteT (bade fun z => z.2.2.2.1 rfl))
            · have d4 : decide (V.int j = V.int 0) = false := decide_eq_false fun z => b4 (V.int.inj z)
              rw [d4]
              refine iteF ?_
              refine ⟨_, rfl, _, rfl, _, _, rfl, rfl, _, rfl, ite2 (fun b5 => ?_) (fun b5 => ?_)⟩
              · have b5 : -9 ≤ j := of_decide_eq_true b5
                refine ⟨_, _, rfl, rfl, _, rfl, ?_⟩
                by_cases b6 : j ≤ 9
                · rw [decide_eq_true b6]
                  refine iteF ⟨⟨_, _, _, rfl⟩, s1, fun e m => ?_⟩
                  rw [take1] at m
                  rcases List.mem_append.mp m with m | m
                  · exact hok e m
                  · rw [List.mem_singleton.mp m]
                    exact ⟨b1, b2, b3, b4, b5, b6⟩
                · rw [decide_eq_false b6]
                  exact iteT (bade fun z => b6 z.2.2.2.2.2)
              · have b5 : ¬ -9 ≤ j := fun z => b5 (decide_eq_true z)
                exact ⟨_, rfl, iteT (bade fun z => b5 z.2.2.2.2.1)⟩
          · rw [decide_eq_false b3]
            exact iteT (bade fun z => b3 z.2.2.1)
        · have b2 : ¬ u < v := fun z => b2 (decide_eq_true z)
          exact ⟨_, rfl, iteT (bade fun z => b2 z.2.1)⟩
      · have b1 : ¬ 0 ≤ u := fun z => b1 (decide_eq_true z)
        exact ⟨_, rfl, iteT (bade fun z => b1 z.1)⟩
    · obtain ⟨⟨x1, x2', x3, rfl⟩, s1, hok⟩ := hP
      rw [hl, List.take_length] at hok
      -- the pairs ascend
      refine ⟨_, rfl, _, rfl, 1, rfl, a, xs, rfl, s1.tup ha, fun hw => ?_, fun hw p hp => ?_⟩
      · have z0 : xs.length = 0 := by
          have h1 := hw.1
          rw [show (some (1 : Int)) = some ((1 : Nat) : Int) from rfl, HT.sIx_nat] at h1
          omega
        obtain rfl := List.length_eq_zero_iff.mp z0
        refine ⟨a, a, [], [], rfl, .inr ⟨s1.tup ha, s1.tup ha, for_zipM (Nat.le_refl _) (fun i σ H3 => Ext H1 H3) (Ext.refl _) (fun i σ H3 h => ⟨(s1.trans h).tup ha, (s1.trans h).tup ha⟩) (fun i x y T' σ H3 hx => by simp at hx) (fun σ H3 h => ?_)⟩⟩
        refine q1 ⟨el24, hok, fun i x y hx => ?_⟩ H3 (s1.trans h)
        have : es.length = 0 := by rw [← hl]; exact z0
        obtain rfl := List.length_eq_zero_iff.mp this
        simp at hx
      · have ec : cutV xs (some 1) none = xs.drop 1 := by
          unfold cutV
          rw [show (some (1 : Int)) = some ((1 : Nat) : Int) from rfl, HT.sIx_nat, HT.sIx_none]
          by_cases z : xs.length = 0
          · obtain rfl := List.length_eq_zero_iff.mp z
            rfl
          · have z1 : min 1 xs.length = 1 := by omega
            rw [z1]
            refine List.take_of_length_le ?_
            rw [List.length_drop]
            exact Nat.le_refl _
        rw [ec]
        have x2 : Ext H1 (upd H1 p (.tup (xs.drop 1))) := ext_upd hp
        have hb : SqT K (upd H1 p (.tup (xs.drop 1))) p (xs.drop 1) := SqT.of upd_same
        generalize upd H1 p (.tup (xs.drop 1)) = H2 at *
        have s2 := s1.trans x2
        refine ⟨a, p, xs, xs.drop 1, rfl, .inr ⟨s2.tup ha, hb, for_zipM (by rw [List.length_drop]; omega) (fun i σ H3 => (∃ w1 w2, σ = [some (.ref a), some (.int n), x1, x2', x3, w1, w2]) ∧ Ext H2 H3 ∧ ∀ k x y, k < i → es[k]? = some x → es[k + 1]? = some y → ltEg x y)
          ⟨⟨_, _, rfl⟩, Ext.refl _, fun k x y hk => absurd hk (by omega)⟩ (fun i σ H3 h => ⟨(s2.trans h.2.1).tup ha, h.2.1.tup hb⟩) (fun i x y T' σ H3 hx hy hP hT => ?_) (fun σ H3 hP => ?_)⟩⟩
        · obtain ⟨⟨w1, w2, rfl⟩, s3, hlt⟩ := hP
          rw [List.getElem?_drop] at hy
          obtain ⟨⟨u, v, j⟩, hex, a1, rfl, g1⟩ := paired_at hes hx
          obtain ⟨⟨u', v', j'⟩, hey, a2, rfl, g2⟩ := paired_at hes hy
          have hey : es[i + 1]? = some (u', v', j') := by rw [Nat.add_comm]; exact hey
          have s4 : Ext H (upd H3 T' (.tup [.ref a1, .ref a2])) := (s2.trans s3).new hT
          have s5 : Ext H2 (upd H3 T' (.tup [.ref a1, .ref a2])) := s3.new hT
          refine ⟨T', _, rfl, SqT.of upd_same, rfl, _, _, rfl, _, _, rfl, rfl, ?_⟩
          generalize upd H3 T' (.tup [.ref a1, .ref a2]) = H4 at *
          refine ⟨_, rfl, 2, rfl, a1, _, rfl, s4.tup g1, fun w => absurd w cut2, fun _ p1 hp1 => ?_⟩
          have s6 := s4.new (o := .tup (cutV [V.int u, .int v, .int j] none (some 2))) hp1
          refine ⟨_, rfl, 2, rfl, a2, _, rfl, s6.tup g2, fun w => absurd w cut2, fun _ p2 hp2 => ?_⟩
          have s7 := s6.new (o := .tup (cutV [V.int u', .int v', .int j'] none (some 2))) hp2
          refine ⟨p1, p2, (u, v), (u', v'), rfl, rfl, SqT.of ((ext_upd hp2).at upd_same), SqT.of upd_same, _, rfl, iteB (fun z => ?_) (fun z => ?_)⟩
          · have z : geP (u, v) (u', v') = true := z
            refine bad (fun g => ?_) _ s7
            have h1 := g.2.2 i _ _ hex hey
            have h2 : SrtO.lexB (u, v) (u', v') = true := SrtO.lexB_iff.mpr h1
            unfold geP at z
            rw [h2] at z
            cases z
          · have z : geP (u, v) (u', v') = false := z
            refine ⟨⟨_, _, rfl⟩, (s5.new hp1).new hp2, fun k x y hk hkx hky => ?_⟩
            by_cases ek : k = i
            · subst ek
              rw [hex] at hkx
              rw [hey] at hky
              cases hkx
              cases hky
              refine (SrtO.lexB_iff (p := (u, v)) (q := (u', v'))).mp ?_
              unfold geP at z
              simpa using z
            · exact hlt k x y (by omega) hkx hky
        · obtain ⟨⟨w1, w2, rfl⟩, s3, hlt⟩ := hP
          refine q1 ⟨el24, hok, fun i x y hx hy => hlt i x y ?_ hx hy⟩ H3 (s2.trans s3)
          have := (List.getElem?_eq_some_iff.mp hy).1
          rw [List.length_drop]
          omega
/-- tuple(x) of a list, a tuple -/
def rTupOf (K : PySem.W.Frag) : List V → Hp → VK → Prop := fun xs H Q => ∃ p ys, xs = [.ref p] ∧ ((SqL K H p ys ∧ ∀ l, H l = none → Q (.ref l) (upd H l (.tup ys))) ∨ (SqT K H p ys ∧ Q (.ref p) H))
/-- a list or a tuple at a -/
abbrev Sq (K : PySem.W.Frag) (H : Hp) (a : Addr) (xs : List V) : Prop := SqL K H a xs ∨ SqT K H a xs
theorem _root_.EXT.Ext.sq {H H' : Hp} (s : Ext H H') {a : Addr} {xs : List V} (h : Sq K H a xs) : Sq K H' a xs := h.imp s.seq s.tup
theorem _root_.EXT.Ext.edges {H H' : Hp} (s : Ext H H') {xs : List V} {es : List Eg} (h : Paired (EdgeAt K H) xs es) : Paired (EdgeAt K H') xs es := paired_imp (fun _ _ ⟨a, e, h⟩ => ⟨a, e, s.tup h⟩) h
theorem sqt_ins {H : Hp} {p C dx a : Addr} {fs : List (Str × V)} {xs : List V} {o : HO} (hp : H p = some (.ins C dx fs)) (h : SqT K H a xs) : SqT K (upd H p o) a xs := by
  rcases h with (h | ⟨o', h⟩) | h
  · exact .inl (.inl (by rw [upd_ne (fun z => by rw [z, hp] at h; cases h)]; exact h))
  · exact .inl (.inr ⟨o', by rw [upd_ne (fun z => by rw [z, hp] at h; cases h)]; exact h⟩)
  · exact .inr h
/-- a new one is made at p (not there in H0) -/
def spInit (T : Top K mg) : Sp := fun vs H Q E => ∃ (p dx fa ea : Addr) (fs : List Int) (xs : List V) (es : List Eg) (H0 : Hp), vs = [.ref p, .ref fa, .ref ea] ∧ H p = some (.ins T.C_Spins dx []) ∧ H0 p = none ∧ Ext H0 H ∧
  Sq K H0 fa (fs.map V.int) ∧ Sq K H0 ea xs ∧ Paired (EdgeAt K H0) xs es ∧ es.length < 1000000 ∧ fs.length < 1000000 ∧ Tg T H0 ∧
  (goodF fs → goodE fs.length es → ∀ H' fb eb ys, Ext H0 H' → H' p = some (.ins T.C_Spins dx [("fields", .ref fb), ("edges", .ref eb)]) → SqT K H' fb (fs.map V.int) → SqT K H' eb ys → Paired (EdgeAt K H') ys es → Q .non H') ∧
  (¬ (goodF fs ∧ goodE fs.length es) → ∀ H', Ext H0 H' → E (.ref T.f_InvalidSpins) none H')
theorem ok_Spins_init (T : Top K mg) (B : Tb T base) : FnOk P w K mg base (L2.CX P w) 4 T.f_Spins_init T.d_Spins_init ["self", "fields", "edges"] (spInit T) := by
  refine T.F_Spins_init.okX sc_Spins_init (fun vs H Q E h => ?_) (fun A outer s H vs Q E hr h => ?_)
  · obtain ⟨p, dx, fa, ea, fs, xs, es, H0, rfl, _⟩ := h
    rfl
  · obtain ⟨p, dx, fa, ea, fs, xs, es, H0, rfl, hp, h0, s0, hf, he, hes, el, fl, G, q1, q2⟩ := h
    refine ⟨_, (C8.pss_cut (ps_fld (pv 0) (pe_callTy call_tuple_of (by rfl) T.m_tuple (by decide +kernel) (pa_cons (pv 1) pa_nil)) rfl)
      (C8.pss_cut (ps_fld (pv 0) (GXP.pe_tupleGx (own := [("edge", 3)]) (g := gName 3) (tt := tYes) (k := 2) (c := T.c_Spins_init) (P := T.P_Spins_init) (by rfl) T.m_tuple ⟨hr.mono (by decide), rfl, B.t_Spins_init, rfl, rfl, blkOk_by (own := [("edge", 3)]) (N := n_Spins_init) (sc := defScope s_Spins_init) (by decide +kernel), sc_Spins_init.nd, by decide +kernel, rfl, (pi_seq (pv 2)), fun A s H C cl code bi fp hrA => (pg_name (i := 3) sc_Spins_init.nd rfl (by first | exact .inl rfl | exact .inr rfl)), fun A s H C cl code bi fp hrA => pts_nil, fun A s H C cl code bi fp hrA => (pe_callTy (T := "tuple") (r := rTupOf K) call_tuple_of (by rfl) T.m_tuple (by decide +kernel) (pa_cons (pv 3) pa_nil)), fun _ => rfl⟩) rfl)
      (pss_cons (ps_expr (pe_call (ok_check_fields T B) (hr.mono (by decide)) (by rfl) T.g_check_fields T.F_check_fields.kp T.b_check_fields .nil (passes_call (takes_of rfl rfl rfl rfl) (fun _ _ _ _ h => h)) (pa_cons (pe_fld (pv 0) rfl) pa_nil)))
      (pss_one (ps_expr (pe_call (ok_check_edges T) (hr.mono (by decide)) (by rfl) T.g_check_edges T.F_check_edges.kp T.b_check_edges .nil (passes_call (takes_of rfl rfl rfl rfl) (fun _ _ _ _ h => h)) (pa_cons (pe_fld (pv 0) rfl) (pa_cons (pe_callB call_len_seq (by rfl) T.m_len (by decide +kernel) (pa_cons (pe_fld (pv 0) rfl) pa_nil)) pa_nil)))))))), ?_⟩
    have hbad : ∀ H', Ext H0 H' → ¬ (goodF fs ∧ goodE fs.length es) → E (.ref T.f_InvalidSpins) none H' := fun H' s z => q2 z H' s
    refine ⟨fun σ H1 => σ = [some (.ref p), some (.ref fa), some (.ref ea), none] ∧ ∃ fb, Ext H0 H1 ∧ H1 p = some (.ins T.C_Spins dx [("fields", .ref fb)]) ∧ SqT K H1 fb (fs.map V.int), ?_, ?_⟩
    · rcases hf with hf | hf
      · refine ⟨_, rfl, fa, _, rfl, .inl ⟨s0.seq hf, fun l hl => ?_⟩⟩
        have np : p ≠ l := ne_of_none hp hl
        refine ⟨_, rfl, p, T.C_Spins, dx, [], rfl, by rw [upd_ne np]; exact hp, T.cl_Spins, T.na_Spins_fields, by decide, rfl, l, (s0.new hl).own h0, by rw [upd_same]; rfl, ?_⟩
        exact SqT.of (by rw [upd_ne np.symm]; exact upd_same)
      · refine ⟨_, rfl, fa, _, rfl, .inr ⟨s0.tup hf, ?_⟩⟩
        exact ⟨_, rfl, p, T.C_Spins, dx, [], rfl, hp, T.cl_Spins, T.na_Spins_fields, by decide, rfl, fa, s0.own h0, by rw [upd_same]; rfl, (s0.own h0).tup hf⟩
    rintro σ H1 ⟨rfl, fb, s1, hp1, hfb⟩
    have xl := hes.length
    refine ⟨fun σ H1 => σ = [some (.ref p), some (.ref fa), some (.ref ea), none] ∧ ∃ fb eb, Ext H0 H1 ∧ H1 p = some (.ins T.C_Spins dx [("fields", .ref fb), ("edges", .ref eb)]) ∧ SqT K H1 fb (fs.map V.int) ∧ SqT K H1 eb xs, ?_, ?_⟩
    · have tb := (G.ext s1).t_Spins_init
      rcases he with he | he
      · refine ⟨_, rfl, ea, rfl, .inl ⟨⟨_, s1.seq he⟩, tb, fun H2 t2 => ?_⟩⟩
        have s2 := s1.tabbed tb t2
        have hp2 := (ext_tabbed tb t2).keep p _ hp1 (fun _ z => by cases z)
        have hfb2 := (ext_tabbed tb t2).tup hfb
        refine gx_list (xs := xs) (fun i zs H3 => H3 = H2 ∧ zs = xs.take i) ⟨rfl, rfl⟩ (fun i zs H3 _ h => by rw [h.1]; exact s2.seq he) (fun i x zs H3 hi hP => ?_) (fun zs H3 hP => ?_)
        · obtain ⟨rfl, rfl⟩ := hP
          obtain ⟨e, hei, a1, rfl, g1⟩ := paired_at hes hi
          refine ⟨rfl, _, rfl, a1, _, rfl, .inr ⟨s2.tup g1, ?_, rfl, ?_⟩⟩
          · rw [List.length_take]
            exact sl_lt (by omega)
          · rw [List.take_add_one, hi]
            rfl
        · obtain ⟨rfl, rfl⟩ := hP
          intro l hl
          have np : p ≠ l := ne_of_none hp2 hl
          refine ⟨_, rfl, p, T.C_Spins, dx, _, rfl, by rw [upd_ne np]; exact hp2, T.cl_Spins, T.na_Spins_edges, (by show 1 < 1000; decide), rfl, fb, l, (s2.new hl).own h0, by rw [upd_same]; rfl, ?_, ?_⟩
          · exact sqt_ins (by rw [upd_ne np]; exact hp2) ((ext_upd hl).tup hfb2)
          · rw [List.take_length]
            exact SqT.of (by rw [upd_ne np.symm]; exact upd_same)
      · refine ⟨_, rfl, ea, rfl, .inr ⟨⟨_, s1.tup he⟩, tb, fun H2 t2 => ?_⟩⟩
        have s2 := s1.tabbed tb t2
        have hp2 := (ext_tabbed tb t2).keep p _ hp1 (fun _ z => by cases z)
        have hfb2 := (ext_tabbed tb t2).tup hfb
        refine gx_tup (xs := xs) (fun i zs H3 => H3 = H2 ∧ zs = xs.take i) ⟨rfl, rfl⟩ (fun i zs H3 _ h => by rw [h.1]; exact s2.tup he) (fun i x zs H3 hi hP => ?_) (fun zs H3 hP => ?_)
        · obtain ⟨rfl, rfl⟩ := hP
          obtain ⟨e, hei, a1, rfl, g1⟩ := paired_at hes hi
          refine ⟨rfl, _, rfl, a1, _, rfl, .inr ⟨s2.tup g1, ?_, rfl, ?_⟩⟩
          · rw [List.length_take]
            exact sl_lt (by omega)
          · rw [List.take_add_one, hi]
            rfl
        · obtain ⟨rfl, rfl⟩ := hP
          intro l hl
          have np : p ≠ l := ne_of_none hp2 hl
          refine ⟨_, rfl, p, T.C_Spins, dx, _, rfl, by rw [upd_ne np]; exact hp2, T.cl_Spins, T.na_Spins_edges, (by show 1 < 1000; decide), rfl, fb, l, (s2.new hl).own h0, by rw [upd_same]; rfl, ?_, ?_⟩
          · exact sqt_ins (by rw [upd_ne np]; exact hp2) ((ext_upd hl).tup hfb2)
          · rw [List.take_length]
            exact SqT.of (by rw [upd_ne np.symm]; exact upd_same)
    rintro σ H2 ⟨rfl, fb, eb, s2, hp2, hfb2, heb2⟩
    refine ⟨_, rfl, p, T.C_Spins, dx, _, .ref fb, rfl, hp2, T.cl_Spins, T.na_Spins_fields, rfl, fb, fs, rfl, hfb2, G.ext s2, fun gf H3 s3 => ?_, fun nf H3 s3 => hbad H3 (s2.trans s3) fun z => nf z.1⟩
    have hp3 := s3.keep p _ hp2 (fun _ z => by cases z)
    have s03 := s2.trans s3
    refine ⟨_, rfl, p, T.C_Spins, dx, _, .ref eb, rfl, hp3, T.cl_Spins, T.na_Spins_edges, rfl, _, rfl, p, T.C_Spins, dx, _, .ref fb, rfl, hp3, T.cl_Spins, T.na_Spins_fields, rfl, fb, _, rfl, .inr (s3.tup hfb2), ?_⟩
    refine ⟨eb, xs, es, fs.length, by rw [List.length_map]; rfl, s3.tup heb2, s03.edges hes, el, fun ge H4 s4 => ?_, fun ne H4 s4 => hbad H4 (s03.trans s4) fun z => ne z.2⟩
    exact q1 gf ge H4 fb eb xs (s03.trans s4) (s4.keep p _ hp3 (fun _ z => by cases z)) (s4.tup (s3.tup hfb2)) (s4.tup (s3.tup heb2)) ((s03.trans s4).edges hes)
/-- // by a divisor that is not 0, below 2 ^ 9000 -/
def CDivZ (_ j : Int) : Prop := j ≠ 0 ∧ j.natAbs.log2 < 9000
theorem op_fdivZ {X : Cx} : OpR X (binaryOp .FloorDiv) (rI CDivZ fun i j => .int (i.fdiv j)) := opI fun i j _ _ _ _ _ hc q =>
  floordiv_int hc.1 q (.inl (PyProof.noPylong_of_log2 hc.2))
theorem same_upd {H : Hp} {p : Addr} {o : HO} (h : H p = none) : Same H (upd H p o) := fun b x e => by
  rw [upd_ne (ne_of_none e h)]
  exact e
theorem _root_.L2.Same.tup {K : PySem.W.Frag} {H H' : Hp} {a : Addr} {xs : List V} (e : Same H H') (h : SqT K H a xs) : SqT K H' a xs := e.ext.tup h
theorem take_snoc {α : Type} {l : List α} {i : Nat} {x : α} (h : l[i]? = some x) : l.take (i + 1) = l.take i ++ [x] := by
  rw [List.take_add_one, h]
  rfl
/-! ### the law's cell of the script -/
def cellZ (ns : List Int) (k : Nat) : Int := ns.getD k 0
def spCellZ (K : PySem.W.Frag) : Sp := fun vs H Q _ => ∃ (l : Addr) (ns : List Int) (k : Nat), vs = [.ref l, .int (k : Int)] ∧ SqL K H l (ns.map V.int) ∧ Q (.int (cellZ ns k)) H
theorem ok_law_cell (T : Top K mg) : FnOk P w K mg base CX0 1 T.f_law_cell T.d_law_cell ["script", "k"] (spCellZ K) := by
  refine T.F_law_cell.ok sc_law_cell (fun vs H Q E h => ?_) (fun cdv A outer s H vs Q E hr h => ?_)
  · obtain ⟨l, ns, k, rfl, _⟩ := h
    rfl
  · obtain ⟨l, ns, k, rfl, hS, q⟩ := h
    refine ⟨_, (pss_cons (ps_if (pt_cmpR op_lt (pv 1) (pe_callB call_len_seq (by rfl) T.m_len (by decide +kernel) (pa_cons (pv 0) pa_nil)) (nomark _)) (pss_one (ps_ret (pe_callTy call_int1 (by rfl) T.m_int (by decide +kernel) (pa_cons (pe_ix ix_list (pv 0) (pv 1) (fun _ _ => rfl)) pa_nil)))) pss_nil)
      (pss_one (ps_ret pe_int))), ?_⟩
    refine ⟨_, rfl, _, rfl, l, _, rfl, .inl hS, _, _, rfl, rfl, _, rfl, ?_⟩
    refine ite2 (fun e => ?_) (fun e => ?_)
    · have hk : k < ns.length := by
        have := of_decide_eq_true e
        rw [List.length_map] at this
        omega
      refine ⟨_, rfl, _, rfl, l, _, _, .int ns[k], rfl, rfl, hS, ?_, .inl ⟨_, rfl, ?_⟩⟩
      · refine atI_nat ?_
        rw [List.getElem?_map, List.getElem?_eq_getElem hk]
        rfl
      · have : cellZ ns k = ns[k] := by
          unfold cellZ
          rw [List.getD_eq_getElem?_getD, List.getElem?_eq_getElem hk]
          rfl
        rw [← this]
        exact q
    · have hk : ¬ k < ns.length := fun z => e (by
        refine decide_eq_true ?_
        rw [List.length_map]
        omega)
      have : cellZ ns k = 0 := by
        unfold cellZ
        rw [List.getD_eq_getElem?_getD, List.getElem?_eq_none (by omega)]
        rfl
      show Q (.int 0) H
      rw [← this]
      exact q
/-! ### data that stands in the heap -/
mutual
theorem dp_same {K : PySem.W.Frag} {H H' : Hp} (s : Same H H') : ∀ {v : V} {d : PyData}, Dp K H v d → Dp K H' v d
  | _, _, .non => .non
  | _, _, .bl b => .bl b
  | _, _, .int i => .int i
  | _, _, .str x => .str x
  | _, _, .lst h t => .lst (s.seq h) (dpAll_same s t)
  | _, _, .tup h t => .tup (s.tup h) (dpAll_same s t)
theorem dpAll_same {K : PySem.W.Frag} {H H' : Hp} (s : Same H H') : ∀ {vs : List V} {ds : List PyData}, DpAll K H vs ds → DpAll K H' vs ds
  | _, _, .nil => .nil
  | _, _, .cons h t => .cons (dp_same s h) (dpAll_same s t)
end
theorem dpAll_len {K : PySem.W.Frag} {H : Hp} : ∀ {vs : List V} {ds : List PyData}, DpAll K H vs ds → vs.length = ds.length
  | _, _, .nil => rfl
  | _, _, .cons _ t => congrArg (· + 1) (dpAll_len t)
theorem dpAll_get {K : PySem.W.Frag} {H : Hp} : ∀ {vs : List V} {ds : List PyData} {i : Nat} {v : V}, DpAll K H vs ds → vs[i]? = some v → ∃ d, ds[i]? = some d ∧ d ∈ ds ∧ Dp K H v d
  | _, _, i, v, .nil, h => by simp at h
  | _, d :: ds, 0, v, .cons a t, h => by
    simp only [List.getElem?_cons_zero, Option.some.injEq] at h
    subst h
    exact ⟨d, rfl, List.mem_cons_self, a⟩
  | _, d :: ds, i + 1, v, .cons a t, h => by
    simp only [List.getElem?_cons_succ] at h
    obtain ⟨e, h1, h2, h3⟩ := dpAll_get t h
    exact ⟨e, by simpa using h1, List.mem_cons_of_mem _ h2, h3⟩
theorem dpAll_of {α : Type} {K : PySem.W.Frag} {H : Hp} {f : α → PyData} {R : V → α → Prop} (hR : ∀ v x, R v x → Dp K H v (f x)) : ∀ {vs : List V} {xs : List α}, Paired R vs xs → DpAll K H vs (xs.map f)
  | _, _, .nil => .nil
  | _, _, .cons h t => .cons (hR _ _ h) (dpAll_of hR t)
theorem sqt_ty {K : PySem.W.Frag} {H : Hp} {a : Addr} {xs : List V} (h : SqT K H a xs) : TyX K H (.ref a) (.type "tuple") := by
  rcases h with (h | ⟨o, h⟩) | ⟨o, its, n, h, hc, _⟩
  · exact .base (.tup h)
  · exact .fTuple h
  · exact .kTuple h hc
theorem sql_ty {K : PySem.W.Frag} {H : Hp} {a : Addr} {xs : List V} (h : SqL K H a xs) : TyX K H (.ref a) (.type "list") := by
  rcases h with (h | ⟨o, h⟩) | ⟨o, its, n, h, hc, _⟩
  · exact .base (.lst h)
  · exact .base (.frz h)
  · exact .kList h hc
/-- nested tuples of ints, at most n - 1 deep -/
def tupD : Nat → PyData → Prop
  | 0, _ => False
  | _ + 1, .int _ => True
  | n + 1, .tuple ds => ds.length < 1000000 ∧ ∀ x ∈ ds, tupD n x
  | _ + 1, _ => False
def spTup (K : PySem.W.Frag) (n : Nat) : Sp := fun vs H Q _ => ∃ v d, vs = [v] ∧ Dp K H v d ∧ tupD n d ∧ ∀ H', Same H H' → Q (.bl true) H'
theorem ok_law_tuples (T : Top K mg) : ∀ n, FnOk P w K mg base CX0 (n + 1) T.f_law_tuples T.d_law_tuples ["thing"] (spTup K n)
  | 0 => T.F_law_tuples.ok sc_law_tuples (fun vs H Q E h => by obtain ⟨v, d, _, _, h, _⟩ := h; exact h.elim) (fun cdv A outer s H vs Q E hr h => by obtain ⟨v, d, _, _, h, _⟩ := h; exact h.elim)
  | n + 1 => by
    have ih := ok_law_tuples T n
    refine T.F_law_tuples.ok sc_law_tuples (fun vs H Q E h => ?_) (fun cdv A outer s H vs Q E hr h => ?_)
    · obtain ⟨v, d, rfl, _⟩ := h
      rfl
    · obtain ⟨v, d, rfl, hd, ht, q⟩ := h
      refine ⟨_, (pss_cons (ps_if (pt_val (pe_callB call_isi (by rfl) T.m_isinstance (by decide +kernel) (pa_cons (pv 0) (pa_cons (pe_bltn (v := .ty "tuple") (by rfl) T.m_tuple boot_tuple rfl) pa_nil)))) (pss_one (ps_ret (pe_callB (cr_all rfl) (by rfl) T.m_all (by decide +kernel) (pa_cons (pe_lc (own := [("part", 1)]) (g := gName 1) (tt := tYes) rfl sc_law_tuples.nd (pi_tup (pv 0)) (blkOk_by (own := [("part", 1)]) (N := n_law_tuples) (sc := defScope s_law_tuples) (by decide +kernel)) (fun _ _ _ _ _ => (pg_name (i := 1) sc_law_tuples.nd rfl (by first | exact .inl rfl | exact .inr rfl))) (fun _ _ _ _ _ => pts_nil) (fun _ _ _ _ _ => (pe_call ih hr (by rfl) T.g_law_tuples T.F_law_tuples.kp T.b_law_tuples .nil pass0 (pa_cons (pv 1) pa_nil)))) pa_nil)))) pss_nil)
      (pss_one (ps_ret (pe_and (pe_callB call_isi (by rfl) T.m_isinstance (by decide +kernel) (pa_cons (pv 0) (pa_cons (pe_bltn (v := .ty "int") (by rfl) T.m_int boot_int rfl) pa_nil))) (pe_one (pe_not (pe_callB call_isi (by rfl) T.m_isinstance (by decide +kernel) (pa_cons (pv 0) (pa_cons (pe_bltn (v := .ty "bool") (by rfl) T.m_bool boot_bool rfl) pa_nil))))))))), ?_⟩
      cases d with
      | int i =>
        cases hd
        refine ⟨_, rfl, _, _, _, _, _, rfl, .ty _, .base (.int i), kit_ty (r := false) (by decide +kernel), _, rfl, iteF ?_⟩
        refine ⟨_, rfl, _, _, _, _, _, rfl, .ty _, .base (.int i), kit_ty (r := true) (by decide +kernel), _, rfl, iteT ?_⟩
        exact ⟨_, rfl, _, _, _, _, _, rfl, .ty _, .base (.int i), kit_ty (r := false) (by decide +kernel), _, rfl, q H (Same.refl H)⟩
      | tuple ds =>
        cases hd with
        | @tup a xs _ hx hds =>
        refine ⟨_, rfl, _, _, _, _, _, rfl, .ty _, sqt_ty hx, kit_ty (r := true) (by decide +kernel), _, rfl, iteT ?_⟩
        refine ⟨_, rfl, a, rfl, ⟨_, hx⟩, fun D hD => lc_tup (xs := xs) (fun i H' => Same H H' ∧ H' D = some (.lst ((List.replicate i true).map V.bl)) ∧ i ≤ xs.length) ⟨same_upd hD, upd_same, Nat.zero_le _⟩ (fun i H' _ h => h.1.tup hx) (fun i x H' hi hP => ?_) (fun H' hP => ?_)⟩
        · obtain ⟨s1, hl, hix⟩ := hP
          obtain ⟨d, _, hm, hdx⟩ := dpAll_get hds hi
          have hil : i < xs.length := (List.getElem?_eq_some_iff.mp hi).1
          have hlen := dpAll_len hds
          have hz := ht.1
          refine ⟨rfl, _, rfl, x, d, rfl, dp_same s1 hdx, ht.2 d hm, fun H2 s2 => ⟨_, s2 _ _ hl, ?_, fun b o e => ?_, ?_, hil⟩⟩
          · rw [List.length_map, List.length_replicate]
            exact sl_lt (by omega)
          · rw [upd_ne (ne_of_none e hD)]
            exact s2 _ _ (s1 _ _ e)
          · rw [upd_same, List.replicate_succ', List.map_append]
            rfl
        · obtain ⟨s1, hl, _⟩ := hP
          refine ⟨D, List.replicate xs.length true, rfl, SqL.of hl, ?_⟩
          have e : (List.replicate xs.length true).all id = true := by
            rw [List.all_eq_true]
            intro x hx
            rw [List.eq_of_mem_replicate hx]
            rfl
          rw [e]
          exact q H' s1
      | none => exact ht.elim
      | bool b => exact ht.elim
      | str x => exact ht.elim
      | list x => exact ht.elim
      | dict x => exact ht.elim
theorem pos_lit {z : Int} {n : Nat} (h : z = ((n + 1 : Nat) : Int)) : 0 < z := by omega
def spMix : Sp := fun vs H Q _ => ∃ c k : Int, vs = [.int c, .int k] ∧ ∀ m : Int, 0 ≤ m → Q (.int m) H
theorem ok_law_mix (T : Top K mg) : FnOk P w K mg base CX0 1 T.f_law_mix T.d_law_mix ["cell", "k"] spMix := by
  refine T.F_law_mix.ok sc_law_mix (fun vs H Q E h => ?_) (fun cdv A outer s H vs Q E hr h => ?_)
  · obtain ⟨c, k, rfl, _⟩ := h
    rfl
  · obtain ⟨c, k, rfl, q⟩ := h
    refine ⟨_, (pss_cons (ps_set (i := 2) sc_law_mix.nd rfl (by first | exact .inl rfl | exact .inr rfl) (pe_op op_mod (pe_callTy call_int1 (by rfl) T.m_int (by decide +kernel) (pa_cons (pe_op op_add (pe_op op_add (pe_op op_mul (pv 0) pe_int) (pe_op op_mul (pv 1) pe_int)) pe_int) pa_nil)) pe_int))
      (pss_cons (ps_set (i := 2) sc_law_mix.nd rfl (by first | exact .inl rfl | exact .inr rfl) (pe_op op_mod (pe_callTy call_int1 (by rfl) T.m_int (by decide +kernel) (pa_cons (pe_op op_add (pe_op op_add (pe_op op_mul (pv 2) pe_int) (pe_op op_mul (pv 1) pe_int)) pe_int) pa_nil)) pe_int))
      (pss_one (ps_ret (pe_op op_fdiv (pv 2) pe_int))))), ?_⟩
    refine ⟨_, rfl, _, _, rfl, rfl, .inr ⟨by decide, by decide⟩, _, rfl, _, _, rfl, rfl, .inr ⟨by decide, by decide⟩, _, _, rfl, rfl, _, _, rfl, rfl, .inl ⟨_, rfl, _, _, rfl, rfl, pos_lit rfl, ?_⟩⟩
    refine ⟨_, rfl, _, _, rfl, rfl, .inr ⟨by decide, by decide⟩, _, rfl, _, _, rfl, rfl, .inr ⟨by decide, by decide⟩, _, _, rfl, rfl, _, _, rfl, rfl, .inl ⟨_, rfl, _, _, rfl, rfl, pos_lit rfl, ?_⟩⟩
    refine ⟨_, rfl, _, _, rfl, rfl, ⟨by decide, by decide⟩, q _ ?_⟩
    refine Int.ediv_nonneg (Int.emod_nonneg _ (by decide)) (by decide)
/-- some n numbers from 0 up to below b -/
def spRow (K : PySem.W.Frag) : Sp := fun vs H Q _ => ∃ (c b : Int) (n : Nat), vs = [.int c, .int (n : Int), .int b] ∧ n ≤ 1000 ∧ 0 < b ∧ b < 1000 ∧
  ∀ l H' (rs : List Int), Ext H H' → H l = none → H' l = some (.lst (rs.map V.int)) → rs.length = n → (∀ r ∈ rs, 0 ≤ r ∧ r < b) → Q (.ref l) H'
theorem ok_law_row (T : Top K mg) : FnOk P w K mg base CX0 2 T.f_law_row T.d_law_row ["cell", "count", "bound"] (spRow K) := by
  refine T.F_law_row.ok sc_law_row (fun vs H Q E h => ?_) (fun cdv A outer s H vs Q E hr h => ?_)
  · obtain ⟨c, b, n, rfl, _⟩ := h
    rfl
  · obtain ⟨c, b, n, rfl, hn, hb, hb2, q⟩ := h
    refine ⟨_, (pss_cons (ps_set (i := 3) sc_law_row.nd rfl (by first | exact .inl rfl | exact .inr rfl) (pe_lst pa_nil))
      (pss_cons (ps_set (i := 4) sc_law_row.nd rfl (by first | exact .inl rfl | exact .inr rfl) (pe_callB call_abs (by rfl) T.m_abs (by decide +kernel) (pa_cons (pv 0) pa_nil)))
      (pss_cons (ps_for PassesOwn.never rfl (pi_range1 (by rfl) T.m_range (pa_cons (pv 1) pa_nil)) (pg_name (i := 5) sc_law_row.nd rfl (by first | exact .inl rfl | exact .inr rfl)) (pss_one (ps_if (pt_cmpR op_ge (pe_callB call_abs (by rfl) T.m_abs (by decide +kernel) (pa_cons (pv 0) pa_nil)) pe_int (nomark _)) (pss_cons (ps_expr (pe_bm PySem.F.plainAttrs_list PySem.F.slot_list_append PySem.F.type_list_append mt_append (pv 3) (pa_cons (pe_op op_mod (pe_callTy call_int1 (by rfl) T.m_int (by decide +kernel) (pa_cons (pv 4) pa_nil)) (pv 2)) pa_nil)))
      (pss_one (ps_set (i := 4) sc_law_row.nd rfl (by first | exact .inl rfl | exact .inr rfl) (pe_op op_fdivZ (pv 4) (pv 2))))) (pss_one (ps_expr (pe_bm PySem.F.plainAttrs_list PySem.F.slot_list_append PySem.F.type_list_append mt_append (pv 3) (pa_cons (pe_op op_mod (pe_callTy call_int1 (by rfl) T.m_int (by decide +kernel) (pa_cons (pe_call (ok_law_mix T) (hr.mono (by decide)) (by rfl) T.g_law_mix T.F_law_mix.kp T.b_law_mix .nil pass0 (pa_cons (pv 0) (pa_cons (pv 5) pa_nil))) pa_nil)) (pv 2)) pa_nil)))))))
      (pss_one (ps_ret (pv 3)))))), ?_⟩
    refine ⟨by rw [sizeLine_eq]; simp, fun l hl => ?_⟩
    refine ⟨_, rfl, c, rfl, ?_⟩
    refine ⟨_, rfl, _, rfl, by omega, by omega, for_range (n := n) (fun i σ H1 => (∃ (x : Int) (y : Option V) (rs : List Int), σ = [some (.int c), some (.int (n : Int)), some (.int b), some (.ref l), some (.int x), y] ∧ Ext H H1 ∧ H1 l = some (.lst (rs.map V.int)) ∧ rs.length = i ∧ ∀ r ∈ rs, 0 ≤ r ∧ r < b))
      ⟨_, _, [], rfl, ext_upd hl, upd_same, rfl, fun r m => by simp at m⟩ (fun i σ H1 hi hP => ?_) (fun σ H1 hP => ?_)⟩
    · obtain ⟨x, y, rs, rfl, s1, hl1, hlen, hrs⟩ := hP
      have step : ∀ m : Int, ∃ rs', rs' = rs ++ [m % b] ∧ rs'.length = i + 1 ∧ ∀ r ∈ rs', 0 ≤ r ∧ r < b := fun m => ⟨_, rfl, by rw [List.length_append, hlen]; rfl, fun r hr => by
        rcases List.mem_append.mp hr with hr | hr
        · exact hrs r hr
        · rw [List.mem_singleton.mp hr]
          exact ⟨Int.emod_nonneg _ (by omega), Int.emod_lt_of_pos _ hb⟩⟩
      have cnt : (rs.map V.int).length < sizeLine := sl_lt (by rw [List.length_map]; omega)
      have app : ∀ m : Int, rs.map V.int ++ [V.int (m % b)] = (rs ++ [m % b]).map V.int := fun m => by rw [List.map_append]; rfl
      refine ⟨_, rfl, c, rfl, _, _, rfl, rfl, _, rfl, iteB (fun z => ?_) (fun z => ?_)⟩
      · refine ⟨_, rfl, .inl ⟨rfl, _, SqL.of hl1⟩, _, rfl, .inl ⟨_, rfl, _, rfl, _, _, rfl, rfl, hb, l, _, _, rfl, rfl, hl1, cnt, ?_⟩⟩
        refine ⟨_, rfl, _, rfl, _, _, rfl, rfl, ⟨by omega, ?_⟩, ?_⟩
        · refine Nat.lt_of_lt_of_le (PySem.Flt.log2_lt_of (k := 10) (by decide) ?_) (by decide)
          omega
        · obtain ⟨rs', e1, e2, e3⟩ := step x
          subst e1
          exact ⟨_, _, _, rfl, s1.own hl, by rw [upd_same, app], e2, e3⟩
      · refine ⟨_, rfl, .inl ⟨rfl, _, SqL.of hl1⟩, _, rfl, _, rfl, c, _, rfl, fun m hm => .inl ⟨_, rfl, _, rfl, _, _, rfl, rfl, hb, l, _, _, rfl, rfl, hl1, cnt, ?_⟩⟩
        obtain ⟨rs', e1, e2, e3⟩ := step m
        subst e1
        exact ⟨_, _, _, rfl, s1.own hl, by rw [upd_same, app], e2, e3⟩
    · obtain ⟨x, y, rs, rfl, s1, hl1, hlen, hrs⟩ := hP
      exact ⟨_, rfl, q l H1 rs s1 hl hl1 hlen hrs⟩
/-! ### the pairs of vertices -/
def rowP (n u : Nat) : List (Int × Int) := (List.range (n - (u + 1))).map fun j => ((u : Int), ((u + 1 + j : Nat) : Int))
def prs (n : Nat) : Nat → List (Int × Int)
  | 0 => []
  | i + 1 => prs n i ++ rowP n i
def ltK (x y : Int × Int) : Prop := x.1 < y.1 ∨ (x.1 = y.1 ∧ x.2 < y.2)
theorem mem_row {n u : Nat} {x : Int × Int} (h : x ∈ rowP n u) : x.1 = u ∧ (u : Int) < x.2 ∧ x.2 < n := by
  obtain ⟨j, hj, rfl⟩ := List.mem_map.mp h
  have := List.mem_range.mp hj
  exact ⟨rfl, by show (u : Int) < ((u + 1 + j : Nat) : Int); omega, by show ((u + 1 + j : Nat) : Int) < n; omega⟩
theorem mem_prs {n : Nat} {x : Int × Int} : ∀ {i : Nat}, x ∈ prs n i → 0 ≤ x.1 ∧ x.1 < i ∧ x.1 < x.2 ∧ x.2 < n
  | 0, h => by cases h
  | i + 1, h => by
    rcases List.mem_append.mp h with h | h
    · have := mem_prs h
      omega
    · have := mem_row h
      omega
theorem prs_asc (n : Nat) : ∀ i, (prs n i).Pairwise ltK
  | 0 => .nil
  | i + 1 => by
    refine List.pairwise_append.mpr ⟨prs_asc n i, ?_, fun x hx y hy => ?_⟩
    · unfold rowP
      rw [List.pairwise_map]
      refine (List.pairwise_lt_range (n := n - (i + 1))).imp fun {a b} h => ?_
      refine .inr ⟨rfl, ?_⟩
      show ((i + 1 + a : Nat) : Int) < ((i + 1 + b : Nat) : Int)
      omega
    · have h1 := mem_prs hx
      have h2 := mem_row hy
      exact .inl (by omega)
theorem prs_cnt : ∀ n, n ≤ 7 → 2 * (prs n n).length ≤ n * (n - 1) := by decide
theorem prs_len : ∀ n, n ≤ 7 → (prs n n).length ≤ 21 := by decide
/-- an edge known to be a tuple -/
def EdgeT (H : Hp) (v : V) (e : Eg) : Prop := ∃ a, v = .ref a ∧ H a = some (.tup [.int e.1, .int e.2.1, .int e.2.2])
theorem edges_at {H : Hp} {xs : List V} {es : List Eg} (h : Paired (EdgeT H) xs es) : Paired (EdgeAt K H) xs es := paired_imp (fun _ _ ⟨a, e, h⟩ => ⟨a, e, SqT.of h⟩) h
theorem _root_.EXT.Ext.edgesT {H H' : Hp} (s : Ext H H') {xs : List V} {es : List Eg} (h : Paired (EdgeT H) xs es) : Paired (EdgeT H') xs es := paired_imp (fun _ _ ⟨a, e, h⟩ => ⟨a, e, s.at h⟩) h
theorem edgesT_upd {H : Hp} {D : Addr} {o : HO} {acc : List V} {xs : List V} {es : List Eg} (hD : H D = some (.lst acc)) (h : Paired (EdgeT H) xs es) : Paired (EdgeT (upd H D o)) xs es :=
  paired_imp (fun _ _ ⟨a, e, h⟩ => ⟨a, e, by rw [upd_ne (fun z => by rw [z, hD] at h; cases h)]; exact h⟩) h
/-- pairs known to be tuples -/
def PrT (H : Hp) (v : V) (k : Int × Int) : Prop := ∃ a, v = .ref a ∧ H a = some (.tup [.int k.1, .int k.2])
theorem _root_.EXT.Ext.prs {H H' : Hp} (s : Ext H H') {xs : List V} {ks : List (Int × Int)} (h : Paired (PrT H) xs ks) : Paired (PrT H') xs ks := paired_imp (fun _ _ ⟨a, e, h⟩ => ⟨a, e, s.at h⟩) h
theorem prs_upd {H : Hp} {D : Addr} {o : HO} {acc : List V} {xs : List V} {ks : List (Int × Int)} (hD : H D = some (.lst acc)) (h : Paired (PrT H) xs ks) : Paired (PrT (upd H D o)) xs ks :=
  paired_imp (fun _ _ ⟨a, e, h⟩ => ⟨a, e, by rw [upd_ne (fun z => by rw [z, hD] at h; cases h)]; exact h⟩) h
/-- fields and edges as the law draws them -/
structure Drawn (most : Int) (fs : List Int) (es : List Eg) : Prop where
  one : 1 ≤ fs.length
  most : (fs.length : Int) ≤ most
  small : ∀ f ∈ fs, -2 ≤ f ∧ f ≤ 2
  len : es.length ≤ 21
  ok : ∀ e ∈ es, okE fs.length e
  asc : es.Pairwise ltEg
  cnt : 2 * es.length ≤ fs.length * (fs.length - 1)
theorem coup_at (r : Int) (h0 : 0 ≤ r) (h6 : r < 12) : ∃ c : Int, atI [V.int 1, .int (-1), .int 0, .int 2, .int 1, .int 0, .int (-2), .int 3, .int 0, .int 1, .int (-1), .int 0] r = some (.int c) ∧ -2 ≤ c ∧ c ≤ 3 := by
  have : r = 0 ∨ r = 1 ∨ r = 2 ∨ r = 3 ∨ r = 4 ∨ r = 5 ∨ r = 6 ∨ r = 7 ∨ r = 8 ∨ r = 9 ∨ r = 10 ∨ r = 11 := by omega
  rcases this with rfl | rfl | rfl | rfl | rfl | rfl | rfl | rfl | rfl | rfl | rfl | rfl <;> exact ⟨_, rfl, by decide, by decide⟩
def spSpins (K : PySem.W.Frag) : Sp := fun vs H Q _ => ∃ (a : Addr) (ns : List Int) (first : Nat) (most kind : Int), vs = [.ref a, .int (first : Int), .int most, .int kind] ∧ SqL K H a (ns.map V.int) ∧ 1 ≤ most ∧ most ≤ 7 ∧
  ∀ l H' fb eb fs xs es, Ext H H' → H l = none → H' l = some (.tup [.ref fb, .ref eb]) → H fb = none → H' fb = some (.lst (fs.map V.int)) → H eb = none → H' eb = some (.lst xs) → Paired (EdgeT H') xs es → Drawn most fs es → Q (.ref l) H'
theorem ok_law_spins (T : Top K mg) : FnOk P w K mg base CX0 3 T.f_law_spins T.d_law_spins ["script", "first", "most", "kind"] (spSpins K) := by
  refine T.F_law_spins.ok sc_law_spins (fun vs H Q E h => ?_) (fun cdv A outer s H vs Q E hr h => ?_)
  · obtain ⟨a, ns, first, most, kind, rfl, _⟩ := h
    rfl
  obtain ⟨a, ns, first, most, kind, rfl, hS, hm1, hm7, q⟩ := h
  refine ⟨_, (pss_cons (ps_set (i := 4) sc_law_spins.nd rfl (by first | exact .inl rfl | exact .inr rfl) (pe_op op_add pe_int (pe_op op_mod (pe_call (ok_law_cell T) (hr.mono (by decide)) (by rfl) T.g_law_cell T.F_law_cell.kp T.b_law_cell .nil pass0 (pa_cons (pv 0) (pa_cons (pv 1) pa_nil))) (pv 2))))
      (pss_cons (ps_set (i := 5) sc_law_spins.nd rfl (by first | exact .inl rfl | exact .inr rfl) (pe_op op_rep (pe_lst (pa_cons pe_int pa_nil)) (pv 4)))
      (C8.pss_cut (ps_if (pt_cmpR op_lt (pv 3) pe_int (nomark _)) (pss_one (ps_setLc (i := 5) (own := [("digit", 6)]) (g := gName 6) (tt := tYes) rfl sc_law_spins.nd rfl rfl (sw_true rfl rfl rfl (by decide +kernel)) (pi_list (pe_call (ok_law_row T) (hr.mono (by decide)) (by rfl) T.g_law_row T.F_law_row.kp T.b_law_row .nil pass0 (pa_cons (pe_call (ok_law_cell T) (hr.mono (by decide)) (by rfl) T.g_law_cell T.F_law_cell.kp T.b_law_cell .nil pass0 (pa_cons (pv 0) (pa_cons (pe_op op_add (pv 1) pe_int) pa_nil))) (pa_cons (pv 4) (pa_cons pe_int pa_nil))))) (blkOk_by (own := [("digit", 6)]) (N := n_law_spins) (sc := defScope s_law_spins) (by decide +kernel)) (fun _ _ _ _ _ => (pg_name (i := 6) sc_law_spins.nd rfl (by first | exact .inl rfl | exact .inr rfl))) (fun _ _ _ _ _ => pts_nil) (fun _ _ _ _ _ => (pe_op op_sub (pv 6) pe_int)))) pss_nil)
      (pss_cons (ps_set (i := 7) sc_law_spins.nd rfl (by first | exact .inl rfl | exact .inr rfl) (pe_lst pa_nil))
      (C8.pss_cut (ps_for PassesOwn.never rfl (pi_range1 (by rfl) T.m_range (pa_cons (pv 4) pa_nil)) (pg_name (i := 8) sc_law_spins.nd rfl (by first | exact .inl rfl | exact .inr rfl)) (pss_one (ps_aug (i := 7) sc_law_spins.nd rfl (by first | exact .inl rfl | exact .inr rfl) (pe_lc (own := [("v", 9)]) (g := gName 9) (tt := tYes) rfl sc_law_spins.nd (pi_range2 (by rfl) T.m_range (pa_cons (pe_op op_add (pv 8) pe_int) (pa_cons (pv 4) pa_nil))) (blkOk_by (own := [("v", 9)]) (N := n_law_spins) (sc := defScope s_law_spins) (by decide +kernel)) (fun _ _ _ _ _ => (pg_name (i := 9) sc_law_spins.nd rfl (by first | exact .inl rfl | exact .inr rfl))) (fun _ _ _ _ _ => pts_nil) (fun _ _ _ _ _ => (pe_tup (pa_cons (pv 8) (pa_cons (pv 9) pa_nil))))) iop_ext)))
      (pss_cons (ps_set (i := 10) sc_law_spins.nd rfl (by first | exact .inl rfl | exact .inr rfl) (pe_lst pa_nil))
      (pss_cons (ps_set (i := 11) sc_law_spins.nd rfl (by first | exact .inl rfl | exact .inr rfl) (pe_call (ok_law_row T) (hr.mono (by decide)) (by rfl) T.g_law_row T.F_law_row.kp T.b_law_row .nil pass0 (pa_cons (pe_call (ok_law_cell T) (hr.mono (by decide)) (by rfl) T.g_law_cell T.F_law_cell.kp T.b_law_cell .nil pass0 (pa_cons (pv 0) (pa_cons (pe_op op_add (pv 1) pe_int) pa_nil))) (pa_cons (pe_callB call_len_seq (by rfl) T.m_len (by decide +kernel) (pa_cons (pv 7) pa_nil)) (pa_cons pe_int pa_nil)))))
      (pss_cons (ps_for PassesOwn.never rfl (pi_range1 (by rfl) T.m_range (pa_cons (pe_callB call_len_seq (by rfl) T.m_len (by decide +kernel) (pa_cons (pv 7) pa_nil)) pa_nil)) (pg_name (i := 12) sc_law_spins.nd rfl (by first | exact .inl rfl | exact .inr rfl)) (pss_cons (ps_set (i := 13) sc_law_spins.nd rfl (by first | exact .inl rfl | exact .inr rfl) (pe_ix ix_tup (pe_tup (pa_cons pe_int (pa_cons (pe_un un_neg pe_int) (pa_cons pe_int (pa_cons pe_int (pa_cons pe_int (pa_cons pe_int (pa_cons (pe_un un_neg pe_int) (pa_cons pe_int (pa_cons pe_int (pa_cons pe_int (pa_cons (pe_un un_neg pe_int) (pa_cons pe_int pa_nil))))))))))))) (pe_ix ix_list (pv 11) (pv 12) (fun _ _ => rfl)) (fun _ _ => rfl)))
      (pss_one (ps_if (pt_cmpR op_ne (pv 13) pe_int (nomark _)) (pss_one (ps_expr (pe_bm PySem.F.plainAttrs_list PySem.F.slot_list_append PySem.F.type_list_append mt_append (pv 10) (pa_cons (pe_tup (pa_cons (pe_ix ix_tup (pe_ix ix_list (pv 7) (pv 12) (fun _ _ => rfl)) pe_int (fun _ _ => rfl)) (pa_cons (pe_ix ix_tup (pe_ix ix_list (pv 7) (pv 12) (fun _ _ => rfl)) pe_int (fun _ _ => rfl)) (pa_cons (pe_ifExp (pt_cmpR op_in_seq (pv 3) (pe_tup (pa_cons pe_int (pa_cons pe_int pa_nil))) (by rfl)) (pe_callB call_abs (by rfl) T.m_abs (by decide +kernel) (pa_cons (pv 13) pa_nil)) (pv 13)) pa_nil)))) pa_nil)))) pss_nil))))
      (pss_one (ps_ret (pe_tup (pa_cons (pv 5) (pa_cons (pv 10) pa_nil))))))))))))), ?_⟩
  -- count
  refine ⟨_, rfl, _, rfl, a, ns, first, rfl, hS, _, rfl, _, _, rfl, rfl, (show 0 < most by omega), _, _, rfl, rfl, ?_⟩
  obtain ⟨n, hn, hn7⟩ : ∃ n : Nat, 1 + cellZ ns first % most = ((n + 1 : Nat) : Int) ∧ ((n + 1 : Nat) : Int) ≤ most := by
    have h1 := Int.emod_nonneg (cellZ ns first) (show most ≠ 0 by omega)
    have h2 := Int.emod_lt_of_pos (cellZ ns first) (show 0 < most by omega)
    exact ⟨(cellZ ns first % most).toNat, by omega, by omega⟩
  have hn8 : n ≤ 6 := by omega
  have ec : V.int (1 + cellZ ns first % most) = V.int ((n + 1 : Nat) : Int) := by rw [hn]
  refine ⟨by rw [sizeLine_eq]; simp, fun l0 hl0 => ⟨_, rfl, l0, _, [V.int 0], rfl, rfl, upd_same, by omega, by omega, ?_, fun f0 hf0 => ?_⟩⟩
  · rw [hn, sizeLine_eq]
    show 1 * (((n + 1 : Nat) : Int)).toNat ≤ _
    omega
  have s0 : Ext H (upd (upd H l0 (.lst [V.int 0])) f0 (.lst (List.replicate (1 + cellZ ns first % most).toNat [V.int 0]).flatten)) := (ext_upd hl0).new hf0
  have nf0 : H f0 = none := (ext_upd hl0).free hf0
  have hfl : upd (upd H l0 (.lst [V.int 0])) f0 (.lst (List.replicate (1 + cellZ ns first % most).toNat [V.int 0]).flatten) f0 = some (.lst ((List.replicate (n + 1) (0 : Int)).map V.int)) := by
    rw [upd_same, hn]
    have : ((n + 1 : Nat) : Int).toNat = n + 1 := by omega
    rw [this, List.map_replicate]
    have e : ∀ k, (List.replicate k [V.int 0]).flatten = List.replicate k (V.int 0) := fun k => by
      induction k with
      | zero => rfl
      | succ k ih => rw [List.replicate_succ, List.flatten_cons, ih, List.replicate_succ]; rfl
    rw [e]
  generalize upd (upd H l0 (.lst [V.int 0])) f0 (.lst (List.replicate (1 + cellZ ns first % most).toNat [V.int 0]).flatten) = H1 at *
  refine ⟨fun σ H2 => ∃ (fb : Addr) (fs : List Int), σ = [some (.ref a), some (.int (first : Int)), some (.int most), some (.int kind), some (.int ((n + 1 : Nat) : Int)), some (.ref fb), none, none, none, none, none, none, none, none] ∧ Ext H H2 ∧ H fb = none ∧ H2 fb = some (.lst (fs.map V.int)) ∧ fs.length = n + 1 ∧ ∀ f ∈ fs, -2 ≤ f ∧ f ≤ 2, ?_, ?_⟩
  · refine ⟨_, rfl, _, _, rfl, rfl, _, rfl, ite2 (fun _ => ?_) (fun _ => ?_)⟩
    · refine ⟨_, rfl, _, rfl, _, _, rfl, rfl, a, ns, first + 1, rfl, s0.seq hS, _, rfl, cellZ ns (first + 1), 5, n + 1, by rw [← ec]; rfl, by omega, by decide, by decide, fun l H2 rs s2 nl hl lrs hrs => ?_⟩
      have s02 := s0.trans s2
      refine ⟨l, rfl, ⟨_, SqL.of hl⟩, fun D hD => lc_list (xs := rs.map V.int) (fun i H3 => Ext H2 H3 ∧ H3 D = some (.lst (((rs.take i).map fun r => r - 2).map V.int))) ⟨ext_upd hD, upd_same⟩ (fun i H3 _ h => SqL.of (h.1.lst hl)) (fun i x H3 hi hP => ?_) (fun H3 hP => ?_)⟩
      · obtain ⟨s3, hz⟩ := hP
        rw [List.getElem?_map] at hi
        cases hr2 : rs[i]? with
        | none => rw [hr2] at hi; cases hi
        | some r =>
          rw [hr2] at hi
          cases hi
          refine ⟨rfl, _, rfl, _, _, rfl, rfl, _, hz, ?_, s3.own hD, ?_⟩
          · rw [List.length_map, List.length_map, List.length_take]
            exact sl_lt (by omega)
          · rw [upd_same, take_snoc hr2, List.map_append, List.map_append]
            rfl
      · obtain ⟨s3, hz⟩ := hP
        rw [List.length_map, List.take_length] at hz
        refine ⟨D, rs.map fun r => r - 2, ?_, s02.trans s3, s02.free hD, hz, by rw [List.length_map]; exact lrs, fun f m => ?_⟩
        · rw [← ec]
          rfl
        · obtain ⟨r, hr3, rfl⟩ := List.mem_map.mp m
          have := hrs r hr3
          omega
    · refine ⟨f0, List.replicate (n + 1) 0, ?_, s0, nf0, hfl, List.length_replicate, fun f m => ?_⟩
      · rw [← ec]
        rfl
      · rw [List.eq_of_mem_replicate m]
        decide
  rintro σ H2 ⟨fb, fs, rfl, s2, nfb, hfb, lfs, sfs⟩
  -- pairs
  refine ⟨by rw [sizeLine_eq]; simp, fun pl hpl => ?_⟩
  have npl : H pl = none := s2.free hpl
  refine ⟨fun σ H3 => ∃ (u : Option V) (xs : List V), σ = [some (.ref a), some (.int (first : Int)), some (.int most), some (.int kind), some (.int ((n + 1 : Nat) : Int)), some (.ref fb), none, some (.ref pl), u, none, none, none, none, none] ∧ Ext H2 H3 ∧ H3 pl = some (.lst xs) ∧ Paired (PrT H3) xs (prs (n + 1) (n + 1)), ?_, ?_⟩
  · refine ⟨_, rfl, _, rfl, by omega, by omega, for_range (n := n + 1) (fun i σ H3 => ∃ (u : Option V) (xs : List V), σ = [some (.ref a), some (.int (first : Int)), some (.int most), some (.int kind), some (.int ((n + 1 : Nat) : Int)), some (.ref fb), none, some (.ref pl), u, none, none, none, none, none] ∧ Ext H2 H3 ∧ H3 pl = some (.lst xs) ∧ Paired (PrT H3) xs (prs (n + 1) i) ∧ xs.length ≤ 7 * i)
      ⟨_, [], rfl, ext_upd hpl, upd_same, .nil, Nat.zero_le _⟩ (fun i σ H3 hi hP => ?_) (fun σ H3 hP => ?_)⟩
    · obtain ⟨u, xs, rfl, s3, hxs, hpr, lxs⟩ := hP
      have rl : (rowP (n + 1) i).length ≤ 6 := by
        unfold rowP
        rw [List.length_map, List.length_range]
        omega
      refine ⟨_, rfl, _, rfl, _, _, rfl, rfl, _, rfl, _, _, rfl, ⟨by omega, by omega, by omega, by omega⟩, fun D hD => lc_range (lo := 0 + (i : Int) + 1) (n := (((n + 1 : Nat) : Int) - (0 + (i : Int) + 1)).toNat) (fun j H4 => Ext H3 H4 ∧ ∃ ys, H4 D = some (.lst ys) ∧ Paired (PrT H4) ys ((rowP (n + 1) i).take j)) ⟨ext_upd hD, [], upd_same, .nil⟩ (fun j H4 hj hP => ?_) (fun H4 hP => ?_)⟩
      · obtain ⟨s4, ys, hys, hp4⟩ := hP
        have hj : j < n + 1 - (i + 1) := by omega
        have hg : (rowP (n + 1) i)[j]? = some (0 + (i : Int), 0 + (i : Int) + 1 + (j : Int)) := by
          unfold rowP
          rw [List.getElem?_map, List.getElem?_range hj]
          show some ((i : Int), ((i + 1 + j : Nat) : Int)) = _
          congr 1
          refine Prod.ext ?_ ?_
          · show (i : Int) = 0 + i
            omega
          · show ((i + 1 + j : Nat) : Int) = 0 + (i : Int) + 1 + j
            omega
        refine ⟨rfl, _, rfl, _, rfl, sl2, fun p hp => ?_⟩
        have hys2 := (ext_upd (o := .tup [V.int (0 + (i : Int)), .int (0 + (i : Int) + 1 + (j : Int))]) hp).lst hys
        refine ⟨ys, hys2, ?_, (s4.new hp).own hD, ys ++ [.ref p], upd_same, ?_⟩
        · have l4 := hp4.length
          rw [List.length_take] at l4
          exact sl_lt (by omega)
        · rw [take_snoc hg]
          exact prs_upd hys2 (paired_snoc ((ext_upd hp).prs hp4) ⟨p, rfl, upd_same⟩)
      · obtain ⟨s4, ys, hys, hp4⟩ := hP
        have el : (((n + 1 : Nat) : Int) - (0 + (i : Int) + 1)).toNat = (rowP (n + 1) i).length := by
          unfold rowP
          rw [List.length_map, List.length_range]
          omega
        rw [el, List.take_length] at hp4
        have hx4 := s4.lst hxs
        have npl2 : H2 pl = none := hpl
        refine ⟨pl, D, xs, ys, rfl, rfl, hx4, hys, ?_, ?_⟩
        · have := hp4.length
          exact sl_of (by omega)
        · refine ⟨_, _, rfl, (s3.trans s4).own npl2, upd_same, ?_, ?_⟩
          · exact prs_upd hx4 (paired_app (s4.prs hpr) hp4)
          · have := hp4.length
            rw [List.length_append]
            omega
    · obtain ⟨u, xs, rfl, s3, hxs, hpr, _⟩ := hP
      exact ⟨u, xs, rfl, s3, hxs, hpr⟩
  rintro σ H3 ⟨u, ps, rfl, s3, hps, hpr⟩
  -- edges, digits
  have lp := hpr.length
  have lp21 : (prs (n + 1) (n + 1)).length ≤ 21 := prs_len (n + 1) (by omega)
  have s03 := s2.trans s3
  have nfb3 : H3 fb = some (.lst (fs.map V.int)) := s3.lst hfb
  refine ⟨by rw [sizeLine_eq]; simp, fun e0 he0 => ?_⟩
  have ne0 : H e0 = none := s03.free he0
  have x4 : Ext H3 (upd H3 e0 (.lst [])) := ext_upd he0
  have he1 : upd H3 e0 (.lst []) e0 = some (.lst []) := upd_same
  generalize upd H3 e0 (.lst []) = H4 at *
  have s04 := s03.trans x4
  refine ⟨_, rfl, _, rfl, _, _, rfl, rfl, a, ns, first + 2, rfl, s04.seq hS, _, rfl, pl, _, rfl, .inl (SqL.of (x4.lst hps)), cellZ ns (first + 2), 12, ps.length, rfl, by omega, by decide, by decide, fun dl H5 rs s5 nd hd ld hrs => ?_⟩
  have s05 := s04.trans s5
  have x5 := x4.trans s5
  have n1 : fb ≠ e0 := ne_of_none nfb3 he0
  have n2 : pl ≠ e0 := ne_of_none hps he0
  have n3 : dl ≠ e0 := (ne_of_none he1 nd).symm
  refine ⟨_, rfl, pl, _, rfl, .inl (SqL.of (x5.lst hps)), _, rfl, by omega, by omega, for_range (n := ps.length) (fun k σ H6 => ∃ (w1 w2 : Option V) (xs : List V) (es : List Eg), σ = [some (.ref a), some (.int (first : Int)), some (.int most), some (.int kind), some (.int ((n + 1 : Nat) : Int)), some (.ref fb), none, some (.ref pl), u, none, some (.ref e0), some (.ref dl), w1, w2] ∧ Ext H H6 ∧
      H6 fb = some (.lst (fs.map V.int)) ∧ H6 pl = some (.lst ps) ∧ Paired (PrT H6) ps (prs (n + 1) (n + 1)) ∧ H6 dl = some (.lst (rs.map V.int)) ∧ H6 e0 = some (.lst xs) ∧ Paired (EdgeT H6) xs es ∧ (es.map fun e => (e.1, e.2.1)).Sublist ((prs (n + 1) (n + 1)).take k) ∧ ∀ e ∈ es, e.2.2 ≠ 0 ∧ -9 ≤ e.2.2 ∧ e.2.2 ≤ 9)
    ⟨_, _, [], [], rfl, s05, x5.lst nfb3, x5.lst hps, x5.prs hpr, hd, s5.lst he1, .nil, List.nil_sublist _, fun e m => by simp at m⟩ (fun k σ H6 hk hP => ?_) (fun σ H6 hP => ?_)⟩
  · obtain ⟨w1, w2, xs, es, rfl, s6, f6, p6, pr6, d6, e6, ee6, sub, good⟩ := hP
    have hkp : k < ps.length := by
      have : (k : Int) < ps.length := by omega
      omega
    obtain ⟨pk, hpk⟩ : ∃ v, ps[k]? = some v := ⟨_, List.getElem?_eq_getElem hkp⟩
    obtain ⟨⟨pu, pw⟩, hprk, pa, rfl, hpa⟩ := paired_at pr6 hpk
    obtain ⟨r, hrk⟩ : ∃ r, rs[k]? = some r := ⟨_, List.getElem?_eq_getElem (by omega)⟩
    have hr12 := hrs r (List.mem_of_getElem? hrk)
    obtain ⟨c, hc, hc3⟩ := coup_at r hr12.1 hr12.2
    have lxs : xs.length ≤ 21 := by
      have h1 := ee6.length
      have h2 := sub.length_le
      rw [List.length_map, List.length_take] at h2
      omega
    have atk : ∀ {α : Type} {zs : List α} {z : α}, zs[k]? = some z → atI zs (0 + (k : Int)) = some z := fun h => by
      rw [Int.zero_add]
      exact atI_nat h
    refine ⟨_, rfl, _, rfl, _, rfl, by rw [sizeLine_eq]; simp, fun tp htp => ?_⟩
    have y1 := ext_upd (o := .tup [V.int 1, .int (-1), .int 0, .int 2, .int 1, .int 0, .int (-2), .int 3, .int 0, .int 1, .int (-1), .int 0]) htp
    refine ⟨_, rfl, _, rfl, dl, rs.map V.int, _, .int r, rfl, rfl, SqL.of (y1.lst d6), atk (by rw [List.getElem?_map, hrk]; rfl), tp, _, r, .int c, rfl, rfl, SqT.of upd_same, hc, ?_⟩
    generalize upd H6 tp (.tup [V.int 1, .int (-1), .int 0, .int 2, .int 1, .int 0, .int (-2), .int 3, .int 0, .int 1, .int (-1), .int 0]) = H7 at *
    have subk : (es.map fun e => (e.1, e.2.1)).Sublist ((prs (n + 1) (n + 1)).take (k + 1)) := by
      rw [take_snoc hprk]
      exact sub.trans (List.sublist_append_left _ _)
    refine ⟨_, rfl, rfl, _, rfl, iteB (fun z => ?_) (fun z => ?_)⟩
    · have cz : c ≠ 0 := fun w => by
        rw [w] at z
        cases z
      refine ⟨_, rfl, .inl ⟨rfl, _, SqL.of (y1.lst e6)⟩, _, rfl, _, rfl, pl, ps, _, _, rfl, rfl, SqL.of (y1.lst p6), atk hpk, pa, _, 0, _, rfl, rfl, SqT.of (y1.at hpa), atI_nat (j := 0) rfl,
        _, rfl, _, rfl, pl, ps, _, _, rfl, rfl, SqL.of (y1.lst p6), atk hpk, pa, _, 1, _, rfl, rfl, SqT.of (y1.at hpa), atI_nat (j := 1) rfl, _, rfl, sl2, fun q1 hq1 => ?_⟩
      have y2 := y1.trans (ext_upd (o := .tup [V.int 1, .int 3]) hq1)
      refine ⟨q1, _, rfl, .inr (SqT.of upd_same), rfl, rfl, _, rfl, ?_⟩
      generalize upd H7 q1 (.tup [V.int 1, .int 3]) = H8 at *
      have key : ∀ c' : Int, c' ≠ 0 → -9 ≤ c' → c' ≤ 9 → ∀ p3, H8 p3 = none → Ext H6 (upd H8 p3 (.tup [.int pu, .int pw, .int c'])) ∧ (∀ e ∈ es ++ [(pu, pw, c')], e.2.2 ≠ 0 ∧ -9 ≤ e.2.2 ∧ e.2.2 ≤ 9) ∧ ((es ++ [(pu, pw, c')]).map fun e => (e.1, e.2.1)).Sublist ((prs (n + 1) (n + 1)).take (k + 1)) := fun c' h1 h2 h3 p3 hp3 => by
        refine ⟨y2.new hp3, fun e m => ?_, ?_⟩
        · rcases List.mem_append.mp m with m | m
          · exact good e m
          · rw [List.mem_singleton.mp m]
            exact ⟨h1, h2, h3⟩
        · rw [take_snoc hprk, List.map_append]
          exact sub.append (List.Sublist.refl _)
      refine iteB (fun _ => ?_) (fun _ => ?_)
      · refine ⟨_, rfl, c, rfl, by rw [sizeLine_eq]; simp, fun p3 hp3 => ?_⟩
        obtain ⟨y3, g3, sb3⟩ := key (if c < 0 then -c else c) (by split <;> omega) (by split <;> omega) (by split <;> omega) p3 hp3
        have ee := y3.lst e6
        refine ⟨e0, xs, .ref p3, rfl, rfl, ee, sl_lt (by omega), _, _, xs ++ [.ref p3], _, rfl, (s6.trans y3).own ne0, ?_, ?_, ?_, ?_, upd_same, edgesT_upd ee (paired_snoc (y3.edgesT ee6) ⟨p3, rfl, upd_same⟩), sb3, g3⟩
        · rw [upd_ne n1]
          exact y3.lst f6
        · rw [upd_ne n2]
          exact y3.lst p6
        · exact prs_upd ee (y3.prs pr6)
        · rw [upd_ne n3]
          exact y3.lst d6
      · refine ⟨_, rfl, by rw [sizeLine_eq]; simp, fun p3 hp3 => ?_⟩
        obtain ⟨y3, g3, sb3⟩ := key c cz (by omega) (by omega) p3 hp3
        have ee := y3.lst e6
        refine ⟨e0, xs, .ref p3, rfl, rfl, ee, sl_lt (by omega), _, _, xs ++ [.ref p3], _, rfl, (s6.trans y3).own ne0, ?_, ?_, ?_, ?_, upd_same, edgesT_upd ee (paired_snoc (y3.edgesT ee6) ⟨p3, rfl, upd_same⟩), sb3, g3⟩
        · rw [upd_ne n1]
          exact y3.lst f6
        · rw [upd_ne n2]
          exact y3.lst p6
        · exact prs_upd ee (y3.prs pr6)
        · rw [upd_ne n3]
          exact y3.lst d6
    · exact ⟨_, _, xs, es, rfl, s6.trans y1, y1.lst f6, y1.lst p6, y1.prs pr6, y1.lst d6, y1.lst e6, y1.edgesT ee6, subk, good⟩
  · obtain ⟨w1, w2, xs, es, rfl, s6, f6, p6, pr6, d6, e6, ee6, sub, good⟩ := hP
    rw [lp, List.take_length] at sub
    refine ⟨_, rfl, _, rfl, sl2, fun l hl => ?_⟩
    have y1 := ext_upd (o := .tup [V.ref fb, .ref e0]) hl
    refine q l _ fb e0 fs xs es (s6.new hl) (s6.free hl) upd_same nfb (y1.lst f6) ne0 (y1.lst e6) (y1.edgesT ee6) ⟨by omega, by rw [lfs]; exact hn7, sfs, ?_, fun e m => ?_, ?_, ?_⟩
    · have h2 := sub.length_le
      rw [List.length_map] at h2
      omega
    · have h1 := mem_prs (sub.subset (List.mem_map.mpr ⟨e, m, rfl⟩))
      obtain ⟨g1, g2, g3⟩ := good e m
      rw [lfs]
      exact ⟨h1.1, h1.2.2.1, h1.2.2.2, g1, g2, g3⟩
    · have h1 := (prs_asc (n + 1) (n + 1)).sublist sub
      rw [List.pairwise_map] at h1
      exact h1
    · have h2 := sub.length_le
      rw [List.length_map] at h2
      rw [lfs]
      exact Nat.le_trans (Nat.mul_le_mul_left 2 h2) (prs_cnt (n + 1) (by omega))
def spIsSpins (K : PySem.W.Frag) : Sp := fun vs H Q _ => ∃ (fa ea : Addr) (fs : List Int) (xs : List V) (es : List Eg), vs = [.ref fa, .ref ea] ∧ SqL K H fa (fs.map V.int) ∧ SqL K H ea xs ∧ Paired (EdgeAt K H) xs es ∧
  (goodF fs ∧ goodE fs.length es → ∀ H', Ext H H' → Q (.bl true) H') ∧ (¬ (goodF fs ∧ goodE fs.length es) → ∀ H', Ext H H' → Q (.bl false) H')
theorem cut2' {x y z : V} : cutV [x, y, z] none (some 2) = [x, y] := rfl
theorem ok_law_is_spins (T : Top K mg) : FnOk P w K mg base CX0 1 T.f_law_is_spins T.d_law_is_spins ["fields", "edges"] (spIsSpins K) := by
  refine T.F_law_is_spins.ok sc_law_is_spins (fun vs H Q E h => ?_) (fun cdv A outer s H vs Q E hr h => ?_)
  · obtain ⟨fa, ea, fs, xs, es, rfl, _⟩ := h
    rfl
  obtain ⟨fa, ea, fs, xs, es, rfl, hf, he, hes, q1, q2⟩ := h
  refine ⟨_, (pss_cons (ps_if (PW.pt (pw_or (pt_not (pt_chain op_le op_le pe_int (pe_callB call_len_seq (by rfl) T.m_len (by decide +kernel) (pa_cons (pv 0) pa_nil)) pe_int)) (pw_or1 (pt_cmpR op_gt (pe_callB call_len_seq (by rfl) T.m_len (by decide +kernel) (pa_cons (pv 1) pa_nil)) pe_int (nomark _))))) (pss_one (ps_ret pe_bl)) pss_nil)
      (pss_cons (ps_for PassesOwn.never rfl (pi_list (pv 0)) (pg_name (i := 2) sc_law_is_spins.nd rfl (by first | exact .inl rfl | exact .inr rfl)) (pss_one (ps_if (PW.pt (pw_or (pt_cmpR op_lt (pv 2) (pe_un un_neg pe_int) (nomark _)) (pw_or1 (pt_cmpR op_gt (pv 2) pe_int (nomark _))))) (pss_one (ps_ret pe_bl)) pss_nil)))
      (pss_cons (ps_for PassesOwn.never rfl (pi_range1 (by rfl) T.m_range (pa_cons (pe_callB call_len_seq (by rfl) T.m_len (by decide +kernel) (pa_cons (pv 1) pa_nil)) pa_nil)) (pg_name (i := 3) sc_law_is_spins.nd rfl (by first | exact .inl rfl | exact .inr rfl)) (pss_cons (ps_asg (pe_ix ix_list (pv 1) (pv 3) (fun _ _ => rfl)) (pg_tup rfl (pgs_cons (pg_name (i := 4) sc_law_is_spins.nd rfl (by first | exact .inl rfl | exact .inr rfl)) (pgs_cons (pg_name (i := 5) sc_law_is_spins.nd rfl (by first | exact .inl rfl | exact .inr rfl)) (pgs_cons (pg_name (i := 6) sc_law_is_spins.nd rfl (by first | exact .inl rfl | exact .inr rfl)) pgs_nil)))))
      (pss_cons (ps_if (PW.pt (pw_or (pt_not (pt_chain3 op_le op_lt op_lt pe_int (pv 4) (pv 5) (pe_callB call_len_seq (by rfl) T.m_len (by decide +kernel) (pa_cons (pv 0) pa_nil)))) (pw_or (pt_cmpR op_eq (pv 6) pe_int (nomark _)) (pw_or1 (pt_cmpR op_gt (pe_callB call_abs (by rfl) T.m_abs (by decide +kernel) (pa_cons (pv 6) pa_nil)) pe_int (nomark _)))))) (pss_one (ps_ret pe_bl)) pss_nil)
      (pss_one (ps_if (PW.pt (pw_and (pt_cmpR op_gt (pv 3) pe_int (nomark _)) (pw_and1 (pt_cmpR (op_geP (Nat.lt_of_le_of_lt (Nat.le_add_right _ _) hr.units)) (pe_slice sl_tupA (pe_ix ix_list (pv 1) (pe_op op_sub (pv 3) pe_int) (fun _ _ => rfl)) po_none (po_some pe_int)) (pe_slice sl_tupA (pe_ix ix_list (pv 1) (pv 3) (fun _ _ => rfl)) po_none (po_some pe_int)) (nomark _))))) (pss_one (ps_ret pe_bl)) pss_nil)))))
      (pss_one (ps_ret pe_bl))))), ?_⟩
  have bad : ¬ (goodF fs ∧ goodE fs.length es) → ∀ H', Ext H H' → Q (.bl false) H' := q2
  have hl : (fs.map V.int).length = fs.length := List.length_map _
  have xl := hes.length
  have b0 := bad
  refine ⟨_, rfl, fa, _, rfl, .inl hf, _, _, rfl, rfl, _, rfl, ite2 (fun e1 => ?_) (fun e1 => ?_)⟩
  case refine_2 =>
    have e1 : ¬ 1 ≤ fs.length := fun z => e1 (decide_eq_true (by rw [hl]; omega))
    exact ⟨_, rfl, iteT (iteT (bad (fun g => e1 g.1.1) H (Ext.refl H)))⟩
  have e1 : 1 ≤ fs.length := by
    have := of_decide_eq_true e1
    rw [hl] at this
    omega
  refine ⟨_, _, rfl, rfl, _, rfl, ?_⟩
  by_cases e2 : fs.length ≤ 12
  case neg =>
    rw [decide_eq_false (by rw [hl]; omega)]
    exact iteT (iteT (bad (fun g => e2 g.1.2.1) H (Ext.refl H)))
  rw [decide_eq_true (by rw [hl]; omega)]
  refine iteF ?_
  refine ⟨_, rfl, ea, _, rfl, .inl he, _, _, rfl, rfl, _, rfl, ?_⟩
  by_cases e3 : es.length ≤ 24
  case neg =>
    rw [decide_eq_true (by omega)]
    exact iteT (bad (fun g => e3 g.2.1) H (Ext.refl H))
  rw [decide_eq_false (by omega)]
  refine iteF ?_
  -- the fields
  refine ⟨_, rfl, fa, rfl, ⟨_, hf⟩, for_list (xs := fs.map V.int) (fun i σ H1 => (∃ x, σ = [some (.ref fa), some (.ref ea), x, none, none, none, none]) ∧ H1 = H ∧ ∀ f ∈ fs.take i, -9 ≤ f ∧ f ≤ 9) ⟨⟨_, rfl⟩, rfl, fun f m => by simp at m⟩ (fun i σ H1 _ h => by rw [h.2.1]; exact hf) (fun i x σ H1 hi hP => ?_) (fun σ H1 hP => ?_)⟩
  · obtain ⟨⟨x1, rfl⟩, rfl, hz⟩ := hP
    rw [List.getElem?_map] at hi
    cases hfi : fs[i]? with
    | none => rw [hfi] at hi; cases hi
    | some f =>
      rw [hfi] at hi
      cases hi
      have hm := List.mem_of_getElem? hfi
      refine ⟨_, rfl, _, rfl, _, _, rfl, rfl, _, rfl, ?_⟩
      by_cases e4 : f < -9
      · rw [decide_eq_true e4]
        exact iteT (iteT (bad (fun g => by have := (g.1.2.2 f hm).1; omega) _ (Ext.refl _)))
      · rw [decide_eq_false e4]
        refine iteF ⟨_, rfl, _, _, rfl, rfl, _, rfl, ?_⟩
        by_cases e5 : 9 < f
        · rw [decide_eq_true e5]
          exact iteT (bad (fun g => by have := (g.1.2.2 f hm).2; omega) _ (Ext.refl _))
        · rw [decide_eq_false e5]
          refine iteF ⟨⟨_, rfl⟩, rfl, fun g m => ?_⟩
          rw [take_snoc hfi] at m
          rcases List.mem_append.mp m with m | m
          · exact hz g m
          · rw [List.mem_singleton.mp m]
            omega
  obtain ⟨⟨x0, rfl⟩, rfl, hz⟩ := hP
  rw [hl, List.take_length] at hz
  have gf : goodF fs := ⟨e1, e2, hz⟩
  -- the edges
  have fin : ∀ H', Ext H1 H' → (∃ e ∈ es, ¬ okE fs.length e) → Q (.bl false) H' := fun H' s ⟨e, m, z⟩ => bad (fun g => z (g.2.2.1 e m)) H' s
  refine ⟨_, rfl, ea, _, rfl, .inl he, _, rfl, by omega, by omega, for_range (n := xs.length) (fun i σ H2 => (∃ x1 x2 x3 x4, σ = [some (.ref fa), some (.ref ea), x0, x1, x2, x3, x4]) ∧ Ext H1 H2 ∧ (∀ e ∈ es.take i, okE fs.length e) ∧ ∀ j x y, j + 1 < i → es[j]? = some x → es[j + 1]? = some y → ltEg x y)
    ⟨⟨_, _, _, _, rfl⟩, Ext.refl _, fun e m => by simp at m, fun j x y hj => absurd hj (by omega)⟩ (fun k σ H2 hk hP => ?_) (fun σ H2 hP => ?_)⟩
  · obtain ⟨⟨x1, x2, x3, x4, rfl⟩, s2, hok, hlt⟩ := hP
    have hkn : k < xs.length := by
      have : (k : Int) < xs.length := by omega
      omega
    obtain ⟨vk, hvk⟩ : ∃ v, xs[k]? = some v := ⟨_, List.getElem?_eq_getElem hkn⟩
    obtain ⟨⟨u, v, j⟩, hek, a1, rfl, h1⟩ := paired_at hes hvk
    have hm := List.mem_of_getElem? hek
    have bade : ¬ okE fs.length (u, v, j) → ∀ H', Ext H1 H' → Q (.bl false) H' := fun z H' s => fin H' s ⟨_, hm, z⟩
    have atk : ∀ {α : Type} {zs : List α} {z : α}, zs[k]? = some z → atI zs (0 + (k : Int)) = some z := fun h => by
      rw [Int.zero_add]
      exact atI_nat h
    refine ⟨_, rfl, _, rfl, ea, xs, _, _, rfl, rfl, s2.seq he, atk hvk, a1, _, rfl, s2.tup h1, rfl, _, _, rfl, _, _, rfl, _, _, rfl, rfl, ?_⟩
    refine ⟨_, rfl, _, _, rfl, rfl, _, rfl, ite2 (fun b1 => ?_) (fun b1 => ?_)⟩
    case refine_2 =>
      have b1 : ¬ 0 ≤ u := fun z => b1 (decide_eq_true z)
      exact ⟨_, rfl, iteT (iteT (bade (fun z => b1 z.1) _ s2))⟩
    have b1 : 0 ≤ u := of_decide_eq_true b1
    refine ⟨_, rfl, _, _, rfl, rfl, _, rfl, ite2 (fun b2 => ?_) (fun b2 => ?_)⟩
    case refine_2 =>
      have b2 : ¬ u < v := fun z => b2 (decide_eq_true z)
      exact ⟨_, rfl, iteT (iteT (bade (fun z => b2 z.2.1) _ s2))⟩
    have b2 : u < v := of_decide_eq_true b2
    refine ⟨_, rfl, fa, _, rfl, .inl (s2.seq hf), _, _, rfl, rfl, _, rfl, ?_⟩
    rw [hl]
    by_cases b3 : v < fs.length
    case neg =>
      rw [decide_eq_false b3]
      exact iteT (iteT (bade (fun z => b3 z.2.2.1) _ s2))
    rw [decide_eq_true b3]
    refine iteF ?_
    refine ⟨_, rfl, rfl, _, rfl, ?_⟩
    by_cases b4 : j = 0
    case pos =>
      subst b4
      exact iteT (iteT (bade (fun z => z.2.2.2.1 rfl) _ s2))
    rw [decide_eq_false (fun z => b4 (V.int.inj z))]
    refine iteF ?_
    refine ⟨_, rfl, j, rfl, _, _, rfl, rfl, _, rfl, ?_⟩
    by_cases b5 : -9 ≤ j ∧ j ≤ 9
    case neg =>
      rw [decide_eq_true (by split <;> omega)]
      exact iteT (bade (fun z => b5 z.2.2.2.2) _ s2)
    rw [decide_eq_false (by split <;> omega)]
    refine iteF ?_
    have okk : ∀ e ∈ es.take (k + 1), okE fs.length e := fun e m => by
      rw [take_snoc hek] at m
      rcases List.mem_append.mp m with m | m
      · exact hok e m
      · rw [List.mem_singleton.mp m]
        exact ⟨b1, b2, b3, b4, b5.1, b5.2⟩
    -- the pair ahead
    refine ⟨_, rfl, _, _, rfl, rfl, _, rfl, ite2 (fun k0 => ?_) (fun k0 => ?_)⟩
    · have k0 : 0 < k := by
        have := of_decide_eq_true k0
        omega
      obtain ⟨vp, hvp⟩ : ∃ v, xs[k - 1]? = some v := ⟨_, List.getElem?_eq_getElem (by omega)⟩
      obtain ⟨⟨u', v', j'⟩, hep, a2, rfl, h2⟩ := paired_at hes hvp
      have atp : atI xs (0 + (k : Int) - 1) = some (.ref a2) := by
        have : 0 + (k : Int) - 1 = ((k - 1 : Nat) : Int) := by omega
        rw [this]
        exact atI_nat hvp
      refine ⟨_, rfl, _, rfl, _, _, rfl, rfl, ea, xs, _, _, rfl, rfl, s2.seq he, atp, 2, rfl, a2, _, rfl, s2.tup h2, fun w => absurd w cut2, fun _ p1 hp1 => ?_⟩
      have s3 := s2.new (o := .tup (cutV [V.int u', .int v', .int j'] none (some 2))) hp1
      refine ⟨_, rfl, _, rfl, ea, xs, _, _, rfl, rfl, s3.seq he, atk hvk, 2, rfl, a1, _, rfl, s3.tup h1, fun w => absurd w cut2, fun _ p2 hp2 => ?_⟩
      have s4 := s3.new (o := .tup (cutV [V.int u, .int v, .int j] none (some 2))) hp2
      refine ⟨p1, p2, (u', v'), (u, v), rfl, rfl, SqT.of ((ext_upd hp2).at upd_same), SqT.of upd_same, _, rfl, iteB (fun z => ?_) (fun z => ?_)⟩
      · have z : geP (u', v') (u, v) = true := z
        refine bad (fun g => ?_) _ s4
        have hek2 : es[k - 1 + 1]? = some (u, v, j) := by rw [Nat.sub_add_cancel k0]; exact hek
        have h3 := g.2.2.2 (k - 1) _ _ hep hek2
        have h4 : SrtO.lexB (u', v') (u, v) = true := SrtO.lexB_iff.mpr h3
        unfold geP at z
        rw [h4] at z
        cases z
      · have z : geP (u', v') (u, v) = false := z
        refine ⟨⟨_, _, _, _, rfl⟩, s4, okk, fun i x y hi hx hy => ?_⟩
        by_cases ek : i + 1 = k
        · have ei : i = k - 1 := by omega
          subst ei
          rw [hep] at hx
          rw [Nat.sub_add_cancel k0, hek] at hy
          cases hx
          cases hy
          refine (SrtO.lexB_iff (p := (u', v')) (q := (u, v))).mp ?_
          unfold geP at z
          simpa using z
        · exact hlt i x y (by omega) hx hy
    · have k0 : k = 0 := by
        have : ¬ (0 : Int) < 0 + (k : Int) := fun z => k0 (decide_eq_true z)
        omega
      exact iteF ⟨⟨_, _, _, _, rfl⟩, s2, okk, fun i x y hi => absurd hi (by omega)⟩
  · obtain ⟨_, s2, hok, hlt⟩ := hP
    rw [xl, List.take_length] at hok
    refine q1 ⟨gf, e3, hok, fun i x y hx hy => hlt i x y ?_ hx hy⟩ H2 s2
    have := (List.getElem?_eq_some_iff.mp hy).1
    omega
def spAll (_ : Unit) : Sp := fun vs H Q _ => ∃ m : Int, vs = [.int 8, .int m] ∧ m ≤ 25 ∧ ∀ l H' xs es, Ext H H' → H l = none → H' l = some (.lst xs) → Paired (EdgeT H') xs es → es.length ≤ 25 → Q (.ref l) H'
theorem ok_law_all_edges (T : Top K mg) : FnOk P w K mg base CX0 1 T.f_law_all_edges T.d_law_all_edges ["count", "most"] (spAll ()) := by
  refine T.F_law_all_edges.ok sc_law_all_edges (fun vs H Q E h => ?_) (fun cdv A outer s H vs Q E hr h => ?_)
  · obtain ⟨m, rfl, _⟩ := h
    rfl
  obtain ⟨m, rfl, hm, q⟩ := h
  refine ⟨_, (pss_cons (ps_set (i := 2) sc_law_all_edges.nd rfl (by first | exact .inl rfl | exact .inr rfl) (pe_lst pa_nil))
      (pss_cons (ps_for PassesOwn.never rfl (pi_range1 (by rfl) T.m_range (pa_cons (pv 0) pa_nil)) (pg_name (i := 3) sc_law_all_edges.nd rfl (by first | exact .inl rfl | exact .inr rfl)) (pss_one (ps_for PassesOwn.never rfl (pi_range2 (by rfl) T.m_range (pa_cons (pe_op op_add (pv 3) pe_int) (pa_cons (pv 0) pa_nil))) (pg_name (i := 4) sc_law_all_edges.nd rfl (by first | exact .inl rfl | exact .inr rfl)) (pss_one (ps_if (pt_cmpR op_lt (pe_callB call_len_seq (by rfl) T.m_len (by decide +kernel) (pa_cons (pv 2) pa_nil)) (pv 1) (nomark _)) (pss_one (ps_expr (pe_bm PySem.F.plainAttrs_list PySem.F.slot_list_append PySem.F.type_list_append mt_append (pv 2) (pa_cons (pe_tup (pa_cons (pv 3) (pa_cons (pv 4) (pa_cons (pe_op op_add pe_int (pe_op op_mod (pe_op op_add (pv 3) (pv 4)) pe_int)) pa_nil)))) pa_nil)))) pss_nil)))))
      (pss_one (ps_ret (pv 2))))), ?_⟩
  refine ⟨by rw [sizeLine_eq]; simp, fun l hl => ?_⟩
  refine ⟨_, rfl, _, rfl, by decide, by decide, for_range (n := 8) (fun i σ H1 => ∃ (x y : Option V) (xs : List V) (es : List Eg), σ = [some (.int 8), some (.int m), some (.ref l), x, y] ∧ Ext H H1 ∧ H1 l = some (.lst xs) ∧ Paired (EdgeT H1) xs es ∧ xs.length ≤ 25)
    ⟨_, _, [], [], rfl, ext_upd hl, upd_same, .nil, by decide⟩ (fun i σ H1 hi hP => ?_) (fun σ H1 hP => ?_)⟩
  · obtain ⟨x, y, xs, es, rfl, s1, h1, e1, l1⟩ := hP
    refine ⟨_, rfl, _, _, rfl, rfl, _, rfl, _, _, rfl, ⟨by omega, by omega, by omega, by omega⟩, for_range (lo := 0 + (i : Int) + 1) (n := (8 - (0 + (i : Int) + 1)).toNat) (fun j σ H2 => ∃ (y : Option V) (xs : List V) (es : List Eg), σ = [some (.int 8), some (.int m), some (.ref l), some (.int (0 + (i : Int))), y] ∧ Ext H H2 ∧ H2 l = some (.lst xs) ∧ Paired (EdgeT H2) xs es ∧ xs.length ≤ 25)
      ⟨_, xs, es, rfl, s1, h1, e1, l1⟩ (fun j σ H2 hj hP => ?_) (fun σ H2 hP => ?_)⟩
    · obtain ⟨y, xs, es, rfl, s2, h2, e2, l2⟩ := hP
      refine ⟨_, rfl, l, _, rfl, .inl (SqL.of h2), _, rfl, _, _, rfl, rfl, _, rfl, ite2 (fun b => ?_) (fun b => ?_)⟩
      · have b : (xs.length : Int) < m := of_decide_eq_true b
        refine ⟨_, rfl, .inl ⟨rfl, _, SqL.of h2⟩, _, rfl, _, rfl, _, rfl, _, rfl, _, _, rfl, rfl, _, _, rfl, rfl, pos_lit rfl, _, _, rfl, rfl, by rw [sizeLine_eq]; simp, fun p hp => ?_⟩
        have s3 := s2.new (o := .tup [.int (0 + (i : Int)), .int (0 + (i : Int) + 1 + (j : Int)), .int (1 + (0 + (i : Int) + (0 + (i : Int) + 1 + (j : Int))) % 9)]) hp
        have h3 := (ext_upd (o := .tup [.int (0 + (i : Int)), .int (0 + (i : Int) + 1 + (j : Int)), .int (1 + (0 + (i : Int) + (0 + (i : Int) + 1 + (j : Int))) % 9)]) hp).lst h2
        refine ⟨l, xs, .ref p, rfl, rfl, h3, sl_lt (by omega), _, xs ++ [.ref p], es ++ [(0 + (i : Int), 0 + (i : Int) + 1 + (j : Int), 1 + (0 + (i : Int) + (0 + (i : Int) + 1 + (j : Int))) % 9)], rfl, s3.own hl, upd_same, ?_, ?_⟩
        · exact edgesT_upd h3 (paired_snoc ((ext_upd hp).edgesT e2) ⟨p, rfl, upd_same⟩)
        · rw [List.length_append]
          show xs.length + 1 ≤ 25
          omega
      · exact ⟨_, xs, es, rfl, s2, h2, e2, l2⟩
    · obtain ⟨y, xs, es, rfl, s2, h2, e2, l2⟩ := hP
      exact ⟨_, _, xs, es, rfl, s2, h2, e2, l2⟩
  · obtain ⟨x, y, xs, es, rfl, s1, h1, e1, l1⟩ := hP
    exact ⟨_, rfl, q l H1 xs es s1 hl h1 e1 (by rw [← e1.length]; exact l1)⟩

/-- some fields and edges -/
structure Two (n m : Nat) (H H1 : Hp) (fb eb : Addr) (fs : List Int) (xs : List V) (es : List Eg) : Prop where
  ext : Ext H H1
  f : H1 fb = some (.lst (fs.map V.int))
  e : H1 eb = some (.lst xs)
  ee : Paired (EdgeT H1) xs es
  lf : fs.length ≤ n
  le : es.length ≤ m
theorem Two.up {n m : Nat} {H H1 H2 : Hp} {fb eb : Addr} {fs : List Int} {xs : List V} {es : List Eg} (h : Two n m H H1 fb eb fs xs es) (s : Ext H1 H2) : Two n m H H2 fb eb fs xs es := ⟨h.ext.trans s, s.lst h.f, s.lst h.e, s.edgesT h.ee, h.lf, h.le⟩
theorem Two.wk {n m n' m' : Nat} {H H1 : Hp} {fb eb : Addr} {fs : List Int} {xs : List V} {es : List Eg} (h : Two n m H H1 fb eb fs xs es) (h1 : n ≤ n') (h2 : m ≤ m') : Two n' m' H H1 fb eb fs xs es := ⟨h.ext, h.f, h.e, h.ee, Nat.le_trans h.lf h1, Nat.le_trans h.le h2⟩
theorem cut_ints (fs : List Int) (lo hi : Option Int) : ∃ ks : List Int, cutV (fs.map V.int) lo hi = ks.map V.int ∧ ks.length ≤ fs.length := by
  refine ⟨(fs.drop (HT.sIx (fs.map V.int).length 0 lo)).take (HT.sIx (fs.map V.int).length (fs.map V.int).length hi - HT.sIx (fs.map V.int).length 0 lo), ?_, ?_⟩
  · unfold cutV
    rw [List.map_take, List.map_drop]
  · rw [List.length_take, List.length_drop]
    omega
theorem paired_take {α β : Type} {R : α → β → Prop} : ∀ {as : List α} {bs : List β}, Paired R as bs → ∀ k, Paired R (as.take k) (bs.take k)
  | _, _, .nil, _ => by simpa using Paired.nil
  | _, _, .cons _ _, 0 => .nil
  | _, _, .cons x t, k + 1 => .cons x (paired_take t k)
theorem paired_drop {α β : Type} {R : α → β → Prop} : ∀ {as : List α} {bs : List β}, Paired R as bs → ∀ k, Paired R (as.drop k) (bs.drop k)
  | _, _, .nil, _ => by simpa using Paired.nil
  | _, _, .cons x t, 0 => .cons x t
  | _, _, .cons _ t, k + 1 => paired_drop t k
theorem cut_edges {H : Hp} {xs : List V} {es : List Eg} (h : Paired (EdgeT H) xs es) (lo hi : Option Int) : ∃ ks : List Eg, Paired (EdgeT H) (cutV xs lo hi) ks ∧ ks.length ≤ es.length := by
  refine ⟨_, paired_take (paired_drop h _) _, ?_⟩
  rw [List.length_take, List.length_drop]
  omega
theorem flat_rep (k : Nat) (x : Int) : (List.replicate k [V.int x]).flatten = (List.replicate k x).map V.int := by
  induction k with
  | zero => rfl
  | succ k ih => rw [List.replicate_succ, List.flatten_cons, ih, List.replicate_succ]; rfl
theorem four_at (r : Int) (h0 : 0 ≤ r) (h4 : r < 4) : ∃ c : Int, atI [V.int (-10), .int (-9), .int 9, .int 10] r = some (.int c) := by
  have : r = 0 ∨ r = 1 ∨ r = 2 ∨ r = 3 := by omega
  rcases this with rfl | rfl | rfl | rfl <;> exact ⟨_, rfl⟩
def spChanged (_ : Unit) : Sp := fun vs H Q _ => ∃ (fb eb : Addr) (c : Int) (fs : List Int) (xs : List V) (es : List Eg), vs = [.ref fb, .ref eb, .int c] ∧ 0 ≤ c ∧ Two 12 25 H H fb eb fs xs es ∧
  ∀ l H' fb eb fs xs es, Two 100 100 H H' fb eb fs xs es → H' l = some (.tup [.ref fb, .ref eb]) → Q (.ref l) H'
theorem ok_law_changed (T : Top K mg) : FnOk P w K mg base CX0 2 T.f_law_changed T.d_law_changed ["fields", "edges", "cell"] (spChanged ()) := by
  refine T.F_law_changed.ok sc_law_changed (fun vs H Q E h => ?_) (fun cdv A outer s H vs Q E hr h => ?_)
  · obtain ⟨fb, eb, c, fs, xs, es, rfl, _⟩ := h
    rfl
  obtain ⟨fb, eb, c, fs, xs, es, rfl, hc, M, q⟩ := h
  refine ⟨_, (pss_cons (ps_set (i := 3) sc_law_changed.nd rfl (by first | exact .inl rfl | exact .inr rfl) (pe_op op_mod (pv 2) pe_int))
      (pss_cons (ps_set (i := 4) sc_law_changed.nd rfl (by first | exact .inl rfl | exact .inr rfl) (pe_op op_fdiv (pv 2) pe_int))
      (C8.pss_cut (ps_if (PW.pt (pw_and (pt_cmpR op_eq (pv 3) pe_int (nomark _)) (pw_and1 (pt_cmpR op_gt (pe_callB call_len_seq (by rfl) T.m_len (by decide +kernel) (pa_cons (pv 0) pa_nil)) pe_int (nomark _))))) (pss_cons (ps_set (i := 5) sc_law_changed.nd rfl (by first | exact .inl rfl | exact .inr rfl) (pe_op op_mod (pv 4) (pe_callB call_len_seq (by rfl) T.m_len (by decide +kernel) (pa_cons (pv 0) pa_nil))))
      (pss_one (ps_set (i := 0) sc_law_changed.nd rfl (by first | exact .inl rfl | exact .inr rfl) (pe_op op_cat (pe_op op_cat (pe_slice sl_list (pv 0) po_none (po_some (pv 5))) (pe_lst (pa_cons (pe_ix ix_tup (pe_tup (pa_cons (pe_un un_neg pe_int) (pa_cons (pe_un un_neg pe_int) (pa_cons pe_int (pa_cons pe_int pa_nil))))) (pe_op op_mod (pe_op op_fdiv (pv 4) pe_int) pe_int) (fun _ _ => rfl)) pa_nil))) (pe_slice sl_list (pv 0) (po_some (pe_op op_add (pv 5) pe_int)) po_none))))) pss_nil)
      (C8.pss_cut (ps_if (pt_cmpR op_eq (pv 3) pe_int (nomark _)) (pss_one (ps_set (i := 0) sc_law_changed.nd rfl (by first | exact .inl rfl | exact .inr rfl) (pe_ix ix_list (pe_lst (pa_cons (pe_lst pa_nil) (pa_cons (pe_op op_rep (pe_lst (pa_cons pe_int pa_nil)) pe_int) (pa_cons (pe_op op_rep (pe_lst (pa_cons pe_int pa_nil)) pe_int) pa_nil)))) (pe_op op_mod (pv 4) pe_int) (fun _ _ => rfl)))) pss_nil)
      (C8.pss_cut (ps_if (pt_cmpR op_eq (pv 3) pe_int (nomark _)) (pss_cons (ps_set (i := 0) sc_law_changed.nd rfl (by first | exact .inl rfl | exact .inr rfl) (pe_op op_rep (pe_lst (pa_cons pe_int pa_nil)) pe_int))
      (pss_one (ps_set (i := 1) sc_law_changed.nd rfl (by first | exact .inl rfl | exact .inr rfl) (pe_call (ok_law_all_edges T) (hr.mono (by decide)) (by rfl) T.g_law_all_edges T.F_law_all_edges.kp T.b_law_all_edges .nil pass0 (pa_cons pe_int (pa_cons (pe_op op_add pe_int (pe_op op_mod (pv 4) pe_int)) pa_nil)))))) pss_nil)
      (C8.pss_cut (ps_if (PW.pt (pw_and (pt_cmpR op_gt (pv 3) pe_int (nomark _)) (pw_and1 (pt_cmpR op_gt (pe_callB call_len_seq (by rfl) T.m_len (by decide +kernel) (pa_cons (pv 1) pa_nil)) pe_int (nomark _))))) (pss_cons (ps_set (i := 5) sc_law_changed.nd rfl (by first | exact .inl rfl | exact .inr rfl) (pe_op op_mod (pv 4) (pe_callB call_len_seq (by rfl) T.m_len (by decide +kernel) (pa_cons (pv 1) pa_nil))))
      (pss_cons (ps_asg (pe_ix ix_list (pv 1) (pv 5) (fun _ _ => rfl)) (pg_tup rfl (pgs_cons (pg_name (i := 6) sc_law_changed.nd rfl (by first | exact .inl rfl | exact .inr rfl)) (pgs_cons (pg_name (i := 7) sc_law_changed.nd rfl (by first | exact .inl rfl | exact .inr rfl)) (pgs_cons (pg_name (i := 8) sc_law_changed.nd rfl (by first | exact .inl rfl | exact .inr rfl)) pgs_nil)))))
      (pss_cons (ps_set (i := 9) sc_law_changed.nd rfl (by first | exact .inl rfl | exact .inr rfl) (pe_lst (pa_cons (pe_tup (pa_cons (pv 7) (pa_cons (pv 6) (pa_cons (pv 8) pa_nil)))) (pa_cons (pe_tup (pa_cons (pv 6) (pa_cons (pv 7) (pa_cons pe_int pa_nil)))) (pa_cons (pe_tup (pa_cons (pv 6) (pa_cons (pv 7) (pa_cons (pe_ix ix_tup (pe_tup (pa_cons (pe_un un_neg pe_int) (pa_cons (pe_un un_neg pe_int) (pa_cons pe_int (pa_cons pe_int pa_nil))))) (pe_op op_mod (pe_op op_fdiv (pv 4) pe_int) pe_int) (fun _ _ => rfl)) pa_nil)))) (pa_cons (pe_tup (pa_cons (pv 6) (pa_cons (pe_callB call_len_seq (by rfl) T.m_len (by decide +kernel) (pa_cons (pv 0) pa_nil)) (pa_cons (pv 8) pa_nil)))) pa_nil))))))
      (pss_cons (ps_set (i := 9) sc_law_changed.nd rfl (by first | exact .inl rfl | exact .inr rfl) (pe_op op_cat (pv 9) (pe_lst (pa_cons (pe_tup (pa_cons (pe_un un_neg pe_int) (pa_cons (pv 7) (pa_cons (pv 8) pa_nil)))) (pa_cons (pe_tup (pa_cons (pv 6) (pa_cons (pv 6) (pa_cons (pv 8) pa_nil)))) pa_nil)))))
      (pss_cons (ps_set (i := 1) sc_law_changed.nd rfl (by first | exact .inl rfl | exact .inr rfl) (pe_op op_cat (pe_op op_cat (pe_slice sl_list (pv 1) po_none (po_some (pv 5))) (pe_lst (pa_cons (pe_ix ix_list (pv 9) (pe_op op_sub (pv 3) pe_int) (fun _ _ => rfl)) pa_nil))) (pe_slice sl_list (pv 1) (po_some (pe_op op_add (pv 5) pe_int)) po_none)))
      (pss_one (ps_if (pt_cmpR op_eq (pe_op op_mod (pe_op op_fdiv (pv 4) pe_int) pe_int) pe_int (nomark _)) (pss_one (ps_set (i := 1) sc_law_changed.nd rfl (by first | exact .inl rfl | exact .inr rfl) (pe_op op_cat (pv 1) (pe_lst (pa_cons (pe_ix ix_list (pv 1) (pe_op op_mod (pe_op op_fdiv (pv 4) pe_int) (pe_callB call_len_seq (by rfl) T.m_len (by decide +kernel) (pa_cons (pv 1) pa_nil))) (fun _ _ => rfl)) pa_nil))))) pss_nil))))))) pss_nil)
      (pss_one (ps_ret (pe_tup (pa_cons (pv 0) (pa_cons (pv 1) pa_nil))))))))))), ?_⟩
  refine ⟨_, rfl, _, _, rfl, rfl, pos_lit rfl, _, rfl, _, _, rfl, rfl, ⟨by decide, by decide⟩, ?_⟩
  have at0 : 0 ≤ c / 9 := Int.ediv_nonneg hc (by decide)
  have k0 : 0 ≤ c % 9 := Int.emod_nonneg _ (by decide)
  have k9 : c % 9 < 9 := Int.emod_lt_of_pos _ (by decide)
  -- one field replaced
  refine ⟨fun σ H1 => ∃ (fb : Addr) (fs : List Int) (x5 : Option V), σ = [some (.ref fb), some (.ref eb), some (.int c), some (.int (c % 9)), some (.int (c / 9)), x5, none, none, none, none] ∧ Two 25 25 H H1 fb eb fs xs es, ?_, ?_⟩
  · refine ⟨_, rfl, rfl, _, rfl, iteB (fun z => ?_) (fun z => ?_)⟩
    · refine ⟨_, rfl, fb, _, rfl, .inl (SqL.of M.f), _, _, rfl, rfl, _, rfl, ite2 (fun e1 => ?_) (fun e1 => ?_)⟩
      · have lfs : 0 < ((fs.map V.int).length : Int) := of_decide_eq_true e1
        refine ⟨_, rfl, _, rfl, fb, _, rfl, .inl (SqL.of M.f), _, _, rfl, rfl, lfs, ?_⟩
        obtain ⟨k1, ek1, lk1⟩ := cut_ints fs none (some (c / 9 % ((fs.map V.int).length : Int)))
        obtain ⟨k2, ek2, lk2⟩ := cut_ints fs (some (c / 9 % ((fs.map V.int).length : Int) + 1)) none
        obtain ⟨v4, hv4⟩ := four_at (c / 9 / 8 % 4) (Int.emod_nonneg _ (by decide)) (Int.emod_lt_of_pos _ (by decide))
        refine ⟨_, rfl, _, rfl, _, rfl, fb, _, rfl, SqL.of M.f, fun p1 hp1 => ?_⟩
        rw [ek1]
        have s1 := ext_upd (o := .lst (k1.map V.int)) hp1
        have g1 : upd H p1 (.lst (k1.map V.int)) p1 = some (.lst (k1.map V.int)) := upd_same
        generalize upd H p1 (.lst (k1.map V.int)) = H1 at *
        refine ⟨_, rfl, _, rfl, by rw [sizeLine_eq]; simp, fun tp htp => ?_⟩
        have s2 := s1.new (o := .tup [V.int (-10), .int (-9), .int 9, .int 10]) htp
        have g2 := (ext_upd (o := .tup [V.int (-10), .int (-9), .int 9, .int 10]) htp).lst g1
        refine ⟨_, rfl, _, _, rfl, rfl, ⟨by decide, by decide⟩, _, _, rfl, rfl, pos_lit rfl, tp, _, _, _, rfl, rfl, SqT.of upd_same, hv4, by rw [sizeLine_eq]; simp, fun p2 hp2 => ?_⟩
        have s3 := s2.new (o := .lst [V.int v4]) hp2
        have g3 := (ext_upd (o := .lst [V.int v4]) hp2).lst g2
        refine ⟨p1, p2, _, _, rfl, rfl, g3, upd_same, ?_, fun p3 hp3 => ?_⟩
        · rw [List.length_map]
          have := M.lf
          exact sl_of (by show k1.length + 1 ≤ _; omega)
        have s4 := s3.new (o := .lst (k1.map V.int ++ [V.int v4])) hp3
        refine ⟨_, rfl, _, rfl, _, _, rfl, rfl, _, rfl, fb, _, rfl, SqL.of (s4.lst M.f), fun p4 hp4 => ?_⟩
        rw [ek2]
        have s5 := s4.new (o := .lst (k2.map V.int)) hp4
        refine ⟨p3, p4, _, _, rfl, rfl, (ext_upd (o := .lst (k2.map V.int)) hp4).lst upd_same, upd_same, ?_, fun p5 hp5 => ?_⟩
        · have := M.lf
          rw [List.length_append, List.length_map, List.length_map]
          exact sl_of (by show k1.length + 1 + k2.length ≤ _; omega)
        have s6 := s5.new (o := .lst (k1.map V.int ++ [V.int v4] ++ k2.map V.int)) hp5
        refine ⟨p5, k1 ++ [v4] ++ k2, _, rfl, s6, ?_, s6.lst M.e, s6.edgesT M.ee, ?_, M.le⟩
        · rw [upd_same, List.map_append, List.map_append]
          rfl
        · have := M.lf
          rw [List.length_append, List.length_append]
          show k1.length + 1 + k2.length ≤ 25
          omega
      · exact ⟨fb, fs, _, rfl, M.wk (by decide) (by decide)⟩
    · exact iteF ⟨fb, fs, _, rfl, M.wk (by decide) (by decide)⟩
  rintro σ H1 ⟨fb, fs, x5, rfl, M1⟩
  -- other fields
  refine ⟨fun σ H1 => ∃ (fb : Addr) (fs : List Int) (x5 : Option V), σ = [some (.ref fb), some (.ref eb), some (.int c), some (.int (c % 9)), some (.int (c / 9)), x5, none, none, none, none] ∧ Two 25 25 H H1 fb eb fs xs es, ?_, ?_⟩
  · refine ⟨_, rfl, rfl, _, rfl, iteB (fun z => ?_) (fun z => ?_)⟩
    · refine ⟨by rw [sizeLine_eq]; simp, fun l1 hl1 => ⟨by rw [sizeLine_eq]; simp, fun l2 hl2 => ⟨l2, 12, [V.int 1], rfl, rfl, upd_same, by decide, by decide, by rw [sizeLine_eq]; decide, fun l3 hl3 => ?_⟩⟩⟩
      rw [flat_rep]
      have s1 := ext_upd (o := .lst []) hl1
      have s2 := s1.new (o := .lst [V.int 1]) hl2
      have g1 := (ext_upd (o := .lst ((List.replicate (12 : Int).toNat (1 : Int)).map V.int)) hl3).lst ((ext_upd (o := .lst [V.int 1]) hl2).lst (upd_same (H := H1) (a := l1) (o := .lst [])))
      have s3 := s2.new (o := .lst ((List.replicate (12 : Int).toNat (1 : Int)).map V.int)) hl3
      have g3 : upd (upd (upd H1 l1 (.lst [])) l2 (.lst [V.int 1])) l3 (.lst ((List.replicate (12 : Int).toNat (1 : Int)).map V.int)) l3 = some (.lst ((List.replicate (12 : Int).toNat (1 : Int)).map V.int)) := upd_same
      generalize upd (upd (upd H1 l1 (.lst [])) l2 (.lst [V.int 1])) l3 (.lst ((List.replicate (12 : Int).toNat (1 : Int)).map V.int)) = H2 at *
      refine ⟨by rw [sizeLine_eq]; simp, fun l4 hl4 => ⟨l4, 13, [V.int 0], rfl, rfl, upd_same, by decide, by decide, by rw [sizeLine_eq]; decide, fun l5 hl5 => ?_⟩⟩
      rw [flat_rep]
      have x5' := (ext_upd (o := .lst [V.int 0]) hl4).new (o := .lst ((List.replicate (13 : Int).toNat (0 : Int)).map V.int)) hl5
      have g5 : upd (upd H2 l4 (.lst [V.int 0])) l5 (.lst ((List.replicate (13 : Int).toNat (0 : Int)).map V.int)) l5 = some (.lst ((List.replicate (13 : Int).toNat (0 : Int)).map V.int)) := upd_same
      generalize upd (upd H2 l4 (.lst [V.int 0])) l5 (.lst ((List.replicate (13 : Int).toNat (0 : Int)).map V.int)) = H3 at *
      refine ⟨by rw [sizeLine_eq]; simp, fun l6 hl6 => ⟨_, rfl, _, _, rfl, rfl, pos_lit rfl, ?_⟩⟩
      have y6 := ext_upd (o := .lst [V.ref l1, .ref l3, .ref l5]) hl6
      have MM := M1.up (s3.trans (x5'.trans y6))
      have h3 : c / 9 % 3 = 0 ∨ c / 9 % 3 = 1 ∨ c / 9 % 3 = 2 := by omega
      rcases h3 with h3 | h3 | h3
      · exact ⟨l6, _, _, .ref l1, rfl, rfl, SqL.of upd_same, by show atI _ (c / 9 % 3) = _; rw [h3]; rfl, l1, [], _, rfl, MM.ext, y6.lst (x5'.lst g1), MM.e, MM.ee, by decide, MM.le⟩
      · exact ⟨l6, _, _, .ref l3, rfl, rfl, SqL.of upd_same, by show atI _ (c / 9 % 3) = _; rw [h3]; rfl, l3, _, _, rfl, MM.ext, y6.lst (x5'.lst g3), MM.e, MM.ee, by decide, MM.le⟩
      · exact ⟨l6, _, _, .ref l5, rfl, rfl, SqL.of upd_same, by show atI _ (c / 9 % 3) = _; rw [h3]; rfl, l5, _, _, rfl, MM.ext, y6.lst g5, MM.e, MM.ee, by decide, MM.le⟩
    · exact ⟨fb, fs, _, rfl, M1⟩
  rintro σ H2 ⟨fb, fs, x5, rfl, M2⟩
  -- many edges
  refine ⟨fun σ H1 => ∃ (fb eb : Addr) (fs : List Int) (xs : List V) (es : List Eg) (x5 : Option V), σ = [some (.ref fb), some (.ref eb), some (.int c), some (.int (c % 9)), some (.int (c / 9)), x5, none, none, none, none] ∧ Two 25 25 H H1 fb eb fs xs es, ?_, ?_⟩
  · refine ⟨_, rfl, rfl, _, rfl, iteB (fun z => ?_) (fun z => ?_)⟩
    · refine ⟨by rw [sizeLine_eq]; simp, fun l2 hl2 => ⟨l2, 8, [V.int 0], rfl, rfl, upd_same, by decide, by decide, by rw [sizeLine_eq]; decide, fun l3 hl3 => ?_⟩⟩
      rw [flat_rep]
      have s3 := (ext_upd (o := .lst [V.int 0]) hl2).new (o := .lst ((List.replicate (8 : Int).toNat (0 : Int)).map V.int)) hl3
      have g3 : upd (upd H2 l2 (.lst [V.int 0])) l3 (.lst ((List.replicate (8 : Int).toNat (0 : Int)).map V.int)) l3 = some (.lst ((List.replicate (8 : Int).toNat (0 : Int)).map V.int)) := upd_same
      generalize upd (upd H2 l2 (.lst [V.int 0])) l3 (.lst ((List.replicate (8 : Int).toNat (0 : Int)).map V.int)) = H3 at *
      refine ⟨_, rfl, _, _, rfl, rfl, pos_lit rfl, _, _, rfl, rfl, 24 + c / 9 % 2, rfl, by omega, fun l H4 xs' es' s4 nl hl' he' le' => ?_⟩
      exact ⟨l3, l, _, xs', es', _, rfl, M2.ext.trans (s3.trans s4), s4.lst g3, hl', he', by decide, le'⟩
    · exact ⟨fb, eb, fs, xs, es, _, rfl, M2⟩
  rintro σ H3 ⟨fb, eb, fs, xs, es, x5, rfl, M3⟩
  -- one edge replaced
  refine ⟨fun σ H1 => ∃ (fb eb : Addr) (fs : List Int) (xs : List V) (es : List Eg) (x2 x3 x4 x5 x6 x7 x8 x9 : Option V), σ = [some (.ref fb), some (.ref eb), x2, x3, x4, x5, x6, x7, x8, x9] ∧ Two 100 100 H H1 fb eb fs xs es, ?_, ?_⟩
  · refine ⟨_, rfl, _, _, rfl, rfl, _, rfl, ite2 (fun z => ?_) (fun z => ?_)⟩
    case refine_2 => exact iteF ⟨fb, eb, fs, xs, es, _, _, _, _, _, _, _, _, rfl, M3.wk (by decide) (by decide)⟩
    have kd : 2 < c % 9 := of_decide_eq_true z
    refine ⟨_, rfl, eb, _, rfl, .inl (SqL.of M3.e), _, _, rfl, rfl, _, rfl, ite2 (fun e1 => ?_) (fun e1 => ?_)⟩
    case refine_2 => exact ⟨fb, eb, fs, xs, es, _, _, _, _, _, _, _, _, rfl, M3.wk (by decide) (by decide)⟩
    have lxs : 0 < (xs.length : Int) := of_decide_eq_true e1
    have lee := M3.ee.length
    have lle := M3.le
    have pl0 := Int.emod_nonneg (c / 9) (show (xs.length : Int) ≠ 0 by omega)
    have pl1 := Int.emod_lt_of_pos (c / 9) lxs
    refine ⟨_, rfl, _, rfl, eb, _, rfl, .inl (SqL.of M3.e), _, _, rfl, rfl, lxs, ?_⟩
    obtain ⟨pn, hpn⟩ : ∃ pn : Nat, c / 9 % (xs.length : Int) = pn := ⟨(c / 9 % (xs.length : Int)).toNat, by omega⟩
    obtain ⟨vk, hvk⟩ : ∃ v, xs[pn]? = some v := ⟨_, List.getElem?_eq_getElem (by omega)⟩
    obtain ⟨⟨u, v, j⟩, hek, a1, rfl, h1⟩ := paired_at M3.ee hvk
    refine ⟨_, rfl, _, rfl, eb, xs, _, _, rfl, rfl, SqL.of M3.e, by show atI xs (c / 9 % (xs.length : Int)) = _; rw [hpn]; exact atI_nat hvk, a1, _, rfl, SqT.of h1, rfl, _, _, rfl, _, _, rfl, _, _, rfl, rfl, ?_⟩
    obtain ⟨v4, hv4⟩ := four_at (c / 9 / 16 % 4) (Int.emod_nonneg _ (by decide)) (Int.emod_lt_of_pos _ (by decide))
    have sz3 : ∀ x y z : V, [x, y, z].length ≤ sizeLine := fun x y z => by rw [sizeLine_eq]; simp
    -- other
    refine ⟨_, rfl, _, rfl, _, rfl, sz3 _ _ _, fun p1 hp1 => ⟨_, rfl, _, rfl, sz3 _ _ _, fun p2 hp2 => ?_⟩⟩
    have t1 : ∃ o : List V, Paired (EdgeT (upd (upd H3 p1 (.tup [.int v, .int u, .int j])) p2 (.tup [.int u, .int v, .int 0]))) [.ref p1, .ref p2] [(v, u, j), (u, v, 0)] := ⟨[], .cons ⟨p1, rfl, (ext_upd hp2).at upd_same⟩ (.cons ⟨p2, rfl, upd_same⟩ .nil)⟩
    obtain ⟨_, t1⟩ := t1
    have s1 := (ext_upd (o := .tup [V.int v, .int u, .int j]) hp1).new (o := .tup [V.int u, .int v, .int 0]) hp2
    generalize upd (upd H3 p1 (.tup [.int v, .int u, .int j])) p2 (.tup [.int u, .int v, .int 0]) = H4 at *
    refine ⟨_, rfl, _, rfl, _, rfl, _, rfl, by rw [sizeLine_eq]; simp, fun tp htp => ?_⟩
    have s2 := s1.new (o := .tup [V.int (-10), .int (-9), .int 9, .int 10]) htp
    have t2 := (ext_upd (o := .tup [V.int (-10), .int (-9), .int 9, .int 10]) htp).edgesT t1
    refine ⟨_, rfl, _, _, rfl, rfl, ⟨by decide, by decide⟩, _, _, rfl, rfl, pos_lit rfl, tp, _, _, _, rfl, rfl, SqT.of upd_same, hv4, sz3 _ _ _, fun p3 hp3 => ?_⟩
    generalize upd H4 tp (.tup [V.int (-10), .int (-9), .int 9, .int 10]) = H5 at *
    have s3 := s2.new (o := .tup [V.int u, .int v, .int v4]) hp3
    refine ⟨_, rfl, _, rfl, fb, _, rfl, .inl (SqL.of (s3.lst M3.f)), _, rfl, sz3 _ _ _, fun p4 hp4 => ⟨by rw [sizeLine_eq]; simp, fun o1 ho1 => ?_⟩⟩
    have t4 : Paired (EdgeT (upd (upd (upd H5 p3 (.tup [V.int u, .int v, .int v4])) p4 (.tup [V.int u, .int (fs.map V.int).length, .int j])) o1 (.lst [V.ref p1, .ref p2, .ref p3, .ref p4]))) [V.ref p1, .ref p2, .ref p3, .ref p4] [(v, u, j), (u, v, 0), (u, v, v4), (u, ((fs.map V.int).length : Int), j)] :=
      (ext_upd ho1).edgesT (paired_app ((ext_upd hp4).edgesT ((ext_upd hp3).edgesT t2)) (.cons ⟨p3, rfl, (ext_upd hp4).at upd_same⟩ (.cons ⟨p4, rfl, upd_same⟩ .nil)))
    have s5 := (s3.new (o := .tup [V.int u, .int (fs.map V.int).length, .int j]) hp4).new (o := .lst [V.ref p1, .ref p2, .ref p3, .ref p4]) ho1
    have g5 : upd (upd (upd H5 p3 (.tup [V.int u, .int v, .int v4])) p4 (.tup [V.int u, .int (fs.map V.int).length, .int j])) o1 (.lst [V.ref p1, .ref p2, .ref p3, .ref p4]) o1 = some (.lst [V.ref p1, .ref p2, .ref p3, .ref p4]) := upd_same
    generalize upd (upd (upd H5 p3 (.tup [V.int u, .int v, .int v4])) p4 (.tup [V.int u, .int (fs.map V.int).length, .int j])) o1 (.lst [V.ref p1, .ref p2, .ref p3, .ref p4]) = H6 at *
    refine ⟨_, rfl, _, rfl, _, rfl, _, rfl, sz3 _ _ _, fun p5 hp5 => ⟨_, rfl, _, rfl, _, rfl, sz3 _ _ _, fun p6 hp6 => ⟨sl2, fun o2 ho2 => ?_⟩⟩⟩
    have x7 := ((ext_upd (o := .tup [V.int (-1), .int v, .int j]) hp5).new (o := .tup [V.int u, .int u, .int j]) hp6).new (o := .lst [V.ref p5, .ref p6]) ho2
    have t7 : Paired (EdgeT (upd (upd (upd H6 p5 (.tup [V.int (-1), .int v, .int j])) p6 (.tup [V.int u, .int u, .int j])) o2 (.lst [V.ref p5, .ref p6]))) ([V.ref p1, .ref p2, .ref p3, .ref p4] ++ [V.ref p5, .ref p6]) ([(v, u, j), (u, v, 0), (u, v, v4), (u, ((fs.map V.int).length : Int), j)] ++ [(-1, v, j), (u, u, j)]) :=
      paired_app (x7.edgesT t4) (.cons ⟨p5, rfl, (ext_upd ho2).at ((ext_upd hp6).at upd_same)⟩ (.cons ⟨p6, rfl, (ext_upd ho2).at upd_same⟩ .nil))
    have g7 : upd (upd (upd H6 p5 (.tup [V.int (-1), .int v, .int j])) p6 (.tup [V.int u, .int u, .int j])) o2 (.lst [V.ref p5, .ref p6]) o2 = some (.lst [V.ref p5, .ref p6]) := upd_same
    have s7 := s5.trans x7
    have g57 := x7.lst g5
    generalize upd (upd (upd H6 p5 (.tup [V.int (-1), .int v, .int j])) p6 (.tup [V.int u, .int u, .int j])) o2 (.lst [V.ref p5, .ref p6]) = H7 at *
    refine ⟨o1, o2, _, _, rfl, rfl, g57, g7, by rw [sizeLine_eq]; simp, fun o3 ho3 => ?_⟩
    have x8 := ext_upd (o := .lst ([V.ref p1, .ref p2, .ref p3, .ref p4] ++ [V.ref p5, .ref p6])) ho3
    have t8 := x8.edgesT t7
    have g8 : upd H7 o3 (.lst ([V.ref p1, .ref p2, .ref p3, .ref p4] ++ [V.ref p5, .ref p6])) o3 = some (.lst ([V.ref p1, .ref p2, .ref p3, .ref p4] ++ [V.ref p5, .ref p6])) := upd_same
    have s8 := s7.trans x8
    generalize upd H7 o3 (.lst ([V.ref p1, .ref p2, .ref p3, .ref p4] ++ [V.ref p5, .ref p6])) = H8 at *
    have M8 := M3.up s8
    -- the new list
    obtain ⟨k1, ek1, lk1⟩ := cut_edges M8.ee none (some (c / 9 % (xs.length : Int)))
    obtain ⟨k2, ek2, lk2⟩ := cut_edges M8.ee (some (c / 9 % (xs.length : Int) + 1)) none
    have lc1 := ek1.length
    have lc2 := ek2.length
    refine ⟨_, rfl, _, rfl, _, rfl, eb, _, rfl, SqL.of M8.e, fun c1 hc1 => ?_⟩
    have y1 := ext_upd (o := .lst (cutV xs none (some (c / 9 % (xs.length : Int))))) hc1
    obtain ⟨vo, hvo⟩ : ∃ vo, ([V.ref p1, .ref p2, .ref p3, .ref p4] ++ [V.ref p5, .ref p6])[(c % 9 - 3).toNat]? = some vo := ⟨_, List.getElem?_eq_getElem (by show _ < 6; omega)⟩
    obtain ⟨eo, _, heo⟩ := paired_at t8 hvo
    refine ⟨_, rfl, _, rfl, _, _, rfl, rfl, o3, _, _, vo, rfl, rfl, SqL.of (y1.lst g8), ?_, by rw [sizeLine_eq]; simp, fun c2 hc2 => ?_⟩
    · show atI _ (c % 9 - 3) = _
      have : c % 9 - 3 = (((c % 9 - 3).toNat : Nat) : Int) := by omega
      rw [this]
      exact atI_nat hvo
    have y2 := y1.new (o := .lst [vo]) hc2
    refine ⟨c1, c2, _, _, rfl, rfl, (ext_upd hc2).lst upd_same, upd_same, sl_of (by show _ + 1 ≤ _; omega), fun c3 hc3 => ?_⟩
    have y3 := y2.new (o := .lst (cutV xs none (some (c / 9 % (xs.length : Int))) ++ [vo])) hc3
    refine ⟨_, rfl, _, rfl, _, _, rfl, rfl, _, rfl, eb, _, rfl, SqL.of (y3.lst M8.e), fun c4 hc4 => ?_⟩
    have y4 := y3.new (o := .lst (cutV xs (some (c / 9 % (xs.length : Int) + 1)) none)) hc4
    refine ⟨c3, c4, _, _, rfl, rfl, (ext_upd hc4).lst upd_same, upd_same, sl_of (by rw [List.length_append]; show _ + 1 + _ ≤ _; omega), fun c5 hc5 => ?_⟩
    have y5 := y4.new (o := .lst (cutV xs none (some (c / 9 % (xs.length : Int))) ++ [vo] ++ cutV xs (some (c / 9 % (xs.length : Int) + 1)) none)) hc5
    have M9 := M8.up y5
    have e9 : Paired (EdgeT _) (cutV xs none (some (c / 9 % (xs.length : Int))) ++ [vo] ++ cutV xs (some (c / 9 % (xs.length : Int) + 1)) none) (k1 ++ [eo] ++ k2) := y5.edgesT (paired_app (paired_app ek1 (.cons heo .nil)) ek2)
    have l0 : 1 ≤ (cutV xs none (some (c / 9 % (xs.length : Int))) ++ [vo] ++ cutV xs (some (c / 9 % (xs.length : Int) + 1)) none).length := by
      rw [List.length_append, List.length_append]
      show 1 ≤ _ + 1 + _
      omega
    have l9 : (cutV xs none (some (c / 9 % (xs.length : Int))) ++ [vo] ++ cutV xs (some (c / 9 % (xs.length : Int) + 1)) none).length ≤ 51 := by
      rw [List.length_append, List.length_append]
      show _ + 1 + _ ≤ 51
      omega
    have g9 : upd _ c5 (.lst (cutV xs none (some (c / 9 % (xs.length : Int))) ++ [vo] ++ cutV xs (some (c / 9 % (xs.length : Int) + 1)) none)) c5 = some (.lst (cutV xs none (some (c / 9 % (xs.length : Int))) ++ [vo] ++ cutV xs (some (c / 9 % (xs.length : Int) + 1)) none)) := upd_same (H := upd (upd (upd (upd H8 c1 (.lst (cutV xs none (some (c / 9 % (xs.length : Int)))))) c2 (.lst [vo])) c3 (.lst (cutV xs none (some (c / 9 % (xs.length : Int))) ++ [vo]))) c4 (.lst (cutV xs (some (c / 9 % (xs.length : Int) + 1)) none)))
    generalize cutV xs none (some (c / 9 % (xs.length : Int))) ++ [vo] ++ cutV xs (some (c / 9 % (xs.length : Int) + 1)) none = zs at *
    generalize k1 ++ [eo] ++ k2 = zes at *
    generalize upd (upd (upd (upd (upd H8 c1 _) c2 _) c3 _) c4 _) c5 _ = H9 at *
    have lz := e9.length
    refine ⟨_, rfl, _, _, rfl, rfl, ⟨by decide, by decide⟩, _, _, rfl, rfl, pos_lit rfl, rfl, _, rfl, iteB (fun z => ?_) (fun z => ?_)⟩
    · have dl0 := Int.emod_nonneg (c / 9 / 256) (show (zs.length : Int) ≠ 0 by omega)
      have dl1 := Int.emod_lt_of_pos (c / 9 / 256) (show 0 < (zs.length : Int) by omega)
      obtain ⟨vd, hvd⟩ : ∃ v, zs[(c / 9 / 256 % (zs.length : Int)).toNat]? = some v := ⟨_, List.getElem?_eq_getElem (by omega)⟩
      obtain ⟨ed, _, hed⟩ := paired_at e9 hvd
      refine ⟨_, rfl, _, rfl, _, rfl, _, _, rfl, rfl, ⟨by decide, by decide⟩, _, rfl, c5, _, rfl, .inl (SqL.of g9), _, _, rfl, rfl, (show 0 < (zs.length : Int) by omega), c5, _, _, vd, rfl, rfl, SqL.of g9, ?_, by rw [sizeLine_eq]; simp, fun d1 hd1 => ?_⟩
      · show atI _ (c / 9 / 256 % (zs.length : Int)) = _
        have : c / 9 / 256 % (zs.length : Int) = (((c / 9 / 256 % (zs.length : Int)).toNat : Nat) : Int) := by omega
        rw [this]
        exact atI_nat hvd
      have w1 := ext_upd (o := .lst [vd]) hd1
      refine ⟨c5, d1, _, _, rfl, rfl, w1.lst g9, upd_same, sl_of (by show _ + 1 ≤ _; omega), fun d2 hd2 => ?_⟩
      have w2 := w1.new (o := .lst (zs ++ [vd])) hd2
      have MM := M9.up w2
      refine ⟨fb, d2, fs, _, zes ++ [ed], _, _, _, _, _, _, _, _, rfl, MM.ext, MM.f, upd_same, w2.edgesT (paired_snoc e9 hed), by have := MM.lf; omega, ?_⟩
      rw [List.length_append]
      show _ + 1 ≤ 100
      omega
    · exact ⟨fb, c5, fs, zs, zes, _, _, _, _, _, _, _, _, rfl, M9.ext, M9.f, g9, e9, by have := M9.lf; omega, by omega⟩
  · rintro σ H4 ⟨fb, eb, fs, xs, es, x2, x3, x4, x5, x6, x7, x8, x9, rfl, M4⟩
    refine ⟨_, rfl, _, rfl, sl2, fun l hl => ?_⟩
    exact q l _ fb eb fs xs es (M4.up (ext_upd hl)) upd_same
/-! ### data that may be laid -/
def Gd (n : Nat) (d : PyData) : Prop := d.canLay0 = true ∧ d.depth ≤ n
theorem gd_int (i : Int) : Gd 3 (.int i) := ⟨by simp [PyData.canLay0], by simp [PyData.depth]⟩
theorem gd_all {n : Nat} : ∀ {ds : List PyData}, (∀ x ∈ ds, Gd n x) → PyData.canLayAll0 ds = true ∧ PyData.depthAll ds ≤ n
  | [], _ => ⟨by simp [PyData.canLayAll0], by simp [PyData.depthAll]⟩
  | d :: ds, h => by
    obtain ⟨h1, h2⟩ := h d List.mem_cons_self
    obtain ⟨h3, h4⟩ := gd_all fun x m => h x (List.mem_cons_of_mem _ m)
    simp only [PyData.canLayAll0, PyData.depthAll, h1, h3, Bool.and_self, true_and]
    omega
theorem gd_tup {n : Nat} {ds : List PyData} (h : ∀ x ∈ ds, Gd n x) : Gd (n + 1) (.tuple ds) := by
  obtain ⟨h1, h2⟩ := gd_all h
  refine ⟨by simp only [PyData.canLay0, h1], ?_⟩
  simp only [PyData.depth]
  omega
theorem gd_lst {n : Nat} {ds : List PyData} (h : ∀ x ∈ ds, Gd n x) : Gd (n + 1) (.list ds) := by
  obtain ⟨h1, h2⟩ := gd_all h
  refine ⟨by simp only [PyData.canLay0, h1], ?_⟩
  simp only [PyData.depth]
  omega
theorem Gd.up {n m : Nat} {d : PyData} (h : Gd n d) (k : n ≤ m) : Gd m d := ⟨h.1, Nat.le_trans h.2 k⟩
theorem Gd.sh {n : Nat} {d : PyData} (h : Gd n d) (k : n ≤ 64 := by decide) : SeqAt.shaped d = true := by
  unfold SeqAt.shaped
  rw [h.1, Bool.true_and]
  exact decide_eq_true (Nat.le_trans h.2 k)
theorem eqv_self {n : Nat} {d : PyData} (h : Gd n d) : PyData.eqv d d = true := SeqAt.eqv_refl d h.1
def edgeD (e : Eg) : PyData := .tuple [.int e.1, .int e.2.1, .int e.2.2]
def intsD (fs : List Int) : List PyData := fs.map PyData.int
theorem gd_edge (e : Eg) : Gd 4 (edgeD e) := gd_tup fun x m => by
  simp only [List.mem_cons, List.not_mem_nil, or_false] at m
  rcases m with rfl | rfl | rfl <;> exact gd_int _
theorem gd_ints {fs : List Int} : ∀ x ∈ intsD fs, Gd 4 x := fun x m => by
  obtain ⟨i, _, rfl⟩ := List.mem_map.mp m
  exact (gd_int i).up (by decide)
theorem gd_edges {es : List Eg} : ∀ x ∈ es.map edgeD, Gd 4 x := fun x m => by
  obtain ⟨i, _, rfl⟩ := List.mem_map.mp m
  exact gd_edge i
theorem gd_pairD {a b : PyData} (h : Gd 5 a) (k : Gd 5 b) : Gd 6 (.tuple [a, b]) := gd_tup fun x m => by
  rcases List.mem_cons.mp m with rfl | m
  · exact h
  · rw [List.mem_singleton.mp m]
    exact k
theorem ints_dp {H : Hp} : ∀ fs : List Int, DpAll K H (fs.map V.int) (intsD fs)
  | [] => .nil
  | f :: fs => .cons (.int f) (ints_dp fs)
theorem edges_dp {H : Hp} : ∀ {xs : List V} {es : List Eg}, Paired (EdgeAt K H) xs es → DpAll K H xs (es.map edgeD)
  | _, _, .nil => .nil
  | _, _, .cons ⟨_, e, h⟩ t => .cons (e ▸ .tup h (.cons (.int _) (.cons (.int _) (.cons (.int _) .nil)))) (edges_dp t)
theorem sqt_lst {H : Hp} {p a : Addr} {acc xs : List V} {o : HO} (hp : H p = some (.lst acc)) (h : SqT K H a xs) : SqT K (upd H p o) a xs := by
  rcases h with (h | ⟨o', h⟩) | h
  · exact .inl (.inl (by rw [upd_ne (fun z => by rw [z, hp] at h; cases h)]; exact h))
  · exact .inl (.inr ⟨o', by rw [upd_ne (fun z => by rw [z, hp] at h; cases h)]; exact h⟩)
  · exact .inr h
theorem edgeAt_lst {H : Hp} {p : Addr} {acc xs : List V} {es : List Eg} {o : HO} (hp : H p = some (.lst acc)) (h : Paired (EdgeAt K H) xs es) : Paired (EdgeAt K (upd H p o)) xs es := paired_imp (fun _ _ ⟨a, e, h⟩ => ⟨a, e, sqt_lst hp h⟩) h
def wWhen (p : Prop) (t : TS) : TS := fun D σ H => p ∧ t D σ H
theorem pss_when {X : Cx} {p : Prop} {b : List Stmt} {t : TS} (h : p → PSs X b t) : PSs X b (wWhen p t) := ⟨fun pins s σ H D I q => (h q.1).run pins s σ H D I q.2⟩
def spLaw (T : Top K mg) : Sp := fun vs H Q _ => ∃ (a : Addr) (ns : List Int), vs = [.ref a] ∧ SqL K H a (ns.map V.int) ∧ Tg T H ∧ ∀ H', Q (.bl true) H'
theorem law_in (T : Top K mg) (H : Hp) (a : Addr) (ns : List Int) (hl : ns.length ≤ 63) (hb : ∀ z ∈ ns, Builtin.Int.intBits z ≤ 1048576) (G : Tg T H) (hS : SqL K H a (ns.map V.int)) : spLaw T [.ref a] H (fun v _ => v = .bl true) fun _ _ _ => False := ⟨a, ns, rfl, hS, G, fun _ => rfl⟩
theorem ok_law {f : Addr} {d : FuncData} (F : Fun K "law" "law" s_law f d) (T : Top K mg) (B : Tb T base) : FnOk P w K mg base CX0 8 f d ["script"] (spLaw T) := by
  refine F.ok sc_law (fun vs H Q E h => ?_) (fun cdv A outer s H vs Q E hr h => ?_)
  · obtain ⟨a, ns, rfl, _⟩ := h
    rfl
  obtain ⟨a, ns, rfl, hS, G, q⟩ := h
  refine ⟨_, (pss_cons (ps_asg (pe_call (ok_law_spins T) (hr.mono (by decide)) (by rfl) T.g_law_spins T.F_law_spins.kp T.b_law_spins .nil pass0 (pa_cons (pv 0) (pa_cons pe_int (pa_cons pe_int (pa_cons pe_int pa_nil))))) (pg_tup rfl (pgs_cons (pg_name (i := 1) sc_law.nd rfl (by first | exact .inl rfl | exact .inr rfl)) (pgs_cons (pg_name (i := 2) sc_law.nd rfl (by first | exact .inl rfl | exact .inr rfl)) pgs_nil))))
      (pss_cons (ps_set (i := 3) sc_law.nd rfl (by first | exact .inl rfl | exact .inr rfl) (pe_callB call_abs (by rfl) T.m_abs (by decide +kernel) (pa_cons (pe_call (ok_law_cell T) (hr.mono (by decide)) (by rfl) T.g_law_cell T.F_law_cell.kp T.b_law_cell .nil pass0 (pa_cons (pv 0) (pa_cons pe_int pa_nil))) pa_nil)))
      (C8.pss_cut (ps_if (pt_cmpR op_gt (pe_op op_mod (pv 3) pe_int) pe_int (nomark _)) (pss_one (ps_asg (pe_call (ok_law_changed T) (hr.mono (by decide)) (by rfl) T.g_law_changed T.F_law_changed.kp T.b_law_changed .nil pass0 (pa_cons (pv 1) (pa_cons (pv 2) (pa_cons (pe_op op_fdiv (pv 3) pe_int) pa_nil)))) (pg_tup rfl (pgs_cons (pg_name (i := 1) sc_law.nd rfl (by first | exact .inl rfl | exact .inr rfl)) (pgs_cons (pg_name (i := 2) sc_law.nd rfl (by first | exact .inl rfl | exact .inr rfl)) pgs_nil))))) pss_nil)
      (C8.pss_cut (ps_set (i := 4) sc_law.nd rfl (by first | exact .inl rfl | exact .inr rfl) (pe_call (ok_law_is_spins T) (hr.mono (by decide)) (by rfl) T.g_law_is_spins T.F_law_is_spins.kp T.b_law_is_spins .nil pass0 (pa_cons (pv 1) (pa_cons (pv 2) pa_nil))))
      (pss_cons (ps_set (i := 5) sc_law.nd rfl (by first | exact .inl rfl | exact .inr rfl) (pe_tup (pa_cons (pe_callTy call_list_of (by rfl) T.m_list (by decide +kernel) (pa_cons (pv 1) pa_nil)) (pa_cons (pe_callTy call_list_of (by rfl) T.m_list (by decide +kernel) (pa_cons (pv 2) pa_nil)) pa_nil))))
      (C8.pss_cut (ps_try_as (i := 7) (tb := fun W => tAsg (tMakeS T.C_Spins (spInit T) (WE W) _) (gName 6)) (ts := fun a cls d => wWhen (cls = .ref T.f_InvalidSpins ∧ d = none) _) (Wout := fun _ _ _ _ => False) rfl rfl sc_law.nd rfl rfl ⟨rfl, by decide, Or.inl T.g_FieldError⟩ takes0 (fun W pn xe tk _ => pss_one (ps_set (i := 6) sc_law.nd rfl (Or.inl rfl) (pe_makeS T.mk_Spins (ok_Spins_init T B) (hr.mono (by decide)) (by rfl) T.g_Spins T.b_Spins_init (fun σ => passAt tk σ) (pa_cons (pe_ix (r := rIxT K) ix_tup (pv 5) pe_int (fun _ _ => rfl)) (pa_cons (pe_ix (r := rIxT K) ix_tup (pv 5) pe_int (fun _ _ => rfl)) pa_nil))))) (fun a oe cls d pn hz hf => pss_when fun hq => pss_one (ps_ret (pe_and (pe_callB (r := rIsE K T.f_InvalidSpins a) (call_isE T.ec (hq.1 ▸ hq.2 ▸ hz) hf) (by rfl) T.m_isinstance (by decide +kernel) (pa_cons (pv 7) (pa_cons (pe_glob (v := .ref T.f_InvalidSpins) (by rfl) T.g_InvalidSpins rfl) pa_nil))) (pe_and (pe_callB (r := rIsE K T.f_InvalidSpins a) (call_isE T.ec (hq.1 ▸ hq.2 ▸ hz) hf) (by rfl) T.m_isinstance (by decide +kernel) (pa_cons (pv 7) (pa_cons (pe_bltn (v := .ty "ValueError") (by rfl) T.m_ValueError (by decide +kernel) rfl) pa_nil))) (pe_and (pe_not (pv 4)) (pe_one (pe_cmpR (r := rEqD K) (op_eqD hr.units) (pv 5) (pe_tup (pa_cons (pv 1) (pa_cons (pv 2) pa_nil))) (nomark _)))))))))
      (pss_cons (ps_if (PW.pt (pw_or (pt_not (pt_val (pv 4))) (pw_or1 (pt_cmpR (op_neD hr.units) (pv 5) (pe_tup (pa_cons (pv 1) (pa_cons (pv 2) pa_nil))) (nomark _))))) (pss_one (ps_ret pe_bl)) pss_nil)
      (pss_cons (ps_expr (pe_bm PySem.F.plainAttrs_list PySem.F.slot_list_append PySem.F.type_list_append mt_append (pe_ix ix_tup (pv 5) pe_int (fun _ _ => rfl)) (pa_cons pe_int pa_nil)))
      (pss_cons (ps_expr (pe_bm PySem.F.plainAttrs_list PySem.F.slot_list_append PySem.F.type_list_append mt_append (pe_ix ix_tup (pv 5) pe_int (fun _ _ => rfl)) (pa_cons (pe_tup (pa_cons pe_int (pa_cons pe_int (pa_cons pe_int pa_nil)))) pa_nil)))
      (pss_cons (ps_set (i := 8) sc_law.nd rfl (by first | exact .inl rfl | exact .inr rfl) (pe_tup (pa_cons (pe_callTy call_tuple_of (by rfl) T.m_tuple (by decide +kernel) (pa_cons (pv 1) pa_nil)) (pa_cons (pe_callTy call_tuple_of (by rfl) T.m_tuple (by decide +kernel) (pa_cons (pv 2) pa_nil)) pa_nil))))
      (pss_one (ps_ret (pe_and (pe_cmpR (op_eqD hr.units) (pe_tup (pa_cons (pe_fld (pv 6) rfl) (pa_cons (pe_fld (pv 6) rfl) pa_nil))) (pv 8) (nomark _)) (pe_and (pe_call (ok_law_tuples T 4) (hr.mono (by decide)) (by rfl) T.g_law_tuples T.F_law_tuples.kp T.b_law_tuples .nil pass0 (pa_cons (pe_fld (pv 6) rfl) pa_nil)) (pe_one (pe_call (ok_law_tuples T 4) (hr.mono (by decide)) (by rfl) T.g_law_tuples T.F_law_tuples.kp T.b_law_tuples .nil pass0 (pa_cons (pe_fld (pv 6) rfl) pa_nil))))))))))))))))), ?_⟩
  refine ⟨_, rfl, a, ns, 1, 6, 0, rfl, hS, by decide, by decide, fun l H1 fb eb fs xs es s1 nl hl nfb hfb neb heb hes dr => ⟨l, _, rfl, SqT.of hl, rfl, _, _, rfl, _, _, rfl, rfl, ?_⟩⟩
  refine ⟨_, rfl, a, ns, 0, rfl, s1.seq hS, cellZ ns 0, rfl, ?_⟩
  have c0 : 0 ≤ (if cellZ ns 0 < 0 then -cellZ ns 0 else cellZ ns 0) := by split <;> omega
  generalize (if cellZ ns 0 < 0 then -cellZ ns 0 else cellZ ns 0) = cc at *
  have d1 := dr.most
  have d2 := dr.len
  refine ⟨fun σ H2 => ∃ (fb eb : Addr) (fs : List Int) (xs : List V) (es : List Eg), σ = [some (.ref a), some (.ref fb), some (.ref eb), some (.int cc), none, none, none, none, none] ∧ Two 100 100 H H2 fb eb fs xs es, ?_, ?_⟩
  · refine ⟨_, rfl, _, _, rfl, rfl, pos_lit rfl, _, _, rfl, rfl, _, rfl, ite2 (fun _ => ?_) (fun _ => ?_)⟩
    · refine ⟨_, rfl, _, rfl, _, rfl, _, _, rfl, rfl, ⟨by decide, by decide⟩, fb, eb, cc / 8, fs, xs, es, rfl, Int.ediv_nonneg c0 (by decide), ⟨Ext.refl _, hfb, heb, hes, by omega, by omega⟩, fun l2 H2 fb2 eb2 fs2 xs2 es2 M hl2 => ⟨l2, _, rfl, SqT.of hl2, rfl, _, _, rfl, _, _, rfl, rfl, ?_⟩⟩
      exact ⟨fb2, eb2, fs2, xs2, es2, rfl, s1.trans M.ext, M.f, M.e, M.ee, M.lf, M.le⟩
    · exact ⟨fb, eb, fs, xs, es, rfl, s1, hfb, heb, hes, by omega, by omega⟩
  rintro σ H2 ⟨fb, eb, fs, xs, es, rfl, M⟩
  refine ⟨fun σ H3 => ∃ b : Bool, (b = true ↔ goodF fs ∧ goodE fs.length es) ∧ σ = [some (.ref a), some (.ref fb), some (.ref eb), some (.int cc), some (.bl b), none, none, none, none] ∧ Two 100 100 H H3 fb eb fs xs es, ?_, ?_⟩
  · refine ⟨_, rfl, _, rfl, fb, eb, fs, xs, es, rfl, SqL.of M.f, SqL.of M.e, edges_at M.ee, fun g H3 s3 => ⟨true, ⟨fun _ => g, fun _ => rfl⟩, rfl, M.up s3⟩, fun g H3 s3 => ⟨false, ⟨fun z => Bool.noConfusion z, fun z => absurd z g⟩, rfl, M.up s3⟩⟩
  rintro σ H3 ⟨b, hb, rfl, M⟩
  -- copies
  refine ⟨_, rfl, fb, _, rfl, .inl (SqL.of M.f), fun g1 hg1 => ⟨_, rfl, eb, _, rfl, .inl (SqL.of ((ext_upd hg1).lst M.e)), fun g2 hg2 => ⟨sl2, fun L hL => ?_⟩⟩⟩
  have x4 := ((ext_upd (o := .lst (fs.map V.int)) hg1).new (o := .lst xs) hg2).new (o := .tup [V.ref g1, .ref g2]) hL
  have k1 := (ext_upd (o := .tup [V.ref g1, .ref g2]) hL).lst ((ext_upd (o := .lst xs) hg2).lst (upd_same (H := H3) (a := g1) (o := .lst (fs.map V.int))))
  have k2 := (ext_upd (o := .tup [V.ref g1, .ref g2]) hL).lst (upd_same (H := upd H3 g1 (.lst (fs.map V.int))) (a := g2) (o := .lst xs))
  have kL : upd (upd (upd H3 g1 (.lst (fs.map V.int))) g2 (.lst xs)) L (.tup [V.ref g1, .ref g2]) L = some (.tup [V.ref g1, .ref g2]) := upd_same
  have n11 : fb ≠ g1 := ne_of_none M.f hg1
  have n21 : eb ≠ g1 := ne_of_none M.e hg1
  have n12 : fb ≠ g2 := ne_of_none ((ext_upd hg1).lst M.f) hg2
  have n22 : eb ≠ g2 := ne_of_none ((ext_upd hg1).lst M.e) hg2
  have n3 : g2 ≠ g1 := (ne_of_none (upd_same (H := H3) (a := g1) (o := .lst (fs.map V.int))) hg2).symm
  have M := M.up x4
  generalize upd (upd (upd H3 g1 (.lst (fs.map V.int))) g2 (.lst xs)) L (.tup [V.ref g1, .ref g2]) = H4 at *
  -- try
  refine ⟨fun σ H5 => ∃ (p fc ec dx : Addr) (ys : List V), b = true ∧ σ = [some (.ref a), some (.ref fb), some (.ref eb), some (.int cc), some (.bl b), some (.ref L), some (.ref p), none, none] ∧ Ext H4 H5 ∧ H5 p = some (.ins T.C_Spins dx [("fields", .ref fc), ("edges", .ref ec)]) ∧ SqT K H5 fc (fs.map V.int) ∧ SqT K H5 ec ys ∧ Paired (EdgeAt K H5) ys es, ?_, ?_⟩
  · refine ⟨_, rfl, L, _, 0, _, rfl, rfl, SqT.of kL, atI_nat (j := 0) rfl, _, rfl, L, _, 1, _, rfl, rfl, SqT.of kL, atI_nat (j := 1) rfl, fun p dx hp hdx hne => ?_⟩
    have x5 : Ext H4 (upd (upd H4 dx (.own p)) p (.ins T.C_Spins dx [])) := (ext_upd hdx).own hp
    refine ⟨p, dx, g1, g2, fs, xs, es, H4, rfl, upd_same, hp, x5, .inl (SqL.of k1), .inl (SqL.of k2), edges_at M.ee, by have := M.le; omega, by have := M.lf; omega, G.ext M.ext, fun gf ge H' fc ec ys s h1 h2 h3 h4 => ⟨rfl, p, fc, ec, dx, ys, hb.mpr ⟨gf, ge⟩, rfl, s, h1, h2, h3, h4⟩, fun nb H' s => ?_⟩
    refine ⟨true, T.xm, fun _ a0 ha0 => ⟨⟨rfl, rfl⟩, ?_⟩, fun z => Bool.noConfusion z⟩
    have hbf : b = false := by
      cases b
      · rfl
      · exact absurd (hb.mp rfl) nb
    subst hbf
    refine ⟨_, rfl, _, .ref T.f_InvalidSpins, true, rfl, fun u r => r, T.ki, _, rfl, iteT ?_⟩
    refine ⟨_, rfl, _, .type "ValueError", true, rfl, fun u r => r, T.kv, _, rfl, iteT ?_⟩
    refine ⟨_, rfl, _, rfl, _, rfl, iteT ?_⟩
    refine ⟨_, rfl, _, rfl, _, rfl, sl2, fun p9 hp9 => ?_⟩
    have s9 := s.new (o := .tup [V.ref fb, .ref eb]) hp9
    refine ⟨.tuple [.list (intsD fs), .list (es.map edgeD)], .tuple [.list (intsD fs), .list (es.map edgeD)], .tup (SqT.of (s9.at kL)) (.cons (.lst (SqL.of (s9.lst k1)) (ints_dp fs)) (.cons (.lst (SqL.of (s9.lst k2)) (edges_dp (s9.edges (edges_at M.ee)))) .nil)),
      .tup (SqT.of upd_same) (.cons (.lst (SqL.of (s9.lst M.f)) (ints_dp fs)) (.cons (.lst (SqL.of (s9.lst M.e)) (edges_dp (s9.edges (edges_at M.ee)))) .nil)), (gd_pairD (gd_lst gd_ints) (gd_lst gd_edges)).sh, (gd_pairD (gd_lst gd_ints) (gd_lst gd_edges)).sh, ?_⟩
    rw [eqv_self (gd_pairD (gd_lst gd_ints) (gd_lst gd_edges))]
    exact q _
  · rintro σ H5 ⟨p, fc, ec, dx, ys, hbt, rfl, s5, hp, h2, h3, h4⟩
    subst hbt
    refine ⟨_, rfl, _, rfl, iteF ?_⟩
    refine ⟨_, rfl, _, rfl, _, rfl, sl2, fun p9 hp9 => ?_⟩
    have y9 := ext_upd (o := .tup [V.ref fb, .ref eb]) hp9
    have s9 := s5.trans y9
    refine ⟨.tuple [.list (intsD fs), .list (es.map edgeD)], .tuple [.list (intsD fs), .list (es.map edgeD)], .tup (SqT.of (s9.at kL)) (.cons (.lst (SqL.of (s9.lst k1)) (ints_dp fs)) (.cons (.lst (SqL.of (s9.lst k2)) (edges_dp (s9.edges (edges_at M.ee)))) .nil)),
      .tup (SqT.of upd_same) (.cons (.lst (SqL.of (s9.lst M.f)) (ints_dp fs)) (.cons (.lst (SqL.of (s9.lst M.e)) (edges_dp (s9.edges (edges_at M.ee)))) .nil)), (gd_pairD (gd_lst gd_ints) (gd_lst gd_edges)).sh, (gd_pairD (gd_lst gd_ints) (gd_lst gd_edges)).sh, ?_⟩
    rw [eqv_self (gd_pairD (gd_lst gd_ints) (gd_lst gd_edges))]
    refine ⟨_, rfl, iteF ?_⟩
    have hp := y9.keep p _ hp (fun _ z => by cases z)
    have h2 := y9.tup h2
    have h3 := y9.tup h3
    have h4 := y9.edges h4
    generalize upd H5 p9 (.tup [V.ref fb, .ref eb]) = H6 at *
    have c1 := s9.lst k1
    have c2 := s9.lst k2
    have cL := s9.at kL
    have cf := s9.lst M.f
    have ce := s9.lst M.e
    have cee := s9.edges (edges_at (K := K) M.ee)
    -- copies[0].append(7)
    refine ⟨_, rfl, L, _, 0, _, rfl, rfl, SqT.of cL, atI_nat (j := 0) rfl, .inl ⟨rfl, _, SqL.of c1⟩, g1, _, _, rfl, rfl, c1, sl_lt (by have := M.lf; rw [List.length_map]; omega), ?_⟩
    have np1 : p ≠ g1 := fun z => by rw [z, c1] at hp; cases hp
    have nL1 : L ≠ g1 := fun z => by rw [z, c1] at cL; cases cL
    have b1 : upd H6 g1 (.lst (fs.map V.int ++ [V.int 7])) p = _ := (upd_ne np1).trans hp
    have b2 := sqt_lst (K := K) (o := .lst (fs.map V.int ++ [V.int 7])) c1 h2
    have b3 := sqt_lst (K := K) (o := .lst (fs.map V.int ++ [V.int 7])) c1 h3
    have b4 := edgeAt_lst (K := K) (o := .lst (fs.map V.int ++ [V.int 7])) c1 h4
    have b5 := edgeAt_lst (K := K) (o := .lst (fs.map V.int ++ [V.int 7])) c1 cee
    have bL : upd H6 g1 (.lst (fs.map V.int ++ [V.int 7])) L = _ := (upd_ne nL1).trans cL
    have bf : upd H6 g1 (.lst (fs.map V.int ++ [V.int 7])) fb = _ := (upd_ne n11).trans cf
    have be : upd H6 g1 (.lst (fs.map V.int ++ [V.int 7])) eb = _ := (upd_ne n21).trans ce
    have b22 : upd H6 g1 (.lst (fs.map V.int ++ [V.int 7])) g2 = _ := (upd_ne n3).trans c2
    generalize upd H6 g1 (.lst (fs.map V.int ++ [V.int 7])) = H7 at *
    -- copies[1].append((0, 1, 1))
    refine ⟨_, rfl, L, _, 1, _, rfl, rfl, SqT.of bL, atI_nat (j := 1) rfl, .inl ⟨rfl, _, SqL.of b22⟩, by rw [sizeLine_eq]; simp, fun p8 hp8 => ?_⟩
    have y8 := ext_upd (o := .tup [V.int 0, .int 1, .int 1]) hp8
    have b1 := y8.keep p _ b1 (fun _ z => by cases z)
    have b2 := y8.tup b2
    have b3 := y8.tup b3
    have b4 := y8.edges b4
    have b5 := y8.edges b5
    have bf := y8.lst bf
    have be := y8.lst be
    have b22 := y8.lst b22
    generalize upd H7 p8 (.tup [V.int 0, .int 1, .int 1]) = H8 at *
    refine ⟨g2, _, .ref p8, rfl, rfl, b22, sl_lt (by have := M.le; have := M.ee.length; omega), ?_⟩
    have np2 : p ≠ g2 := fun z => by rw [z, b22] at b1; cases b1
    have b1 : upd H8 g2 (.lst (xs ++ [V.ref p8])) p = _ := (upd_ne np2).trans b1
    have b2 := sqt_lst (K := K) (o := .lst (xs ++ [V.ref p8])) b22 b2
    have b3 := sqt_lst (K := K) (o := .lst (xs ++ [V.ref p8])) b22 b3
    have b4 := edgeAt_lst (K := K) (o := .lst (xs ++ [V.ref p8])) b22 b4
    have b5 := edgeAt_lst (K := K) (o := .lst (xs ++ [V.ref p8])) b22 b5
    have bf : upd H8 g2 (.lst (xs ++ [V.ref p8])) fb = _ := (upd_ne n12).trans bf
    have be : upd H8 g2 (.lst (xs ++ [V.ref p8])) eb = _ := (upd_ne n22).trans be
    generalize upd H8 g2 (.lst (xs ++ [V.ref p8])) = H9 at *
    -- due
    refine ⟨_, rfl, fb, _, rfl, .inl ⟨SqL.of bf, fun t1 ht1 => ⟨_, rfl, eb, _, rfl, .inl ⟨SqL.of ((ext_upd ht1).lst be), fun t2 ht2 => ⟨sl2, fun du hdu => ?_⟩⟩⟩⟩⟩
    have z1 := ((ext_upd (o := .tup (fs.map V.int)) ht1).new (o := .tup xs) ht2).new (o := .tup [V.ref t1, .ref t2]) hdu
    have d1' := (ext_upd (o := .tup [V.ref t1, .ref t2]) hdu).at ((ext_upd (o := .tup xs) ht2).at (upd_same (H := H9) (a := t1) (o := .tup (fs.map V.int))))
    have d2' := (ext_upd (o := .tup [V.ref t1, .ref t2]) hdu).at (upd_same (H := upd H9 t1 (.tup (fs.map V.int))) (a := t2) (o := .tup xs))
    have dd : upd (upd (upd H9 t1 (.tup (fs.map V.int))) t2 (.tup xs)) du (.tup [V.ref t1, .ref t2]) du = some (.tup [V.ref t1, .ref t2]) := upd_same
    have b1 := z1.keep p _ b1 (fun _ z => by cases z)
    have b2 := z1.tup b2
    have b3 := z1.tup b3
    have b4 := z1.edges b4
    have b5 := z1.edges b5
    generalize upd (upd (upd H9 t1 (.tup (fs.map V.int))) t2 (.tup xs)) du (.tup [V.ref t1, .ref t2]) = HA at *
    refine ⟨_, rfl, p, T.C_Spins, dx, _, .ref fc, rfl, b1, T.cl_Spins, T.na_Spins_fields, rfl, _, rfl, p, T.C_Spins, dx, _, .ref ec, rfl, b1, T.cl_Spins, T.na_Spins_edges, rfl, sl2, fun pz hpz => ?_⟩
    have yz := ext_upd (o := .tup [V.ref fc, .ref ec]) hpz
    refine ⟨_, rfl, .tuple [.tuple (intsD fs), .tuple (es.map edgeD)], .tuple [.tuple (intsD fs), .tuple (es.map edgeD)], .tup (SqT.of upd_same) (.cons (.tup (yz.tup b2) (ints_dp fs)) (.cons (.tup (yz.tup b3) (edges_dp (yz.edges b4))) .nil)),
      .tup (SqT.of (yz.at dd)) (.cons (.tup (SqT.of (yz.at d1')) (ints_dp fs)) (.cons (.tup (SqT.of (yz.at d2')) (edges_dp (yz.edges b5))) .nil)), (gd_pairD (gd_tup gd_ints) (gd_tup gd_edges)).sh, (gd_pairD (gd_tup gd_ints) (gd_tup gd_edges)).sh, ?_⟩
    rw [eqv_self (gd_pairD (gd_tup gd_ints) (gd_tup gd_edges))]
    refine ⟨_, rfl, iteT ?_⟩
    have b1 := yz.keep p _ b1 (fun _ z => by cases z)
    have b2 := yz.tup b2
    have b3 := yz.tup b3
    have b4 := yz.edges b4
    generalize upd HA pz (.tup [V.ref fc, .ref ec]) = HB at *
    refine ⟨_, rfl, p, T.C_Spins, dx, _, .ref fc, rfl, b1, T.cl_Spins, T.na_Spins_fields, rfl, .ref fc, .tuple (intsD fs), rfl, .tup b2 (ints_dp fs), ?_, fun HC sC => ⟨_, rfl, iteT ?_⟩⟩
    · refine ⟨by unfold intsD; rw [List.length_map]; have := M.lf; omega, fun x m => ?_⟩
      obtain ⟨i, _, rfl⟩ := List.mem_map.mp m
      trivial
    · have eC := sC.ext
      refine ⟨_, rfl, p, T.C_Spins, dx, _, .ref ec, rfl, eC.keep p _ b1 (fun _ z => by cases z), T.cl_Spins, T.na_Spins_edges, rfl, .ref ec, .tuple (es.map edgeD), rfl, .tup (eC.tup b3) (edges_dp (eC.edges b4)), ?_, fun HD sD => q _⟩
      refine ⟨by rw [List.length_map]; have := M.le; omega, fun x m => ?_⟩
      obtain ⟨e, _, rfl⟩ := List.mem_map.mp m
      refine ⟨by simp, fun y m => ?_⟩
      simp only [List.mem_cons, List.not_mem_nil, or_false] at m
      rcases m with rfl | rfl | rfl <;> trivial
theorem tabG0 {H : Hp} {p : Addr} (h : H p = some (.tbl #[])) : GxR.TabG H p := ⟨#[], h, by simp [TriplesOk]⟩
end
theorem all_mk {l : PySem.W.OpenLaw} {q : Program} {w : World} {K : PySem.W.Frag} {h : Heap} {mg : Str → Option Value} {fa : Addr} (X : K.In h) (G : h.Ns mainGlobals mg) (hfa : mg "law" = some (.ref fa)) (AT : LamX.AllTab q K h)
    {f0 C_Spins c0 P0 f1 c1 P1 f2 f3 f4 f5 f6 f7 f8 f9 f10 f11 X_FieldError X_InvalidSpins : Addr}
    {oc0 kV0 dc0 pm0 ct0 ge0 oc1 kV1 dc1 pm1 ct1 ge1 oc2 kV2 dc2 pm2 ct2 cd2 oc3 kV3 dc3 pm3 ct3 cd3 oc4 kV4 dc4 pm4 ct4 cd4 oc5 kV5 dc5 pm5 ct5 cd5 oc6 kV6 dc6 pm6 ct6 cd6 oc7 kV7 dc7 pm7 ct7 cd7 oc8 kV8 dc8 pm8 ct8 cd8 oc9 kV9 dc9 pm9 ct9 cd9 oc10 kV10 dc10 pm10 ct10 cd10 oc11 kV11 dc11 pm11 ct11 cd11 : Value}
    {od0 an0 gd0 od1 an1 gd1 od2 an2 od3 an3 od4 an4 od5 an5 od6 an6 od7 an7 od8 an8 od9 an9 od10 an10 od11 an11 : Option Addr}
    {sl0 gs0 sl1 gs1 sl2 sl3 sl4 sl5 sl6 sl7 sl8 sl9 sl10 sl11 : Array (Option Value)}
    {gv0 gv1 : Array Value}
    {tk_MOST_VERTICES tk_MOST_EDGES tk_MOST_SIZE : Tok}
    (ac_Spins : PySem.W.nsIn K mainGlobals "Spins" = some (some (.ref C_Spins)))
    (a0 : PySem.W.findIn K (.ref C_Spins) "__init__" = some (some (.ref f0)))
    (i0 : PySem.W.isFn K (.ref f0) = true)
    (l0 : K.lookup f0 = some ⟨oc0, od0, .func (PySem.W.fnOf "__init__" "Spins.__init__" (defArgs s_Spins_init) (defBody s_Spins_init) (defScope s_Spins_init) .none kV0 dc0 pm0 an0 (.ref c0) ct0), sl0⟩)
    (x0 : PySem.W.codeIn K (.ref c0) "Spins.__init__" = true)
    (k0 : PySem.W.keepIn K (.ref f0) = true)
    (h0 : K.lookup c0 = some ⟨ge0, gd0, .fields gv0, gs0⟩)
    (v0 : gv0[11]? = some (.ref P0))
    (n0 : K.lookup P0 = none)
    (e0 : PySem.W.codeHdIn K c0 P0 = true)
    (t0 : h.get? P0 = some { cls := .none, data := .fields #[] })
    (a1 : PySem.W.nsIn K mainGlobals "_check_fields" = some (some (.ref f1)))
    (l1 : K.lookup f1 = some ⟨oc1, od1, .func (PySem.W.fnOf "_check_fields" "_check_fields" (defArgs s_check_fields) (defBody s_check_fields) (defScope s_check_fields) .none kV1 dc1 pm1 an1 (.ref c1) ct1), sl1⟩)
    (x1 : PySem.W.codeIn K (.ref c1) "_check_fields" = true)
    (k1 : PySem.W.keepIn K (.ref f1) = true)
    (h1 : K.lookup c1 = some ⟨ge1, gd1, .fields gv1, gs1⟩)
    (v1 : gv1[11]? = some (.ref P1))
    (n1 : K.lookup P1 = none)
    (e1 : PySem.W.codeHdIn K c1 P1 = true)
    (r1 : ((recsOf q).any fun r => r.name == ("_check_fields" : Str)) = true)
    (a2 : PySem.W.nsIn K mainGlobals "_check_edges" = some (some (.ref f2)))
    (l2 : K.lookup f2 = some ⟨oc2, od2, .func (PySem.W.fnOf "_check_edges" "_check_edges" (defArgs s_check_edges) (defBody s_check_edges) (defScope s_check_edges) .none kV2 dc2 pm2 an2 cd2 ct2), sl2⟩)
    (x2 : PySem.W.codeIn K cd2 "_check_edges" = true)
    (k2 : PySem.W.keepIn K (.ref f2) = true)
    (a3 : PySem.W.nsIn K mainGlobals "_law_cell" = some (some (.ref f3)))
    (l3 : K.lookup f3 = some ⟨oc3, od3, .func (PySem.W.fnOf "_law_cell" "_law_cell" (defArgs s_law_cell) (defBody s_law_cell) (defScope s_law_cell) .none kV3 dc3 pm3 an3 cd3 ct3), sl3⟩)
    (x3 : PySem.W.codeIn K cd3 "_law_cell" = true)
    (k3 : PySem.W.keepIn K (.ref f3) = true)
    (a4 : PySem.W.nsIn K mainGlobals "_law_mix" = some (some (.ref f4)))
    (l4 : K.lookup f4 = some ⟨oc4, od4, .func (PySem.W.fnOf "_law_mix" "_law_mix" (defArgs s_law_mix) (defBody s_law_mix) (defScope s_law_mix) .none kV4 dc4 pm4 an4 cd4 ct4), sl4⟩)
    (x4 : PySem.W.codeIn K cd4 "_law_mix" = true)
    (k4 : PySem.W.keepIn K (.ref f4) = true)
    (a5 : PySem.W.nsIn K mainGlobals "_law_row" = some (some (.ref f5)))
    (l5 : K.lookup f5 = some ⟨oc5, od5, .func (PySem.W.fnOf "_law_row" "_law_row" (defArgs s_law_row) (defBody s_law_row) (defScope s_law_row) .none kV5 dc5 pm5 an5 cd5 ct5), sl5⟩)
    (x5 : PySem.W.codeIn K cd5 "_law_row" = true)
    (k5 : PySem.W.keepIn K (.ref f5) = true)
    (a6 : PySem.W.nsIn K mainGlobals "_law_tuples" = some (some (.ref f6)))
    (l6 : K.lookup f6 = some ⟨oc6, od6, .func (PySem.W.fnOf "_law_tuples" "_law_tuples" (defArgs s_law_tuples) (defBody s_law_tuples) (defScope s_law_tuples) .none kV6 dc6 pm6 an6 cd6 ct6), sl6⟩)
    (x6 : PySem.W.codeIn K cd6 "_law_tuples" = true)
    (k6 : PySem.W.keepIn K (.ref f6) = true)
    (a7 : PySem.W.nsIn K mainGlobals "_law_spins" = some (some (.ref f7)))
    (l7 : K.lookup f7 = some ⟨oc7, od7, .func (PySem.W.fnOf "_law_spins" "_law_spins" (defArgs s_law_spins) (defBody s_law_spins) (defScope s_law_spins) .none kV7 dc7 pm7 an7 cd7 ct7), sl7⟩)
    (x7 : PySem.W.codeIn K cd7 "_law_spins" = true)
    (k7 : PySem.W.keepIn K (.ref f7) = true)
    (a8 : PySem.W.nsIn K mainGlobals "_law_is_spins" = some (some (.ref f8)))
    (l8 : K.lookup f8 = some ⟨oc8, od8, .func (PySem.W.fnOf "_law_is_spins" "_law_is_spins" (defArgs s_law_is_spins) (defBody s_law_is_spins) (defScope s_law_is_spins) .none kV8 dc8 pm8 an8 cd8 ct8), sl8⟩)
    (x8 : PySem.W.codeIn K cd8 "_law_is_spins" = true)
    (k8 : PySem.W.keepIn K (.ref f8) = true)
    (a9 : PySem.W.nsIn K mainGlobals "_law_all_edges" = some (some (.ref f9)))
    (l9 : K.lookup f9 = some ⟨oc9, od9, .func (PySem.W.fnOf "_law_all_edges" "_law_all_edges" (defArgs s_law_all_edges) (defBody s_law_all_edges) (defScope s_law_all_edges) .none kV9 dc9 pm9 an9 cd9 ct9), sl9⟩)
    (x9 : PySem.W.codeIn K cd9 "_law_all_edges" = true)
    (k9 : PySem.W.keepIn K (.ref f9) = true)
    (a10 : PySem.W.nsIn K mainGlobals "_law_changed" = some (some (.ref f10)))
    (l10 : K.lookup f10 = some ⟨oc10, od10, .func (PySem.W.fnOf "_law_changed" "_law_changed" (defArgs s_law_changed) (defBody s_law_changed) (defScope s_law_changed) .none kV10 dc10 pm10 an10 cd10 ct10), sl10⟩)
    (x10 : PySem.W.codeIn K cd10 "_law_changed" = true)
    (k10 : PySem.W.keepIn K (.ref f10) = true)
    (a11 : PySem.W.nsIn K mainGlobals "law" = some (some (.ref f11)))
    (l11 : K.lookup f11 = some ⟨oc11, od11, .func (PySem.W.fnOf "law" "law" (defArgs s_law) (defBody s_law) (defScope s_law) .none kV11 dc11 pm11 an11 cd11 ct11), sl11⟩)
    (x11 : PySem.W.codeIn K cd11 "law" = true)
    (k11 : PySem.W.keepIn K (.ref f11) = true)
    (n_MOST_VERTICES : PySem.W.nsIn K mainGlobals "MOST_VERTICES" = some (some (.int 12 tk_MOST_VERTICES)))
    (n_MOST_EDGES : PySem.W.nsIn K mainGlobals "MOST_EDGES" = some (some (.int 24 tk_MOST_EDGES)))
    (n_MOST_SIZE : PySem.W.nsIn K mainGlobals "MOST_SIZE" = some (some (.int 9 tk_MOST_SIZE)))
    (ax_FieldError : PySem.W.nsIn K mainGlobals "FieldError" = some (some (.ref X_FieldError)))
    (q_FieldError : PySem.W.excIn K X_FieldError veB "ValueError.__new__" = true)
    (kx_FieldError : PySem.W.keepIn K (.ref X_FieldError) = true)
    (bx_FieldError : PySem.W.subIn K (.ref X_FieldError) (.type "BaseException") = some true)
    (yx_FieldError : PySem.W.typeIn K (.ref X_FieldError) = some (.type "type"))
    (ax_InvalidSpins : PySem.W.nsIn K mainGlobals "InvalidSpins" = some (some (.ref X_InvalidSpins)))
    (q_InvalidSpins : PySem.W.excIn K X_InvalidSpins veB "ValueError.__new__" = true)
    (kx_InvalidSpins : PySem.W.keepIn K (.ref X_InvalidSpins) = true)
    (bx_InvalidSpins : PySem.W.subIn K (.ref X_InvalidSpins) (.type "BaseException") = some true)
    (yx_InvalidSpins : PySem.W.typeIn K (.ref X_InvalidSpins) = some (.type "type"))
    (pg_Spins : PySem.W.plainGet K C_Spins Str.empty = true)
    (hd_Spins : PySem.W.hasDictIn K C_Spins = true)
    (po_Spins : PySem.W.plainOver K C_Spins = true)
    (sa_Spins : PySem.W.findIn K (.ref C_Spins) "__setattr__" = some (some (.builtin "object.__setattr__")))
    (mk_Spins : PySem.W.makesIn K C_Spins = true)
    (kc_Spins : PySem.W.keepIn K (.ref C_Spins) = true)
    (na_Spins_fields : PySem.W.findIn K (.ref C_Spins) "fields" = some none)
    (na_Spins_edges : PySem.W.findIn K (.ref C_Spins) "edges" = some none)
    (z_abs : PySem.W.nsIn K mainGlobals "abs" = some none)
    (z_all : PySem.W.nsIn K mainGlobals "all" = some none)
    (z_bool : PySem.W.nsIn K mainGlobals "bool" = some none)
    (z_int : PySem.W.nsIn K mainGlobals "int" = some none)
    (z_isinstance : PySem.W.nsIn K mainGlobals "isinstance" = some none)
    (z_len : PySem.W.nsIn K mainGlobals "len" = some none)
    (z_list : PySem.W.nsIn K mainGlobals "list" = some none)
    (z_range : PySem.W.nsIn K mainGlobals "range" = some none)
    (z_tuple : PySem.W.nsIn K mainGlobals "tuple" = some none)
    (z_zip : PySem.W.nsIn K mainGlobals "zip" = some none)
    (xm : PySem.W.exmOne K (.ref X_InvalidSpins) (.ref X_FieldError) = some true)
    (ki : PySem.W.kitOne K (.ref X_InvalidSpins) (.ref X_InvalidSpins) = some true)
    (kv : PySem.W.kitOne K (.ref X_InvalidSpins) (.type "ValueError") = some true)
    (ehg : PySem.W.findIn K (.ref X_InvalidSpins) "__getattribute__" = some (some (.builtin "BaseException.__getattribute__")))
    (ehk : PySem.W.findIn K (.ref X_InvalidSpins) "__getattr__" = some none)
    (ehd : PySem.W.hasDictIn K X_InvalidSpins = true)
    (eha : PySem.W.findIn K (.ref X_InvalidSpins) "__class__" = some (some (.builtin "object.__class__")))
    (ehn : PySem.W.specialIn K (.builtin "object.__class__") "__get__" = some (some (.builtin "getset_descriptor.__get__")))
    (eht : PySem.W.takesIn K (.builtin "object.__class__") = some true)
    (ehm : PySem.W.mroIn K X_InvalidSpins (.type "object") = some true)
    (zVE : PySem.W.nsIn K mainGlobals "ValueError" = some none) :
    LamX.LawAtS l w K CX0 8 63 "script" mg fa h := by
  have e := hfa.symm.trans (PySem.W.mg_of X G a11)
  cases e
  have F0 := funC_mk (st := s_Spins_init) l0 x0 k0
  have b0 := F0.binds (ps := ["self", "fields", "edges"]) fun _ _ _ _ _ _ us hl => match us, hl with | [_, _, _], _ => rfl
  have F1 := funC_mk (st := s_check_fields) l1 x1 k1
  have b1 := F1.binds (ps := ["fields"]) fun _ _ _ _ _ _ us hl => match us, hl with | [_], _ => rfl
  have F2 := fun_mk (st := s_check_edges) l2 x2 k2
  have b2 := F2.binds (ps := ["edges", "count"]) fun _ _ _ _ _ _ us hl => match us, hl with | [_, _], _ => rfl
  have F3 := fun_mk (st := s_law_cell) l3 x3 k3
  have b3 := F3.binds (ps := ["script", "k"]) fun _ _ _ _ _ _ us hl => match us, hl with | [_, _], _ => rfl
  have F4 := fun_mk (st := s_law_mix) l4 x4 k4
  have b4 := F4.binds (ps := ["cell", "k"]) fun _ _ _ _ _ _ us hl => match us, hl with | [_, _], _ => rfl
  have F5 := fun_mk (st := s_law_row) l5 x5 k5
  have b5 := F5.binds (ps := ["cell", "count", "bound"]) fun _ _ _ _ _ _ us hl => match us, hl with | [_, _, _], _ => rfl
  have F6 := fun_mk (st := s_law_tuples) l6 x6 k6
  have b6 := F6.binds (ps := ["thing"]) fun _ _ _ _ _ _ us hl => match us, hl with | [_], _ => rfl
  have F7 := fun_mk (st := s_law_spins) l7 x7 k7
  have b7 := F7.binds (ps := ["script", "first", "most", "kind"]) fun _ _ _ _ _ _ us hl => match us, hl with | [_, _, _, _], _ => rfl
  have F8 := fun_mk (st := s_law_is_spins) l8 x8 k8
  have b8 := F8.binds (ps := ["fields", "edges"]) fun _ _ _ _ _ _ us hl => match us, hl with | [_, _], _ => rfl
  have F9 := fun_mk (st := s_law_all_edges) l9 x9 k9
  have b9 := F9.binds (ps := ["count", "most"]) fun _ _ _ _ _ _ us hl => match us, hl with | [_, _], _ => rfl
  have F10 := fun_mk (st := s_law_changed) l10 x10 k10
  have b10 := F10.binds (ps := ["fields", "edges", "cell"]) fun _ _ _ _ _ _ us hl => match us, hl with | [_, _, _], _ => rfl
  have F11 := fun_mk (st := s_law) l11 x11 k11
  let T : Top K mg := ⟨f1, _, c1, P1, F1, b1, PySem.W.mg_of X G a1, f2, _, F2, b2, PySem.W.mg_of X G a2, f3, _, F3, b3, PySem.W.mg_of X G a3, f4, _, F4, b4, PySem.W.mg_of X G a4, f5, _, F5, b5, PySem.W.mg_of X G a5, f6, _, F6, b6, PySem.W.mg_of X G a6, f7, _, F7, b7, PySem.W.mg_of X G a7, f8, _, F8, b8, PySem.W.mg_of X G a8, f9, _, F9, b9, PySem.W.mg_of X G a9, f10, _, F10, b10, PySem.W.mg_of X G a10, tk_MOST_VERTICES, PySem.W.mg_of X G n_MOST_VERTICES, tk_MOST_EDGES, PySem.W.mg_of X G n_MOST_EDGES, tk_MOST_SIZE, PySem.W.mg_of X G n_MOST_SIZE, X_FieldError, PySem.W.mg_of X G ax_FieldError, q_FieldError, kx_FieldError, bx_FieldError, yx_FieldError, X_InvalidSpins, PySem.W.mg_of X G ax_InvalidSpins, q_InvalidSpins, kx_InvalidSpins, bx_InvalidSpins, yx_InvalidSpins, C_Spins, PySem.W.mg_of X G ac_Spins, ⟨pg_Spins, hd_Spins, po_Spins, sa_Spins⟩, f0, _, c0, P0, F0, b0, ⟨mk_Spins, a0, i0, kc_Spins⟩, na_Spins_fields, na_Spins_edges, PySem.W.mg_none_of X G z_abs, PySem.W.mg_none_of X G z_all, PySem.W.mg_none_of X G z_bool, PySem.W.mg_none_of X G z_int, PySem.W.mg_none_of X G z_isinstance, PySem.W.mg_none_of X G z_len, PySem.W.mg_none_of X G z_list, PySem.W.mg_none_of X G z_range, PySem.W.mg_none_of X G z_tuple, PySem.W.mg_none_of X G z_zip, xm, ki, kv, ⟨ehg, ehk, bx_InvalidSpins, ehd, eha, ehn, eht, ehm⟩, PySem.W.mg_none_of X G zVE⟩
  refine ⟨_, [(c0, P0), (c1, P1)], spLaw T, ?_, ?_, ?_, fun s u => .of_eq rfl, fun H a ns hl hb ht hS => law_in T H a ns hl hb ⟨tabG0 (ht (c0, P0) (by simp)), tabG0 (ht (c1, P1) (by simp))⟩ hS, fun base _ _ tb => ok_law F11 T ⟨tb (c0, P0) (by simp), tb (c1, P1) (by simp)⟩⟩
  · intro p hp
    simp only [List.mem_cons, List.not_mem_nil, or_false] at hp
    rcases hp with rfl | rfl
    · exact t0
    · exact AT "_check_fields" f1 c1 P1 _ _ _ _ _ _ r1 a1 l1 rfl rfl h1 v1
  · intro p hp
    simp only [List.mem_cons, List.not_mem_nil, or_false] at hp
    rcases hp with rfl | rfl
    · exact n0
    · exact n1
  · intro p hp
    simp only [List.mem_cons, List.not_mem_nil, or_false] at hp
    rcases hp with rfl | rfl
    · exact PySem.W.codeHd_of_K X e0
    · exact PySem.W.codeHd_of_K X e1
end KP
open PySem PySem.W PyProof.Rows
local macro_rules | `(tactic| o_head ($f:ident $k $a $e)) => `(tactic| o_head (kmHook $k $a $e [48]))
set_option maxHeartbeats 0 in
theorem PySem.Challenge.cw_spinfield_k05_spins_holds : PySem.Challenge.rw_spinfield_k05_spins.Holds := by
  w_on; o_law; k_head; (case hw => w_witness2)
  k_fill
  refine LamX.walk_ofAll (l := PySem.Challenge.rw_spinfield_k05_spins) (n := 63) (k := 8) (x := "script") (CX := fun _ => L2.CX0) rfl (by decide) rfl ⟨rfl, by decide, by decide⟩ (fun w h Y => PySem.W.km_in_of Y) ?F (fun _ _ _ _ _ h => h)
  case F =>
    intro w mg fa h Y KX G hmg AT
    refine' KP.all_mk KX G hmg AT ?ac_Spins ?a0 ?i0 ?l0 ?x0 ?k0 ?h0 ?v0 ?n0 ?e0 ?t0 ?a1 ?l1 ?x1 ?k1 ?h1 ?v1 ?n1 ?e1 ?r1 ?a2 ?l2 ?x2 ?k2 ?a3 ?l3 ?x3 ?k3 ?a4 ?l4 ?x4 ?k4 ?a5 ?l5 ?x5 ?k5 ?a6 ?l6 ?x6 ?k6 ?a7 ?l7 ?x7 ?k7 ?a8 ?l8 ?x8 ?k8 ?a9 ?l9 ?x9 ?k9 ?a10 ?l10 ?x10 ?k10 ?a11 ?l11 ?x11 ?k11 ?n_MOST_VERTICES ?n_MOST_EDGES ?n_MOST_SIZE ?ax_FieldError ?q_FieldError ?kx_FieldError ?bx_FieldError ?yx_FieldError ?ax_InvalidSpins ?q_InvalidSpins ?kx_InvalidSpins ?bx_InvalidSpins ?yx_InvalidSpins ?pg_Spins ?hd_Spins ?po_Spins ?sa_Spins ?mk_Spins ?kc_Spins ?na_Spins_fields ?na_Spins_edges ?z_abs ?z_all ?z_bool ?z_int ?z_isinstance ?z_len ?z_list ?z_range ?z_tuple ?z_zip ?xm ?ki ?kv ?ehg ?ehk ?ehd ?eha ?ehn ?eht ?ehm ?zVE
    (case ac_Spins => k_is); (case a0 => k_is); (case i0 => k_is); (case l0 => k_is); (case x0 => k_is); (case k0 => k_is); (case h0 => k_is); (case v0 => exact rfl); (case n0 => kernel_rfl); (case e0 => kernel_rfl); (case t0 => exact PySem.W.km_tabs_of Y 48 (by simp)); (case a1 => k_is); (case l1 => k_is); (case x1 => k_is); (case k1 => k_is); (case h1 => k_is); (case v1 => exact rfl); (case n1 => kernel_rfl); (case e1 => kernel_rfl); (case r1 => kernel_rfl); (case a2 => k_is); (case l2 => k_is); (case x2 => k_is); (case k2 => k_is); (case a3 => k_is); (case l3 => k_is); (case x3 => k_is); (case k3 => k_is); (case a4 => k_is); (case l4 => k_is); (case x4 => k_is); (case k4 => k_is); (case a5 => k_is); (case l5 => k_is); (case x5 => k_is); (case k5 => k_is); (case a6 => k_is); (case l6 => k_is); (case x6 => k_is); (case k6 => k_is); (case a7 => k_is); (case l7 => k_is); (case x7 => k_is); (case k7 => k_is); (case a8 => k_is); (case l8 => k_is); (case x8 => k_is); (case k8 => k_is); (case a9 => k_is); (case l9 => k_is); (case x9 => k_is); (case k9 => k_is); (case a10 => k_is); (case l10 => k_is); (case x10 => k_is); (case k10 => k_is); (case a11 => k_is); (case l11 => k_is); (case x11 => k_is); (case k11 => k_is); (case n_MOST_VERTICES => k_is); (case n_MOST_EDGES => k_is); (case n_MOST_SIZE => k_is); (case ax_FieldError => k_is); (case q_FieldError => kernel_rfl); (case kx_FieldError => k_is); (case bx_FieldError => k_is); (case yx_FieldError => k_is); (case ax_InvalidSpins => k_is); (case q_InvalidSpins => kernel_rfl); (case kx_InvalidSpins => k_is); (case bx_InvalidSpins => k_is); (case yx_InvalidSpins => k_is); (case pg_Spins => k_is); (case hd_Spins => k_is); (case po_Spins => k_is); (case sa_Spins => k_is); (case mk_Spins => k_is); (case kc_Spins => k_is); (case na_Spins_fields => k_is); (case na_Spins_edges => k_is); (case z_abs => k_is); (case z_all => k_is); (case z_bool => k_is); (case z_int => k_is); (case z_isinstance => k_is); (case z_len => k_is); (case z_list => k_is); (case z_range => k_is); (case z_tuple => k_is); (case z_zip => k_is); (case xm => kernel_rfl); (case ki => kernel_rfl); (case kv => kernel_rfl); (case ehg => k_is); (case ehk => k_is); (case ehd => k_is); (case eha => k_is); (case ehn => k_is); (case eht => k_is); (case ehm => k_is); (case zVE => k_is)
