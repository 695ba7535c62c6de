import PyProof.Rows.All
import Wide.All
import OpenK.AllK
import Wide.FinOn
import HandS.ForMost
import HandS.AnyAll
import HandS.GenList
import HandS.EndTab
import PyProof.TupleOfGen
import HandS.SortRule
import HandS.Conv
import HandS.EndOwn
import HandS.EndBits
import HandS.Zip
import HandS.TupLe
import HandS.ForExc
import HandS.ExcIs
import HandS.Style
import HandS.TupAny
import HandS.IsInst
import HandS.CallLocal
import HandS.Wide
import HandS.Codes
import HandS.DictComp
import KE.KBits
import PyProof.SumWalkG
import KE.GoesEnum
import PyProof.Walks
import PyProof.MinMaxWalk
import HandS.TupSets
import HandS.Deep
import HandS.Text
import HandS.Gcd
import HandS.TupMul
import KE.KDictDisplayH
import HandS.TupLen
import PySem.Challenge.RW_spinfield_k21_matching_sums
set_option Elab.async false
set_option linter.all false
set_option maxRecDepth 100000
set_option maxHeartbeats 4000000
/-! Generator expressions over the layer: the generator's own frame as a context, its turns, what wakes it. -/
namespace GXP
open PySem PySem.Spec PyProof.Rows L2
/-- the generator's frame while its consumer stands at A -/
abbrev gcx (X : Cx) (A : Around) (s : Shared) (H : Hp) (ce : Env) (fp : List Addr) : Cx :=
  { X with A := A, s_0 := s, H_0 := H, env := ce, outer := X.stack, stack := ce :: X.stack, ex := fp, fn := fun _ => false, calm := true, pn := [], xe := fun _ _ => False }
/-- the cells of the frame that are taken over -/
theorem clo_look {cells : List (Str × Addr)} {names : List (Str × NameKind)} (hf : ∀ y ∈ names, y.2 = .free → ∃ c, cells.lookup y.1 = some c) {y : Str} {c : Addr} (e : (cloFrom cells names []).lookup y = some c) : cells.lookup y = some c ∧ (y, NameKind.free) ∈ names := by
  rcases cloFrom_mem (PySem.mem_of_lookup e) with z | ⟨z, rfl⟩
  · cases z
  · obtain ⟨d, hd⟩ := hf _ z rfl
    have hd : cells.lookup y = some d := hd
    rw [hd]
    exact ⟨rfl, z⟩
theorem gcx_start {X : Cx} {pins : List (Addr × Obj)} {σ : L2.St} {H : Hp} {s s5 : Shared} {A : Around} {ce : Env} {scope : Scope} {own : List (Str × Nat)} {fp : List Addr} {m0 : Str → Option Value}
    (I : Inv X pins σ H s) (ok : BlkOk X.N X.env.scope scope own) (hN : X.N.Nodup) (nocell : ∀ y ∈ scope.names, y.2 ≠ .cell) (hfp : ∀ b ∈ fp, FpOk X pins H b ∧ b < s.heap.objs.size)
    (hsc : ce.scope = scope) (hL : ce.locals = s.heap.objs.size) (hgl : ce.globals = mainGlobals) (hbl : ce.builtins = builtinsNs) (hcl : ce.cells = cloFrom X.env.cells scope.names []) (hfr : ce.frame = some ce.locals)
    (hA : A.frames = some (ce :: X.stack)) (hh : A.handled = none) (kp : ∀ b o, s.heap.get? b = some o → s5.heap.get? b = some o) (ns : s5.heap.Ns ce.locals m0) (hos : s5.os = s.os) (hb : AllBare s5.gens) :
    Inv (gcx X A s H ce fp) [] (wipe σ (own.map (·.2))) H s5 := by
  have hfree : ∀ y ∈ scope.names, y.2 = .free → ∃ c, X.env.cells.lookup y.1 = some c := fun y hy e => (ok.free y hy e).elim (fun k => I.ok.has _ (.inl k)) (fun k => I.ok.has _ (.inr k))
  have look : ∀ {y c}, ce.cells.lookup y = some c → X.env.cells.lookup y = some c ∧ (y, NameKind.free) ∈ scope.names := fun {y c} e => clo_look hfree (by rw [← hcl]; exact e)
  have cellLt : ∀ {y c}, X.env.cells.lookup y = some c → c < s.heap.objs.size := fun {y c} e => let ⟨_, z⟩ := I.cell y c e; z.lt
  have freeHas : ∀ {y}, scope.names.lookup y = some .free → ∃ c, ce.cells.lookup y = some c ∧ X.env.cells.lookup y = some c := fun {y} e => by
    obtain ⟨c, hc⟩ := mem_lookup (cloFrom_has (cells := X.env.cells) (acc := []) (PySem.mem_of_lookup e))
    rw [← hcl] at hc
    exact ⟨c, hc, (look hc).1⟩
  have okG : (gcx X A s H ce fp).Ok := by
    refine { mod := I.ok.mod, kind := ?kd, glob := hgl, blt := hbl, above := Nat.le_of_eq hL.symm, inj := ?inj, has := ?has, cab := fun _ _ z _ => (by cases z), hd := fun _ => hh, frames := hA, stk := .inr ⟨rfl, hfr⟩, exf := ?exf, bs := I.bs, bsz := Nat.le_trans I.ok.bsz I.sz, noex := ?noex, exfs := ?exfs, funs := I.stack, frf := I.stkFree }
    case kd =>
      show ce.scope.kind = _
      rw [hsc]
      exact ok.kind
    case inj => exact fun y z c e1 e2 => I.ok.inj y z c (look e1).1 (look e2).1
    case has =>
      intro y hy
      have hy : ce.scope.names.lookup y = some .cell ∨ ce.scope.names.lookup y = some .free := hy
      rw [hsc] at hy
      rcases hy with hy | hy
      · exact absurd rfl (nocell _ (PySem.mem_of_lookup hy))
      · exact let ⟨c, h, _⟩ := freeHas hy; ⟨c, h⟩
    case exf =>
      refine fun b hb => ⟨?_, fun y c e z => (hfp b hb).1.2.2.2.2.1 y c (look e).1 z⟩
      show b ≠ ce.locals
      rw [hL]
      exact Nat.ne_of_lt (hfp b hb).2
    case noex =>
      intro b o e hb
      rcases (hfp b hb).1.2.2.2.1 with z | z
      · exact I.ok.noex b o e z
      · have h1 := Heap.lt_size e
        have h2 := I.ok.bsz
        exact absurd (Nat.lt_of_lt_of_le h1 (Nat.le_trans h2 z)) (Nat.lt_irrefl _)
    case exfs =>
      intro b hb z
      rcases List.mem_cons.mp (I.stkSub b z) with z | z
      · exact (hfp b hb).1.2.1 z
      · exact (hfp b hb).1.2.2.1 z
  refine { ok := okG, os := hos, bare := hb, base := Un.kept kp, loc := ⟨m0, ns, ?loc⟩, cell := ?cell, free := ?free, freeC := fun y c e => I.freeC y c (look e).1, pin := fun p hp => absurd (show p ∈ ([] : List (Addr × Obj)) ++ [] from hp) (by simp), hok := I.hok.kept kp, len := by rw [wipe_length]; exact I.len }
  case loc =>
    intro i y v e1 e2 e3
    obtain ⟨e2, hne⟩ := wipe_some e2
    have e3 : ce.scope.names.lookup y = some .local ∨ ce.scope.names.lookup y = some .cell ∨ ce.scope.names.lookup y = some .free := e3
    rw [hsc] at e3
    have hfr : scope.names.lookup y = some .free := by
      rcases e3 with k | k | k
      · exfalso
        rcases ok.own _ (PySem.mem_of_lookup k) (.inl rfl) with h | h
        · obtain ⟨p, hp, hpy⟩ := List.mem_map.mp h
          have h3 := ok.ix p hp
          have : p.1 = y := hpy
          rw [this] at h3
          exact hne (List.mem_map.mpr ⟨p, hp, nodup_ix hN h3 e1⟩)
        · exact h (List.mem_of_getElem? e1)
      · exact absurd rfl (nocell _ (PySem.mem_of_lookup k))
      · exact k
    obtain ⟨c, h1, h2⟩ := freeHas hfr
    have hvis : Vis X.env.scope y := (ok.free _ (PySem.mem_of_lookup hfr) rfl).elim (fun k => .inr (.inl k)) (fun k => .inr (.inr k))
    obtain ⟨m, hn, hl⟩ := I.loc
    obtain ⟨u, r, q⟩ := hl i y v e1 e2 hvis
    refine ⟨u, r, .inr ⟨.inr (by show ce.scope.names.lookup y = _; rw [hsc]; exact hfr), ?_⟩⟩
    rcases q with ⟨k, _⟩ | ⟨_, d, hd, z⟩
    · have k : X.env.scope.names.lookup y = some .local := k
      rcases ok.free _ (PySem.mem_of_lookup hfr) rfl with k' | k' <;> rw [show X.env.scope.names.lookup y = _ from k'] at k <;> cases k
    · rw [h2] at hd
      cases hd
      exact ⟨c, h1, z.keeps kp⟩
  case cell =>
    intro y c e
    obtain ⟨v, z⟩ := I.cell y c (look e).1
    exact ⟨v, z.keeps kp⟩
  case free =>
    show H ce.locals = none
    rw [hL]
    exact I.hok.fresh (Nat.le_refl _)
/-- while the generator sleeps, its consumer writes at cw alone -/
structure Doz (cw : List Addr) (s s' : Shared) : Prop where
  os : s'.os = s.os
  bare : AllBare s'.gens
  keep : ∀ b o, b ∉ cw → s.heap.get? b = some o → s'.heap.get? b = some o
  there : ∀ b ∈ cw, ∃ o, s'.heap.get? b = some o ∧ ∀ v, o.data ≠ .cell v
/-- what stands at cw is left alone by a turn -/
def KeptAt (cw : List Addr) (s₀ s : Shared) : Prop := ∀ b ∈ cw, ∀ o, s₀.heap.get? b = some o → s.heap.get? b = some o
/-- what a consumer does with an item: the items so far, the item, the heap, and what the generator wants to go on -/
abbrev Cy := List V → V → Hp → (List V → Hp → Prop) → Prop
/-- how the items so far show in what the consumer keeps at cw -/
structure Lnk (cw : List Addr) (Lk : List V → Heap → Prop) : Prop where
  st : ∀ ys h h', Lk ys h → (∀ b ∈ cw, ∀ o, h.get? b = some o → h'.get? b = some o) → Lk ys h'
def GYld (Y : Cx) (gp : List (Addr × Obj)) (cw : List Addr) (Lk : List V → Heap → Prop) (cy : Cy) : Protocol := fun _ s₀ v s kap =>
  ∃ (ys : List V) (y : V) (σ : L2.St) (H : Hp) (Nx : List V → Hp → Prop), Inv Y gp σ H s ∧ RelV y v ∧ KeptAt cw s₀ s ∧ (∀ b ∈ cw, H b = none) ∧ Lk ys s.heap ∧ cy ys y H Nx ∧ ∀ ys', Nx ys' H → ∀ s', Doz cw s s' → Lk ys' s'.heap → kap (.send .none) s'
def GFin (Y : Cx) (gp : List (Addr × Obj)) (cw : List Addr) (Lk : List V → Heap → Prop) (Qe : List V → Hp → Prop) : GenEnd := fun _ s₀ r s =>
  r = .ok .next ∧ ∃ (ys : List V) (σ : L2.St) (H : Hp), Inv Y gp σ H s ∧ KeptAt cw s₀ s ∧ (∀ b ∈ cw, H b = none) ∧ Lk ys s.heap ∧ Qe ys H
/-- the turns of a generator expression: W by the turn, a measure and the items so far -/
def Turns (J : It) (g : TG) (tt : TT) (te : TE) (vs : List Nat) (σ : L2.St) (cy : Cy) (Qe : List V → Hp → Prop) (W : Nat → Nat → List V → Hp → Prop) : Prop :=
  ∀ i m ys H, W i m ys H → (J.stop i H ∧ Qe ys H) ∨ (J.go i H ∧ 0 < m ∧ ∃ Nx : List V → Hp → Prop, (∀ ys' H', Nx ys' H' → ∃ m', m' < m ∧ W (i + 1) m' ys' H') ∧
    ∀ x H', J.yld i H x H' → g x (wipe σ vs) H' fun σ2 H2 => wipe σ2 vs = wipe σ vs ∧ tt σ2 H2 fun b H3 => if b = true then te σ2 H3 fun y H4 => cy ys y H4 Nx else Nx ys H3)
/-- the iterator's and the consumer's objects in the generator's frame -/
structure GPlace (Y : Cx) (gp : List (Addr × Obj)) (fp cw : List Addr) : Prop where
  fx : ∀ b ∈ fp, b ∈ Y.ex ∧ b ≠ Y.env.locals ∧ b ∉ Y.fs ∧ (∀ x c, Y.env.cells.lookup x = some c → c ≠ b) ∧ (∀ p ∈ Y.pn ++ gp, p.1 ≠ b) ∧ b ∉ cw
  cx : ∀ b ∈ cw, Y.s_0.heap.objs.size ≤ b ∧ b ≠ Y.env.locals ∧ b ∉ Y.fs ∧ (∀ x c, Y.env.cells.lookup x = some c → c ≠ b) ∧ ∀ p ∈ Y.pn ++ gp, p.1 ≠ b
theorem GPlace.fpOk {Y : Cx} {gp : List (Addr × Obj)} {fp cw : List Addr} (G : GPlace Y gp fp cw) {s₀ : Shared} {H : Hp} (n : ∀ b ∈ fp, H b = none) : ∀ b ∈ fp, FpOk Y (gp ++ pinsAt cw s₀.heap) H b := fun b hb => by
  obtain ⟨h1, h2, h3, h4, h5, h6⟩ := G.fx b hb
  refine ⟨n b hb, h2, h3, .inl h1, h4, fun p hp => ?_⟩
  rw [← List.append_assoc] at hp
  rcases List.mem_append.mp hp with hp | hp
  · exact h5 p hp
  · intro z
    have h7 := (of_pinsAt hp).1
    rw [z] at h7
    exact h6 h7
/-- the consumer's objects are pinned as they stand -/
theorem GPlace.pin {Y : Cx} {gp : List (Addr × Obj)} {fp cw : List Addr} (G : GPlace Y gp fp cw) {σ : L2.St} {H : Hp} {s : Shared} (I : Inv Y gp σ H s) (n : ∀ b ∈ cw, H b = none) (t : ∀ b ∈ cw, ∃ o, s.heap.get? b = some o ∧ ∀ v, o.data ≠ .cell v) :
    Inv Y (gp ++ pinsAt cw s.heap) σ H s :=
  I.pinned (fun b hb => let ⟨h1, h2, h3, h4, h5⟩ := G.cx b hb; ⟨n b hb, h2, h3, .inr h1, h4, h5⟩) t
theorem kept_of {Y : Cx} {gp pl : List (Addr × Obj)} {cw : List Addr} {σ : L2.St} {H : Hp} {s₀ s : Shared} (I : Inv Y ((gp ++ pinsAt cw s₀.heap) ++ pl) σ H s) : KeptAt cw s₀ s := fun b hb o e =>
  (I.pin (b, o) (List.mem_append_right _ (List.mem_append_left _ (List.mem_append_right _ (mem_pinsAt hb e))))).1
/-- asleep: only cw is written -/
theorem GPlace.doz {Y : Cx} {gp : List (Addr × Obj)} {fp cw : List Addr} (G : GPlace Y gp fp cw) {σ : L2.St} {H : Hp} {s s' : Shared} (I : Inv Y gp σ H s) (n : ∀ b ∈ cw, H b = none) (z : Doz cw s s') : Inv Y gp σ H s' := by
  obtain ⟨z1, z2, z3, _⟩ := z
  have nt : ∀ b u, H b = some u → b ∉ cw := fun b u q hb => by
    rw [n b hb] at q
    cases q
  obtain ⟨hh, g, d, t, o⟩ := s'
  have ho : o = s.os := z1
  subst ho
  refine I.step (g' := g) (t' := t) (d' := d) (ch := cw) (fun b hb => ?_) (fun b ob _ _ hc q _ => z3 b ob hc q) (fun b ob _ _ hc q _ => ⟨ob.slots, z3 b ob hc q⟩) (fun _ _ _ _ k => k) (fun b ob hc q => ⟨ob, z3 b ob hc q⟩) (fun _ _ q => q) (fun _ _ _ q => q)
    (fun b ps q => ⟨#[], by rw [q]; simp⟩) (fun m hm => ?_) (fun b u q => ?_) z2
  · obtain ⟨h1, h2, h3, h4, h5⟩ := G.cx b hb
    exact ⟨.inr h1, h2, h4, h5⟩
  · obtain ⟨ob, es, ep, ho, r⟩ := hm
    exact ⟨ob, es, ep, z3 _ ob (fun hb => (G.cx _ hb).2.1 rfl) ho, r⟩
  · refine (I.hok b u q).stay (fun c v hc y => z3 c v ?_ y) (fun _ y => y) fun _ _ y => y
    rcases hc with y | y
    · rw [y]
      exact nt b u q
    · exact nt c _ y
section
variable {Y : Cx} {Aw : Around} {elt tg iter : Expr} {ifs : List Expr} {scope : Scope} {pos : Pos} {it : Addr} {fp cw : List Addr} {gp : List (Addr × Obj)} {tn : Nat → Heap → Prop} {J : It} {g : TG} {tt : TT} {te : TE} {vs : List Nat} {σ : L2.St} {cy : Cy} {Qe : List V → Hp → Prop} {Lk : List V → Heap → Prop}
  {W : Nat → Nat → List V → Hp → Prop}
abbrev gxE (elt tg iter : Expr) (ifs : List Expr) (scope : Scope) (pos : Pos) : Expr := .GeneratorExp elt [⟨tg, iter, ifs, 0⟩] scope pos
theorem gx_loop (hA : Aw.over (.compLoop (gxE elt tg iter ifs scope pos) 0 (.ref it) .none Y.env) [] = Y.A) (hx : Y.xe = fun _ _ => False) (hco : Y.env.scope.isCoroutine = false) (hc : Y.calm = true)
    (T : Turn Y.prog Y.w Y.K tg J fp it tn) (pg : PG Y tg g) (pt : PTs Y ifs tt) (pe : PE Y elt te) (G : GPlace Y gp fp cw) (hLk : Lnk cw Lk) (hW : Turns J g tt te vs σ cy Qe W) :
    ∀ (m n i : Nat) (ys : List V) (s₀ s : Shared) (H : Hp), m ≤ n → Inv Y (gp ++ pinsAt cw s₀.heap) (wipe σ vs) H s → (∀ b ∈ cw, ∃ o, s₀.heap.get? b = some o) → Lk ys s₀.heap → tn i s.heap → (∀ b ∈ fp, H b = none) → W i m ys H →
      Seg (model Y.prog Y.w) Aw (GFin Y gp cw Lk Qe) (GYld Y gp cw Lk cy) n s₀ (.compLoop (gxE elt tg iter ifs scope pos) 0 (.ref it) .none Y.env) ((model Y.prog Y.w).den (.compLoop (gxE elt tg iter ifs scope pos) 0 (.ref it) .none Y.env)) [] s := by
  have cwn : ∀ {s₀ s : Shared} {pl : List (Addr × Obj)} {σ' : L2.St} {H : Hp}, (∀ b ∈ cw, ∃ o, s₀.heap.get? b = some o) → Inv Y ((gp ++ pinsAt cw s₀.heap) ++ pl) σ' H s → ∀ b ∈ cw, H b = none := fun {s₀ s pl σ' H} h I b hb => by
    obtain ⟨o, e⟩ := h b hb
    exact (I.pin (b, o) (List.mem_append_right _ (List.mem_append_left _ (List.mem_append_right _ (mem_pinsAt hb e))))).2.1
  have nil : ∀ {l : List (Addr × Obj)} {σ' : L2.St} {H : Hp} {s : Shared}, Inv Y l σ' H s → Inv Y (l ++ []) σ' H s := fun {l σ' H s} I => by
    rw [List.append_nil]
    exact I
  intro m
  induction m using Nat.strongRecOn with
  | ind m ih =>
    intro n i ys s₀ s H hmn I hcw lk st nf w
    have fk := G.fpOk (s₀ := s₀) nf
    show Seg _ _ _ _ _ _ _ ((compTurn (gxE elt tg iter ifs scope pos) 0 (.ref it) .none Y.env).onRaise (leaving Y.env)) [] s
    rw [compTurn_gen elt tg iter ifs scope pos, Sem.onRaise_eq_wrap]
    refine seg_bind_wrap (wpAny_standAt (seg_bind_wrap ?_))
    rw [hA]
    rcases hW i m ys H w with ⟨stop, q⟩ | ⟨go, m0, Nx, hNx, step⟩
    · refine thnF (T.done Y rfl rfl rfl hc i _ s _ H _ I fk st stop) fun r s6 ⟨hr, I6⟩ => ?_
      subst hr
      exact seg_end (.ok .next) ⟨rfl, ys, _, H, I6.unpinned, kept_of (nil I6), cwn hcw (nil I6), hLk.st _ _ _ lk (kept_of (nil I6)), q⟩
    · refine thnF (T.item Y rfl rfl rfl hc i _ s _ H _ I fk st go) fun r s6 ⟨u, hr, h6⟩ => ?_
      subst hr
      refine seg_bind_wrap ?_
      rw [hA]
      refine thnF h6 fun _ s7 ⟨x, H7, I7, r7, y7, st7, n7⟩ => ?_
      have I7' := I7.pinned (G.fpOk n7) (T.obj _ _ st7)
      have kfp : ∀ {s' : Shared} {σ' : L2.St} {H' : Hp}, Inv Y ((gp ++ pinsAt cw s₀.heap) ++ pinsAt fp s7.heap) σ' H' s' → ∀ b ∈ fp, (∀ o, s7.heap.get? b = some o → s'.heap.get? b = some o) ∧ H' b = none := fun {s' σ' H'} I' b hb => by
        obtain ⟨o, e, _⟩ := T.obj _ _ st7 b hb
        obtain ⟨z1, z2, _⟩ := I'.pin (b, o) (List.mem_append_right _ (List.mem_append_right _ (mem_pinsAt hb e)))
        refine ⟨fun o' e' => ?_, z2⟩
        rw [e] at e'
        cases e'
        exact z1
      have exF : ∀ {e : Value} {s' : Shared} {Z : Prop}, Y.xe e s' → Z := fun {e s' Z} h => by
        rw [hx] at h
        exact False.elim h
      refine seg_bind_wrap ?_
      rw [hA]
      refine wpAny_mono (pg.run _ s7 _ H7 x u _ I7' r7 (step x H7 y7)) (fun _ s8 ⟨σ8, H8, I8, hw8, q8⟩ => ?_) fun _ _ h => exF h
      refine seg_bind_wrap ?_
      rw [hA]
      refine wpAny_mono (pt.run _ s8 σ8 H8 _ I8 q8) (fun b s9 ⟨H9, I9, q9⟩ => ?_) fun _ _ h => exF h
      have hl : (wipe σ vs).length = σ8.length := by rw [← hw8, wipe_length]
      have weak : ∀ {l : List (Addr × Obj)} {H' : Hp} {s' : Shared}, Inv Y l σ8 H' s' → Inv Y l (wipe σ vs) H' s' := fun {l H' s'} I' => I'.weak hl fun j v e => by
        rw [← hw8] at e
        exact (wipe_some e).1
      cases b with
      | false =>
        rw [if_neg Bool.false_ne_true] at q9
        obtain ⟨m', hm, w'⟩ := hNx _ _ q9
        simp only [Bool.false_eq_true, if_false]
        exact seg_again rfl (ih m' hm n (i + 1) ys s₀ s9 H9 (by omega) (weak I9.unpinned) hcw lk (T.keep _ _ _ st7 fun b hb => (kfp I9 b hb).1) (fun b hb => (kfp I9 b hb).2) w')
      | true =>
        rw [if_pos rfl] at q9
        simp only [if_true]
        have hy : ∀ v, yieldOut Y.env v = yieldValue v := fun v => by
          unfold yieldOut
          rw [hco]
          rfl
        simp only [hy]
        rw [Sem.bind_eq_wrap', Sem.bind_eq_wrap', Sem.wrap_wrap, Sem.wrap_wrap]
        refine seg_wrap ?_
        rw [hA]
        refine wpAny_mono (pe.run _ s9 σ8 H9 _ I9 q9) (fun v s10 ⟨y, H10, I10, r10, q10⟩ => ?_) fun _ _ h => exF h
        obtain ⟨n', rfl⟩ : ∃ n', n = n' + 1 := ⟨n - 1, by omega⟩
        have Ig : Inv Y gp σ8 H10 s10 := I10.pins_of fun p hp => I10.pin p (List.mem_append_right _ (List.mem_append_left _ (List.mem_append_left _ hp)))
        refine seg_at (seg_yield rfl rfl rfl ⟨ys, y, σ8, H10, Nx, Ig, r10, kept_of I10, cwn hcw I10, hLk.st _ _ _ lk (kept_of I10), q10, fun ys' hys s' hz lk' => ?_⟩)
        obtain ⟨m', hm, w'⟩ := hNx ys' H10 hys
        have nc := cwn hcw I10
        have Iz := G.doz Ig nc hz
        refine seg_again rfl (ih m' hm n' (i + 1) ys' s' s' H10 (by omega) (weak (G.pin Iz nc hz.there)) (fun b hb => let ⟨o, e, _⟩ := hz.there b hb; ⟨o, e⟩) lk' (T.keep _ _ _ st7 fun b hb o e => ?_) (fun b hb => (kfp I10 b hb).2) w')
        exact hz.keep b o (G.fx b hb).2.2.2.2.2 ((kfp I10 b hb).1 o e)
end
section
variable {Y : Cx} {Aw : Around} {elt tg iter : Expr} {ifs : List Expr} {scope : Scope} {pos : Pos} {it : Addr} {fp cw : List Addr} {gp : List (Addr × Obj)} {tn : Nat → Heap → Prop} {J : It} {g : TG} {tt : TT} {te : TE} {vs : List Nat} {σ : L2.St} {cy : Cy} {Qe : List V → Hp → Prop} {Lk : List V → Heap → Prop}
  {W : Nat → Nat → List V → Hp → Prop}
theorem gx_first (hA : Aw.over (.compLoop (gxE elt tg iter ifs scope pos) 0 (.ref it) .none Y.env) [] = Y.A) (hx : Y.xe = fun _ _ => False) (hco : Y.env.scope.isCoroutine = false) (hc : Y.calm = true)
    (T : Turn Y.prog Y.w Y.K tg J fp it tn) (pg : PG Y tg g) (pt : PTs Y ifs tt) (pe : PE Y elt te) (G : GPlace Y gp fp cw) (hLk : Lnk cw Lk) (hW : Turns J g tt te vs σ cy Qe W)
    {m : Nat} {s : Shared} {H : Hp} (I : Inv Y gp (wipe σ vs) H s) (nc : ∀ b ∈ cw, H b = none) (hcw : ∀ b ∈ cw, ∃ o, s.heap.get? b = some o ∧ ∀ v, o.data ≠ .cell v) (lk : Lk [] s.heap) (st : tn 0 s.heap) (nf : ∀ b ∈ fp, H b = none) (w : W 0 m [] H) :
    Seg (model Y.prog Y.w) Aw (GFin Y gp cw Lk Qe) (GYld Y gp cw Lk cy) m s (.compStart (gxE elt tg iter ifs scope pos) 0 (.ref it) .none Y.env) ((model Y.prog Y.w).den (.compStart (gxE elt tg iter ifs scope pos) 0 (.ref it) .none Y.env)) [] s := by
  have go := gx_loop (pos := pos) hA hx hco hc T pg pt pe G hLk hW m m 0 [] s s H (Nat.le_refl _) (G.pin I nc hcw) (fun b hb => let ⟨o, e, _⟩ := hcw b hb; ⟨o, e⟩) lk st nf w
  show Seg _ _ _ _ _ _ _ ((compStart (gxE elt tg iter ifs scope pos) 0 (.ref it) .none Y.env).onRaise (leaving Y.env)) [] s
  unfold compStart
  rw [Sem.onRaise_eq_wrap]
  show Seg _ _ _ _ _ _ _ ((ask >>= _).wrap _ _ _ _) [] s
  refine seg_bind_wrap (wpAny_askSetting ?_)
  split
  · exact seg_again rfl go
  · have last := T.self (Aw.over (.compStart (gxE elt tg iter ifs scope pos) 0 (.ref it) .none Y.env) []) 0 s
    first
      | exact seg_bind_wrap (wpAny_rule (seg_bind_wrap (wpAny_standAt (seg_bind_wrap (last _ _ st (seg_again rfl go))))))
      | (refine seg_bind_wrap (wpAny_rule ?_); show Seg _ _ _ _ _ _ _ ((standAt iter.pos >>= _).wrap _ _ _ _) [] s; exact seg_bind_wrap (wpAny_standAt (seg_bind_wrap (last _ _ st (seg_again rfl go)))))
end
/-- a generator that was made in X's code: what stood then, its frame's objects, its own object -/
structure GMk (X : Cx) (pins : List (Addr × Obj)) (σ : L2.St) (sg : Shared) (Hg : Hp) (fp : List Addr) (a g : Addr) (go : Obj) : Prop where
  inv : Inv X pins σ Hg sg
  fx : ∀ b ∈ fp, FpOk X pins Hg b
  isGen : ∀ h : Heap, h.get? a = some go → h.IsGen a g
/-- it sleeps; ys is out, at most n more come -/
structure GRun (Y : Cx) (cw : List Addr) (Lk : List V → Heap → Prop) (cy : Cy) (Qe : List V → Hp → Prop) (a g : Addr) (go : Obj) (Aw : Around) (n : Nat) (ys : List V) (s : Shared) : Prop where
  here : s.heap.get? a = some go
  lim : s.heap.NoLimit
  run : ∃ gs, s.gens[g]? = some gs ∧ ∀ s', Doz cw s s' → Lk ys s'.heap → gs.Goes (model Y.prog Y.w) Aw (GFin Y [(a, go)] cw Lk Qe) (GYld Y [(a, go)] cw Lk cy) n (.send .none) s'
theorem Doz.turn {cw : List Addr} {s s' s'' : Shared} (x : Doz cw s s') (y : Doz cw s' s'') : Doz cw s s'' :=
  ⟨y.os.trans x.os, y.bare, fun b o hb e => y.keep b o hb (x.keep b o hb e), y.there⟩
theorem GRun.doz {Y : Cx} {cw : List Addr} {Lk : List V → Heap → Prop} {cy : Cy} {Qe : List V → Hp → Prop} {a g : Addr} {go : Obj} {Aw : Around} {n : Nat} {ys : List V} {s s' : Shared} (R : GRun Y cw Lk cy Qe a g go Aw n ys s) (z : Doz cw s s') (ha : a ∉ cw) (hs : cStatics ∉ cw) (hg : s'.gens = s.gens) :
    GRun Y cw Lk cy Qe a g go Aw n ys s' := by
  obtain ⟨h1, ⟨mc, hn, hnn⟩, gs, h3, h4⟩ := R
  exact ⟨z.keep _ _ ha h1, ⟨mc, hn.at' fun o e => z.keep _ o hs e, hnn⟩, gs, by rw [hg]; exact h3, fun s2 y lk => h4 s2 (z.turn y) lk⟩
section
variable {X : Cx} {pins : List (Addr × Obj)} {σ : L2.St} {sg : Shared} {Hg : Hp} {fp cw : List Addr} {a g : Addr} {go : Obj} {A A1 : Around} {ce : Env} {cy : Cy} {Qe : List V → Hp → Prop} {Lk : List V → Heap → Prop} {s : Shared} {E : Value → Shared → Prop}
/-- back in the consumer's frame -/
theorem GMk.back (M : GMk X pins σ sg Hg fp a g go) {σ' : L2.St} {H : Hp} {s1 s' : Shared} (I : Inv (gcx X A1 sg Hg ce fp) [(a, go)] σ' H s1) (ho : s'.os = s1.os) (kp : ∀ b o, s1.heap.get? b = some o → s'.heap.get? b = some o) (hb : AllBare s'.gens) : Inv X pins σ H s' :=
  M.inv.call' (ch := fp) (ho.trans I.os) (I.base.trans (Un.kept kp)) (I.hok.kept kp) hb fun b hb => ⟨(M.fx b hb).2.2.2.1, (M.fx b hb).2.1, (M.fx b hb).2.2.2.2.1, (M.fx b hb).2.2.2.2.2⟩
/-- what next(generator) gives -/
def GNext (X : Cx) (pins : List (Addr × Obj)) (σ : L2.St) (Y : Cx) (cw : List Addr) (Lk : List V → Heap → Prop) (cy : Cy) (Qe : List V → Hp → Prop) (a g : Addr) (go : Obj) (A : Around) (n : Nat) (s : Shared) (r : Option Value) (s' : Shared) : Prop :=
  KeptAt cw s s' ∧ match r with
  | none => ∃ ys H, Inv X pins σ H s' ∧ (∀ b ∈ cw, H b = none) ∧ Lk ys s'.heap ∧ Qe ys H
  | some v => ∃ ys y H Nx, Inv X pins σ H s' ∧ RelV y v ∧ (∀ b ∈ cw, H b = none) ∧ Lk ys s'.heap ∧ cy ys y H Nx ∧ ∀ ys', Nx ys' H → ∀ s2, Doz cw s' s2 → Lk ys' s2.heap → s2.gens = s'.gens → ∃ n', n = n' + 1 ∧ GRun Y cw Lk cy Qe a g go A n' ys' s2
theorem gx_next (M : GMk X pins σ sg Hg fp a g go) (hLk : Lnk cw Lk) (ha : a ∉ cw) (hs : cStatics ∉ cw) {n : Nat} {ys : List V} (hh : A.handled = none) (hd : A.depth < recursionLimit) (R : GRun (gcx X A1 sg Hg ce fp) cw Lk cy Qe a g go A.in1 n ys s) (hb : AllBare s.gens) (hcw : ∀ b ∈ cw, ∃ o, s.heap.get? b = some o ∧ ∀ v, o.data ≠ .cell v)
    (lk : Lk ys s.heap) : wpAny (model X.prog X.w) A (pyNext (.ref a)) (GNext X pins σ (gcx X A1 sg Hg ce fp) cw Lk cy Qe a g go A.in1 n s) E s := by
  obtain ⟨h1, h2, gs, h3, h4⟩ := R
  have hgl : g < s.gens.size := (Array.getElem?_eq_some_iff.mp h3).1
  have z0 : Doz cw s (s.setGen g .running) := ⟨rfl, allBare_setGen hb rfl, fun _ _ _ e => e, hcw⟩
  refine GenW.wpAny_gsz (n := g + 1) hgl ?_
  refine wpAny_pyNext_genexpQ (P := fun _ s₀ s1 => ∃ (ys : List V) (σ' : L2.St) (H : Hp), Inv (gcx X A1 sg Hg ce fp) [(a, go)] σ' H s1 ∧ KeptAt cw s₀ s1 ∧ (∀ b ∈ cw, H b = none) ∧ Lk ys s1.heap ∧ Qe ys H)
    hh h2 hd (M.isGen _ h1) h3 (h4 _ z0 lk) (fun v s1 gs' hbare hv => ?_) fun s1 hp h' hk => ?_
  · obtain ⟨ys1, y, σ', H, Nx, I, r, kc, nc, lk1, q, wake⟩ := hv
    intro hsz
    have hsz1 : g < s1.gens.size := by
      rw [GenW.setGen_size] at hsz
      exact hsz
    refine ⟨kc, ys1, y, H, Nx, M.back I rfl (fun _ _ e => e) (allBare_setGen I.bare hbare), r, nc, lk1, q, fun ys' hN s2 z lk2 hgs => ?_⟩
    have w2 := wake ys' hN s2 ⟨z.os, z.bare, z.keep, z.there⟩ lk2
    cases n with
    | zero => exact w2.elim
    | succ n' =>
      have R1 : GRun (gcx X A1 sg Hg ce fp) cw Lk cy Qe a g go A.in1 n' ys' (s1.setGen g gs') :=
        ⟨(I.pin (a, go) (List.mem_append_right _ (List.mem_singleton.mpr rfl))).1, I.nolimit, gs', setGen_at hsz1, fun s2 z lk2 => wake ys' hN s2 ⟨z.os, z.bare, z.keep, z.there⟩ lk2⟩
      exact ⟨n', rfl, R1.doz z ha hs hgs⟩
  · obtain ⟨ys1, σ', H, I, kc, nc, lk1, q⟩ := hp
    intro _
    refine ⟨fun b hb o e => hk _ _ (kc b hb o e), ys1, H, M.back I rfl hk (allBare_setGen I.bare rfl), nc, hLk.st _ _ _ lk1 fun b _ o e => hk b o e, q⟩
end
theorem over_gx {A : Around} {elt tg iter : Expr} {ifs : List Expr} {scope : Scope} {pos : Pos} {it : Addr} {ce : Env} : A.over (.compLoop (gxE elt tg iter ifs scope pos) 0 (.ref it) .none ce) [] = A.deeper ce := by
  first
    | rfl
    | (obtain ⟨hd, d, fr, gs, u⟩ := A; simp [Around.over, Around.deeper, marksOver, frameCount, unitsOf, envsOf, guardsOf, pushEnvs, pushGuards, Code.envs, Code.env?, Code.isFrame, Code.guards, Code.isGuard, Code.weight, Code.frames, Code.isCreation, Code.isCaller, Code.cUnits])
/-- the generator has been made and has not begun; at most m items come -/
structure GReady (X : Cx) (pins : List (Addr × Obj)) (σ : L2.St) (m : Nat) (cy : Cy) (Qe : List V → Hp → Prop) (a : Addr) (s : Shared) : Prop where
  ex : ∃ (g : Addr) (go : Obj) (sg : Shared) (Hg : Hp) (fp : List Addr) (ce : Env), GMk X pins σ sg Hg fp a g go ∧ Inv X pins σ Hg s ∧ s.heap.get? a = some go ∧ s.heap.NoLimit ∧
    ∀ (cw : List Addr) (Lk : List V → Heap → Prop) (A : Around) (s2 : Shared), Lnk cw Lk → A.handled = none → A.frames = some X.stack → A.depth ≤ X.A.depth + 1 → A.units ≤ X.A.units + 8 → (∀ b ∈ cw, s.heap.objs.size ≤ b) →
      (∀ b o, s.heap.get? b = some o → s2.heap.get? b = some o) → (∀ b ∈ cw, ∃ o, s2.heap.get? b = some o ∧ ∀ v, o.data ≠ .cell v) → s2.os = s.os → s2.gens = s.gens → Lk [] s2.heap →
      GRun (gcx X (A.deeper ce) sg Hg ce fp) cw Lk cy Qe a g go A m [] s2
section
variable {X : Cx} {pins : List (Addr × Obj)} {σ : L2.St} {H : Hp} {s : Shared} {c P : Addr} {elt iter tg : Expr} {ifs : List Expr} {scope : Scope} {gpos : Pos} {own : List (Str × Nat)} {wi : TI} {g : TG} {tt : TT} {te : TE} {k : Nat} {cy : Cy} {Qe : List V → Hp → Prop}
theorem gx_make (hr : Room (k + 1) X.A) (TB : LamX.TabB X.base X.mg c P) (hcode : X.env.code = .ref c) (hco : scope.isCoroutine = false) (ok : BlkOk X.N X.env.scope scope own) (hN : X.N.Nodup) (nocell : ∀ y ∈ scope.names, y.2 ≠ .cell)
    (h0 : scope.names.lookup (".0" : Str) = some NameKind.local) (hi : PI X tg iter wi)
    (pg : ∀ (A : Around) (s : Shared) (H : Hp) (C : Addr) (cl : List (Str × Addr)) (code : Value) (bi : Addr) (fp : List Addr), Room k A → PG (gcx X A s H (genEnv scope cl C code bi X.env) fp) tg g)
    (pt : ∀ (A : Around) (s : Shared) (H : Hp) (C : Addr) (cl : List (Str × Addr)) (code : Value) (bi : Addr) (fp : List Addr), Room k A → PTs (gcx X A s H (genEnv scope cl C code bi X.env) fp) ifs tt)
    (pe : ∀ (A : Around) (s : Shared) (H : Hp) (C : Addr) (cl : List (Str × Addr)) (code : Value) (bi : Addr) (fp : List Addr), Room k A → PE (gcx X A s H (genEnv scope cl C code bi X.env) fp) elt te)
    (hs : ∀ v, genFold iter X.env v = pure v) (I : Inv X pins σ H s)
    (h : wi σ H fun J H1 => GxR.TabG H1 P ∧ ∀ H2, GxR.Tabbed P H1 H2 → ∃ W m, W 0 m [] H2 ∧ Turns J g tt te (own.map (·.2)) σ cy Qe W) :
    wpAny (model X.prog X.w) X.A (eval (gxE elt tg iter ifs scope gpos) X.env) (fun u s' => ∃ a m, u = .ref a ∧ GReady X pins σ m cy Qe a s') X.xe s := by
  have hfree : ∀ y ∈ scope.names, y.2 = .free → ∃ c, X.env.cells.lookup y.1 = some c := fun y hy e => (ok.free y hy e).elim (fun z => I.ok.has _ (.inl z)) (fun z => I.ok.has _ (.inr z))
  refine wpAny_GeneratorExp_make hco (closure_ok hfree) nocell h0 ok.kind (by have := hr.dp; omega) ?_ hs
  refine thn (hi.run pins s σ H _ I h) fun xv s1 hx => thn hx fun itv s2 h2 => ?_
  obtain ⟨it, fp, tn, J, H2, rfl, I2, T, st2, f2, ⟨ps, hP, ht⟩, q⟩ := h2
  refine ⟨I2.nolimit, ?_⟩
  have hPs : s2.heap.get? P = some { cls := .none, data := .fields ps } := I2.hok P _ hP
  have cd : PySem.W.CodeHd s2.heap c P := TB.code.keeps fun b u e => I2.bk b u e
  have sz : ∀ b ∈ fp, b < s2.heap.objs.size := fun b hb => by
    obtain ⟨o, e, _⟩ := T.obj _ _ st2 b hb
    exact Heap.lt_size e
  have nP : ∀ b ∈ fp, b ≠ P := fun b hb z => by
    have := (f2 b hb).1
    rw [z, hP] at this
    cases this
  have cont : ∀ (code : Value) (h3 : Heap) (tk : Nat) (more : Array Value), Heap.ExtBut P s2.heap h3 → s2.heap.objs.size ≤ h3.objs.size → h3.get? P = some { cls := .none, data := .fields (ps ++ more) } → TriplesOk (ps ++ more).toList →
      wpAny (model X.prog X.w) X.A (builtinsFor X.env.globals X.env.builtins) (fun bi s4 => ∀ h', h'.Ns s4.heap.objs.size (fun y => if y = ".0" then some (.ref it) else none) → Heap.SameBut s4.heap.objs.size (s4.heap.push { cls := .type "frame", data := .dict #[] }) h' →
        ∃ a m, Value.ref h'.objs.size = .ref a ∧ GReady X pins σ m cy Qe a { s4 with
            gens := s4.gens.push (.fresh (.compStart (gxE elt tg iter ifs scope gpos) 0 (.ref it) .none (genEnv scope (cloFrom X.env.cells scope.names []) s4.heap.objs.size code bi X.env))),
            toks := s4.toks + 1 + 1 + 1,
            heap := h'.push { cls := .type "generator", data := .fields #[.int s4.gens.size 0, .str "<genexpr>" (s4.toks + 1), .str (X.env.qual ++ "<genexpr>") (s4.toks + 1 + 1)] } }) X.xe { s2 with heap := h3, toks := tk } := by
    intro code h3 tk more hx3 hsz hP3 ht3
    have kp3 : ∀ b o, b ≠ P → s2.heap.get? b = some o → h3.get? b = some o := fun b o hb e => hx3 b o hb e
    have I3 : Inv X pins σ (upd H2 P (.tbl (ps ++ more))) { s2 with heap := h3, toks := tk } := GxR.inv_tab (g' := s2.gens) (d' := s2.drawn) (t' := tk) I2 hP kp3 hP3 I2.bare
    obtain ⟨W, m, w0, hW⟩ := q (upd H2 P (.tbl (ps ++ more))) ⟨⟨_, upd_same, ht3⟩, fun b hb => upd_ne hb⟩
    have f3 : ∀ b ∈ fp, FpOk X pins (upd H2 P (.tbl (ps ++ more))) b := fun b hb => ⟨by rw [upd_ne (nP b hb)]; exact (f2 b hb).1, (f2 b hb).2⟩
    have st3 : tn 0 h3 := T.keep _ _ _ st2 fun b hb o e => kp3 b o (nP b hb) e
    have sz3 : ∀ b ∈ fp, b < h3.objs.size := fun b hb => Nat.lt_of_lt_of_le (sz b hb) hsz
    obtain ⟨bm, ob, e1, e2, e3, e4, e5, e6, e7, e8⟩ := TB.bm
    refine wpAny_builtinsFor (m := X.mg) (by rw [I3.ok.glob]; exact I3.mod.glob.keeps I3.bk) e1 e2 (I3.bk _ _ e5) e6 e7 e8 ?_
    generalize upd H2 P (.tbl (ps ++ more)) = H3 at I3 w0 f3 hW
    generalize hs3 : ({ s2 with heap := h3, toks := tk } : Shared) = s3 at I3 ⊢
    have e3h : s3.heap = h3 := by rw [← hs3]
    rw [← e3h] at st3 sz3
    intro h' hn' hb'
    have hsz' : h'.objs.size = s3.heap.objs.size + 1 := by rw [hb'.1, Heap.size_push]
    have kp' : ∀ b o, s3.heap.get? b = some o → h'.get? b = some o := fun b o e => hb'.extBut b o (Nat.ne_of_lt (Heap.lt_size e)) (Heap.get?_push_of_some _ e)
    refine ⟨_, m, rfl, ?_⟩
    generalize hgo : ({ cls := .type "generator", data := .fields #[.int s3.gens.size 0, .str "<genexpr>" (s3.toks + 1), .str (X.env.qual ++ "<genexpr>") (s3.toks + 1 + 1)] } : Obj) = go
    have isg : ∀ h : Heap, h.get? h'.objs.size = some go → h.IsGen h'.objs.size s3.gens.size := fun h e => ⟨go, _, _, e, by rw [← hgo], by rw [← hgo], by rw [← hgo]⟩
    have gnc : ∀ v, go.data ≠ .cell v := fun v z => by
      rw [← hgo] at z
      cases z
    have nf : go.data ≠ .freed := fun z => by
      rw [← hgo] at z
      cases z
    have hat : (h'.push go).get? h'.objs.size = some go := by
      rw [← hgo]
      exact Heap.get?_push_size _ rfl
    generalize hce : genEnv scope (cloFrom X.env.cells scope.names []) s3.heap.objs.size code builtinsNs X.env = ce
    have ce1 : ce.scope = scope := by rw [← hce]; rfl
    have ce2 : ce.locals = s3.heap.objs.size := by rw [← hce]; rfl
    have ce3 : ce.globals = mainGlobals := by rw [← hce]; exact I3.ok.glob
    have ce4 : ce.builtins = builtinsNs := by rw [← hce]; rfl
    have ce5 : ce.cells = cloFrom X.env.cells scope.names [] := by rw [← hce]; rfl
    have ce6 : ce.frame = some ce.locals := by rw [← hce]; rfl
    generalize hs5 : ({ s3 with gens := s3.gens.push (.fresh (.compStart (gxE elt tg iter ifs scope gpos) 0 (.ref it) .none ce)), toks := s3.toks + 1 + 1 + 1, heap := h'.push go } : Shared) = s5
    have h5 : s5.heap = h'.push go := by rw [← hs5]
    have g5 : s5.gens = s3.gens.push (.fresh (.compStart (gxE elt tg iter ifs scope gpos) 0 (.ref it) .none ce)) := by rw [← hs5]
    have o5 : s5.os = s3.os := by rw [← hs5]
    have kp5 : ∀ b o, s3.heap.get? b = some o → s5.heap.get? b = some o := fun b o e => by rw [h5]; exact Heap.get?_push_of_some _ (kp' b o e)
    have b5 : AllBare s5.gens := by rw [g5]; exact I3.bare.push rfl
    have M : GMk X pins σ s3 H3 fp h'.objs.size s3.gens.size go := ⟨I3, f3, isg⟩
    have lim5 : s5.heap.NoLimit := I3.nolimit.keeps kp5
    have I5 : Inv X pins σ H3 s5 := I3.call' (ch := []) o5 (Un.kept kp5) (I3.hok.kept kp5) b5 fun b z => by simp at z
    have at5 : s5.heap.get? h'.objs.size = some go := by rw [h5]; exact hat
    have sz5 : s5.heap.objs.size = s3.heap.objs.size + 2 := by rw [h5, Heap.size_push, hsz']
    refine ⟨⟨s3.gens.size, go, s3, H3, fp, ce, M, I5, at5, lim5, fun cw Lk A s6 hLk hh hfr hdp hun hcw kp6 tc os6 gs6 lk => ?_⟩⟩
    have kp36 : ∀ b o, s3.heap.get? b = some o → s6.heap.get? b = some o := fun b o e => kp6 b o (kp5 b o e)
    have hrA : Room k (A.deeper ce) := by
      refine ⟨hh, ?_, ?_⟩
      · have := hr.dp
        show A.depth + 1 + 3 * k + 5 < _
        omega
      · have := hr.un
        show A.units + 3 + 16 * k + 200 < _
        omega
    have nsC : s6.heap.Ns ce.locals (fun y => if y = ".0" then some (.ref it) else none) := by
      rw [ce2]
      exact (hn'.push go).keeps fun b o e => kp6 b o (by rw [h5]; exact e)
    have b6 : AllBare s6.gens := by rw [gs6]; exact b5
    have I6 : Inv (gcx X (A.deeper ce) s3 H3 ce fp) [] (wipe σ (own.map (·.2))) H3 s6 :=
      gcx_start I3 ok hN nocell (fun b hb => ⟨f3 b hb, sz3 b hb⟩) ce1 ce2 ce3 ce4 ce5 ce6 (Around.frames_deeper hfr) hh kp36 nsC (os6.trans o5) b6
    have young : ∀ b, s3.heap.objs.size < b → H3 b = none ∧ b ≠ ce.locals ∧ b ∉ frs X.stack ∧ (∀ x c, ce.cells.lookup x = some c → c ≠ b) := fun b hb => by
      refine ⟨I3.hok.fresh (Nat.le_of_lt hb), by rw [ce2]; exact Nat.ne_of_gt hb, fun z => ?_, fun x d e z => ?_⟩
      · rcases List.mem_cons.mp (I3.stkSub b z) with z | z
        · exact absurd (Nat.lt_trans (by rw [z]; exact I3.lt) hb) (Nat.lt_irrefl _)
        · exact I3.nofs (Nat.le_of_lt hb) z
      · obtain ⟨v, zc⟩ := I6.cell x d e
        rw [ce5] at e
        obtain ⟨u, zd⟩ := I3.cell x d (clo_look hfree e).1
        have := zd.lt
        rw [z] at this
        exact absurd (Nat.lt_trans this hb) (Nat.lt_irrefl _)
    have ga : s3.heap.objs.size < h'.objs.size := by rw [hsz']; exact Nat.lt_succ_self _
    have I6' : Inv (gcx X (A.deeper ce) s3 H3 ce fp) [(h'.objs.size, go)] (wipe σ (own.map (·.2))) H3 s6 := I6.pins_of fun p hp => by
      rw [List.mem_singleton.mp hp]
      obtain ⟨y1, y2, y3, _⟩ := young _ ga
      exact ⟨kp6 _ _ at5, y1, y2, y3, gnc⟩
    have cwlt : ∀ b ∈ cw, s3.heap.objs.size < b ∧ b ≠ h'.objs.size := fun b hb => by
      have h1 : s3.heap.objs.size + 2 ≤ b := by rw [← sz5]; exact hcw b hb
      refine ⟨Nat.lt_of_lt_of_le (Nat.lt_succ_of_lt (Nat.lt_succ_self _)) h1, fun z => ?_⟩
      rw [z, hsz'] at h1
      exact absurd (Nat.lt_of_succ_le h1) (Nat.lt_irrefl _)
    have G : GPlace (gcx X (A.deeper ce) s3 H3 ce fp) [(h'.objs.size, go)] fp cw := by
      refine ⟨fun b hb => ⟨hb, (I6.ok.exf b hb).1, I6.ok.exfs b hb, fun x d e => (I6.ok.exf b hb).2 x d e, fun p hp => ?_, fun z => ?_⟩, fun b hb => ?_⟩
      · rw [List.mem_singleton.mp (show p ∈ [(h'.objs.size, go)] from hp)]
        exact fun z => absurd (Nat.lt_trans (sz3 b hb) (by rw [← z]; exact ga)) (Nat.lt_irrefl _)
      · exact absurd (Nat.lt_trans (sz3 b hb) (cwlt b z).1) (Nat.lt_irrefl _)
      · obtain ⟨y1, y2, y3, y4⟩ := young b (cwlt b hb).1
        refine ⟨Nat.le_of_lt (cwlt b hb).1, y2, y3, y4, fun p hp => ?_⟩
        rw [List.mem_singleton.mp (show p ∈ [(h'.objs.size, go)] from hp)]
        exact (cwlt b hb).2.symm
    have nc : ∀ b ∈ cw, H3 b = none := fun b hb => (young b (cwlt b hb).1).1
    refine ⟨kp6 _ _ at5, lim5.keeps kp6, .fresh (.compStart (gxE elt tg iter ifs scope gpos) 0 (.ref it) .none ce), by rw [gs6, g5]; exact Array.getElem?_push_size .., fun s7 z lk7 => ⟨rfl, ?_⟩⟩
    have I7 := G.doz I6' nc z
    have st7 : tn 0 s7.heap := T.keep _ _ _ st3 fun b hb o e => z.keep b o (fun hc => absurd (Nat.lt_trans (sz3 b hb) (cwlt b hc).1) (Nat.lt_irrefl _)) (kp36 b o e)
    have pg' := pg (A.deeper ce) s3 H3 s3.heap.objs.size (cloFrom X.env.cells scope.names []) code builtinsNs fp hrA
    have pt' := pt (A.deeper ce) s3 H3 s3.heap.objs.size (cloFrom X.env.cells scope.names []) code builtinsNs fp hrA
    have pe' := pe (A.deeper ce) s3 H3 s3.heap.objs.size (cloFrom X.env.cells scope.names []) code builtinsNs fp hrA
    rw [hce] at pg' pt' pe'
    exact gx_first (Y := gcx X (A.deeper ce) s3 H3 ce fp) over_gx rfl (by show ce.scope.isCoroutine = false; rw [ce1]; exact hco) rfl T pg' pt' pe' G hLk hW I7 nc z.there lk7 st7 (fun b hb => (f3 b hb).1) w0
  cases hf : codeAmong gpos ps.toList with
  | none =>
    refine wpAny_genexprCodeX hcode (cd.code hPs ht) (cd.tab hPs) hf fun c' h' tk hx hge hlt hco' _ htab' _ => ?_
    obtain ⟨o1, vs, f1, tf, fl, tg, inF, tx, tt, op, _, _, _, _, _, _, _, _, _, htr, _⟩ := hco'
    exact cont _ h' tk _ hx (Nat.le_trans hge (Nat.le_of_lt hlt)) htab'.2 htr
  | some cv =>
    refine wpAny_genexprCode_hit hcode (cd.code hPs ht) hf ?_
    exact cont cv s2.heap s2.toks #[] (Heap.ExtBut.refl _ _) (Nat.le_refl _) (by rw [Array.append_empty]; exact hPs) (by rw [Array.append_empty]; exact ht)
end
end GXP
namespace GXP
open PySem PySem.Spec PyProof.Rows L2
/-! the consumers -/
/-- the list that the consumer fills -/
abbrev tmpL (acc : Array Value) (c : Nat) : Obj := { cls := .type "list", dict := none, data := .seq acc c, slots := #[] }
def LkT (S : Addr) (ys : List V) (h : Heap) : Prop := ∃ acc c, h.get? S = some (tmpL acc c) ∧ Vals ys acc.toList ∧ ys.length ≤ sizeLine
theorem lnkT (S : Addr) : Lnk [S] (LkT S) := ⟨fun _ _ _ ⟨acc, c, e, r⟩ k => ⟨acc, c, k S (List.mem_singleton.mpr rfl) _ e, r⟩⟩
def cyT : Cy := fun ys y H Nx => ys.length < sizeLine ∧ Nx (ys ++ [y]) H
theorem lnkN : Lnk [] (fun _ _ => True) := ⟨fun _ _ _ _ _ => trivial⟩
/-- all, any: b0 ends it -/
def cyB (b0 : Bool) (Qf : Hp → Prop) : Cy := fun ys y H Nx => ∃ b, y = .bl b ∧ if b = b0 then Qf H else Nx (ys ++ [y]) H
def sumV : List V → Int
  | [] => 0
  | .int z :: r => z + sumV r
  | _ :: r => sumV r
theorem sumV_snoc : ∀ (ys : List V) (z : Int), sumV (ys ++ [.int z]) = sumV ys + z
  | [], z => by simp [sumV]
  | y :: r, z => by
    have ih := sumV_snoc r z
    cases y <;> simp only [List.cons_append, sumV, ih] <;> omega
def LkS (S : Addr) (ys : List V) (h : Heap) : Prop := ∃ t c, h.get? S = some (tmpL #[.int (sumV ys) t] c)
theorem lnkS (S : Addr) : Lnk [S] (LkS S) := ⟨fun _ _ _ ⟨t, c, e⟩ k => ⟨t, c, k S (List.mem_singleton.mpr rfl) _ e⟩⟩
def cyS : Cy := fun ys y H Nx => ∃ z, y = .int z ∧ InLong z ∧ InLong (sumV ys + z) ∧ Nx (ys ++ [y]) H
section
variable {X : Cx} {pins : List (Addr × Obj)} {σ : L2.St} {sg : Shared} {Hg : Hp} {fp : List Addr} {a g S : Addr} {go : Obj} {A A1 : Around} {ce : Env} {Qe : List V → Hp → Prop} {R : Result → Shared → Prop}
theorem gx_drain (M : GMk X pins σ sg Hg fp a g go) (hh : A.handled = none) (hd : A.depth < recursionLimit) (hSa : a ∉ [S]) (hSc : cStatics ∉ [S]) {res : Value}
    (fin : ∀ (s' : Shared) (ys : List V) (H : Hp) (acc : Array Value) (c : Nat), Inv X pins σ H s' → H S = none → s'.heap.get? S = some (tmpL acc c) → Vals ys acc.toList → ys.length ≤ sizeLine → Qe ys H → R (.ok (.ret res)) s') :
    ∀ (n : Nat) (ys : List V) (s : Shared), GRun (gcx X A1 sg Hg ce fp) [S] (LkT S) cyT Qe a g go A.in1.in1 n ys s → LkT S ys s.heap → AllBare s.gens → codeAny (model X.prog X.w) A (.builtin "list.extend.loop" ⟨[.ref S, .ref a, res], []⟩) R s := by
  have E0 := F.entry_extend_loop
  intro n
  induction n with
  | zero =>
    intro ys s G lk hb
    obtain ⟨acc, c, eS, r, hz⟩ := id lk
    refine codeAny_builtin E0 ?_
    rw [Around.under_plainId F.plain_extend_loop]
    refine wpAny_bind (thnF (gx_next M (lnkT S) hSa hSc (A := A.in1) hh hd G hb (fun b hb => ?_) lk) fun r s1 hN => ?_)
    · rw [List.mem_singleton.mp hb]
      exact ⟨_, eS, fun v z => by cases z⟩
    · obtain ⟨kc, hN⟩ := hN
      cases r with
      | none =>
        obtain ⟨ys1, H1, I1, n1, ⟨acc1, c1, e1, r1, z1⟩, q1⟩ := hN
        exact wpAny_pure (fin s1 ys1 H1 acc1 c1 I1 (n1 S (List.mem_singleton.mpr rfl)) e1 r1 z1 q1)
      | some v =>
        obtain ⟨ys1, y, H1, Nx, I1, ry, n1, ⟨acc1, c1, e1, r1, z1⟩, ⟨hlt, hN1⟩, wake⟩ := hN
        have hs : acc1.size < sizeLine := by
          have := r1.length
          simp only [Array.length_toList] at this
          omega
        show wpAny _ A.in1 (updateSeq S (·.push v) >>= _) _ _ _
        refine wpAny_bind (wpAny_updateSeq e1 rfl ?_ (Nat.le_of_lt hs) (by show (acc1.push v).size ≤ sizeLine + 1; rw [Array.size_push]; omega))
        have o1 := Heap.get?_update_self (Obj.mapSeq (·.push v)) e1 rfl
        refine (wake (ys1 ++ [y]) hN1 { s1 with heap := s1.heap.update S (Obj.mapSeq (·.push v)) } ⟨rfl, I1.bare, fun b o hb e => ?_, fun b hb => ?_⟩ ⟨_, _, o1, ?_, ?_⟩ rfl).elim (fun n' h => (Nat.succ_ne_zero n' h.1.symm).elim)
        · exact (Heap.get?_update_other _ _ (fun z => hb (List.mem_singleton.mpr z.symm))).trans e
        · rw [List.mem_singleton.mp hb]
          exact ⟨_, o1, fun v z => by cases z⟩
        · rw [Array.toList_push]
          exact r1.append (.cons ry .nil)
        · rw [List.length_append]
          exact hlt
  | succ n ih =>
    intro ys s G lk hb
    obtain ⟨acc, c, eS, r, hz⟩ := id lk
    refine codeAny_builtin E0 ?_
    rw [Around.under_plainId F.plain_extend_loop]
    refine wpAny_bind (thnF (gx_next M (lnkT S) hSa hSc (A := A.in1) hh hd G hb (fun b hb => ?_) lk) fun r s1 hN => ?_)
    · rw [List.mem_singleton.mp hb]
      exact ⟨_, eS, fun v z => by cases z⟩
    · obtain ⟨kc, hN⟩ := hN
      cases r with
      | none =>
        obtain ⟨ys1, H1, I1, n1, ⟨acc1, c1, e1, r1, z1⟩, q1⟩ := hN
        exact wpAny_pure (fin s1 ys1 H1 acc1 c1 I1 (n1 S (List.mem_singleton.mpr rfl)) e1 r1 z1 q1)
      | some v =>
        obtain ⟨ys1, y, H1, Nx, I1, ry, n1, ⟨acc1, c1, e1, r1, z1⟩, ⟨hlt, hN1⟩, wake⟩ := hN
        have hs : acc1.size < sizeLine := by
          have := r1.length
          simp only [Array.length_toList] at this
          omega
        show wpAny _ A.in1 (updateSeq S (·.push v) >>= _) _ _ _
        refine wpAny_bind (wpAny_updateSeq e1 rfl (wpAny_pure ⟨plainId_quiet F.plain_extend_loop _, ?_⟩) (Nat.le_of_lt hs) (by show (acc1.push v).size ≤ sizeLine + 1; rw [Array.size_push]; omega))
        have o1 := Heap.get?_update_self (Obj.mapSeq (·.push v)) e1 rfl
        have lk2 : LkT S (ys1 ++ [y]) (s1.heap.update S (Obj.mapSeq (·.push v))) := ⟨_, _, o1, by rw [Array.toList_push]; exact r1.append (.cons ry .nil), by rw [List.length_append]; exact hlt⟩
        obtain ⟨n', hn, G'⟩ := wake (ys1 ++ [y]) hN1 { s1 with heap := s1.heap.update S (Obj.mapSeq (·.push v)) } ⟨rfl, I1.bare, fun b o hb e => (Heap.get?_update_other _ _ (fun z => hb (List.mem_singleton.mpr z.symm))).trans e, fun b hb => by
          rw [List.mem_singleton.mp hb]
          exact ⟨_, o1, fun v z => by cases z⟩⟩ lk2 rfl
        cases hn
        exact ih (ys1 ++ [y]) _ G' lk2 I1.bare
end
end GXP
namespace GXP
open PySem PySem.Spec PyProof.Rows L2
section
variable {X : Cx} {pins : List (Addr × Obj)} {σ : L2.St} {sg : Shared} {Hg : Hp} {fp : List Addr} {a g S : Addr} {go : Obj} {A A1 : Around} {ce : Env} {Qe : List V → Hp → Prop} {Qf : Hp → Prop} {R : Result → Shared → Prop}
theorem gx_all (M : GMk X pins σ sg Hg fp a g go) (hh : A.handled = none) (hd : A.depth < recursionLimit)
    (fin : ∀ (s' : Shared) (H : Hp) (b : Bool), Inv X pins σ H s' → (b = true → ∃ ys, Qe ys H) → (b = false → Qf H) → R (.ok (.ret (.bool b))) s') :
    ∀ (n : Nat) (ys : List V) (s : Shared), GRun (gcx X A1 sg Hg ce fp) [] (fun _ _ => True) (cyB false Qf) Qe a g go A.in1.in1 n ys s → AllBare s.gens → codeAny (model X.prog X.w) A (.builtin "all.loop" ⟨[.ref a], []⟩) R s := by
  have E0 := F.entry_all_loop
  intro n
  induction n with
  | zero =>
    intro ys s G hb
    refine codeAny_builtin E0 ?_
    rw [Around.under_plainId F.plain_all_loop]
    refine wpAny_bind (thnF (gx_next M lnkN (by simp) (by simp) (A := A.in1) hh hd G hb (fun b hb => by cases hb) trivial) fun r s1 ⟨_, hN⟩ => ?_)
    cases r with
    | none =>
      obtain ⟨ys1, H1, I1, _, _, q1⟩ := hN
      exact wpAny_bind (wpAny_rule (wpAny_pure (fin s1 H1 true I1 (fun _ => ⟨ys1, q1⟩) (fun z => by cases z))))
    | some v =>
      obtain ⟨ys1, y, H1, Nx, I1, ry, _, _, ⟨b, rfl, q⟩, wake⟩ := hN
      cases ry
      refine wpAny_bind (wpAny_holding (wpAny_truthy_bool (wpAny_bind (wpAny_letGo ?_))))
      cases b with
      | true =>
        rw [if_neg (by decide)] at q
        obtain ⟨n', h, _⟩ := wake _ q s1 ⟨rfl, I1.bare, fun _ _ _ e => e, fun b hb => by cases hb⟩ trivial rfl
        cases h
      | false =>
        rw [if_pos rfl] at q
        exact wpAny_bind (wpAny_rule (wpAny_pure (fin s1 H1 false I1 (fun z => by cases z) (fun _ => q))))
  | succ n ih =>
    intro ys s G hb
    refine codeAny_builtin E0 ?_
    rw [Around.under_plainId F.plain_all_loop]
    refine wpAny_bind (thnF (gx_next M lnkN (by simp) (by simp) (A := A.in1) hh hd G hb (fun b hb => by cases hb) trivial) fun r s1 ⟨_, hN⟩ => ?_)
    cases r with
    | none =>
      obtain ⟨ys1, H1, I1, _, _, q1⟩ := hN
      exact wpAny_bind (wpAny_rule (wpAny_pure (fin s1 H1 true I1 (fun _ => ⟨ys1, q1⟩) (fun z => by cases z))))
    | some v =>
      obtain ⟨ys1, y, H1, Nx, I1, ry, _, _, ⟨b, rfl, q⟩, wake⟩ := hN
      cases ry
      refine wpAny_bind (wpAny_holding (wpAny_truthy_bool (wpAny_bind (wpAny_letGo ?_))))
      cases b with
      | true =>
        rw [if_neg (by decide)] at q
        obtain ⟨n', h, G'⟩ := wake _ q s1 ⟨rfl, I1.bare, fun _ _ _ e => e, fun b hb => by cases hb⟩ trivial rfl
        cases h
        exact wpAny_pure ⟨plainId_quiet F.plain_all_loop _, ih _ s1 G' I1.bare⟩
      | false =>
        rw [if_pos rfl] at q
        exact wpAny_bind (wpAny_rule (wpAny_pure (fin s1 H1 false I1 (fun z => by cases z) (fun _ => q))))
theorem gx_any (M : GMk X pins σ sg Hg fp a g go) (hh : A.handled = none) (hd : A.depth < recursionLimit)
    (fin : ∀ (s' : Shared) (H : Hp) (b : Bool), Inv X pins σ H s' → (b = false → ∃ ys, Qe ys H) → (b = true → Qf H) → R (.ok (.ret (.bool b))) s') :
    ∀ (n : Nat) (ys : List V) (s : Shared), GRun (gcx X A1 sg Hg ce fp) [] (fun _ _ => True) (cyB true Qf) Qe a g go A.in1.in1 n ys s → AllBare s.gens → codeAny (model X.prog X.w) A (.builtin "any.loop" ⟨[.ref a], []⟩) R s := by
  have E0 := F.entry_any_loop
  intro n
  induction n with
  | zero =>
    intro ys s G hb
    refine codeAny_builtin E0 ?_
    rw [Around.under_plainId F.plain_any_loop]
    refine wpAny_bind (thnF (gx_next M lnkN (by simp) (by simp) (A := A.in1) hh hd G hb (fun b hb => by cases hb) trivial) fun r s1 ⟨_, hN⟩ => ?_)
    cases r with
    | none =>
      obtain ⟨ys1, H1, I1, _, _, q1⟩ := hN
      exact wpAny_bind (wpAny_rule (wpAny_pure (fin s1 H1 false I1 (fun _ => ⟨ys1, q1⟩) (fun z => by cases z))))
    | some v =>
      obtain ⟨ys1, y, H1, Nx, I1, ry, _, _, ⟨b, rfl, q⟩, wake⟩ := hN
      cases ry
      refine wpAny_bind (wpAny_holding (wpAny_truthy_bool (wpAny_bind (wpAny_letGo ?_))))
      cases b with
      | false =>
        rw [if_neg (by decide)] at q
        obtain ⟨n', h, _⟩ := wake _ q s1 ⟨rfl, I1.bare, fun _ _ _ e => e, fun b hb => by cases hb⟩ trivial rfl
        cases h
      | true =>
        rw [if_pos rfl] at q
        exact wpAny_bind (wpAny_rule (wpAny_pure (fin s1 H1 true I1 (fun z => by cases z) (fun _ => q))))
  | succ n ih =>
    intro ys s G hb
    refine codeAny_builtin E0 ?_
    rw [Around.under_plainId F.plain_any_loop]
    refine wpAny_bind (thnF (gx_next M lnkN (by simp) (by simp) (A := A.in1) hh hd G hb (fun b hb => by cases hb) trivial) fun r s1 ⟨_, hN⟩ => ?_)
    cases r with
    | none =>
      obtain ⟨ys1, H1, I1, _, _, q1⟩ := hN
      exact wpAny_bind (wpAny_rule (wpAny_pure (fin s1 H1 false I1 (fun _ => ⟨ys1, q1⟩) (fun z => by cases z))))
    | some v =>
      obtain ⟨ys1, y, H1, Nx, I1, ry, _, _, ⟨b, rfl, q⟩, wake⟩ := hN
      cases ry
      refine wpAny_bind (wpAny_holding (wpAny_truthy_bool (wpAny_bind (wpAny_letGo ?_))))
      cases b with
      | false =>
        rw [if_neg (by decide)] at q
        obtain ⟨n', h, G'⟩ := wake _ q s1 ⟨rfl, I1.bare, fun _ _ _ e => e, fun b hb => by cases hb⟩ trivial rfl
        cases h
        exact wpAny_pure ⟨plainId_quiet F.plain_any_loop _, ih _ s1 G' I1.bare⟩
      | true =>
        rw [if_pos rfl] at q
        exact wpAny_bind (wpAny_rule (wpAny_pure (fin s1 H1 true I1 (fun z => by cases z) (fun _ => q))))
theorem gx_sum (M : GMk X pins σ sg Hg fp a g go) (hh : A.handled = none) (hd : A.depth < recursionLimit) (hSa : a ∉ [S]) (hSc : cStatics ∉ [S])
    (fin : ∀ (s' : Shared) (ys : List V) (H : Hp) (t : Tok), Inv X pins σ H s' → H S = none → Qe ys H → R (.ok (.ret (.int (sumV ys) t))) s') :
    ∀ (n : Nat) (ys : List V) (s : Shared), GRun (gcx X A1 sg Hg ce fp) [S] (LkS S) cyS Qe a g go A.in1.in1 n ys s → LkS S ys s.heap → AllBare s.gens → codeAny (model X.prog X.w) A (.builtin "sum.loop" ⟨[.ref a, .ref S, rawInt 0, rawInt 0], []⟩) R s := by
  have E0 := F.entry_sum_loop
  have cwt : ∀ {ys : List V} {s : Shared}, LkS S ys s.heap → ∀ b ∈ [S], ∃ o, s.heap.get? b = some o ∧ ∀ v, o.data ≠ .cell v := fun {ys s} lk b hb => by
    obtain ⟨t, c, e⟩ := lk
    rw [List.mem_singleton.mp hb]
    exact ⟨_, e, fun v z => by cases z⟩
  have turn : ∀ (n : Nat) (ys : List V) (s : Shared), GRun (gcx X A1 sg Hg ce fp) [S] (LkS S) cyS Qe a g go A.in1.in1 n ys s → LkS S ys s.heap → AllBare s.gens →
      (∀ ys2 s2, (∃ n', n = n' + 1 ∧ GRun (gcx X A1 sg Hg ce fp) [S] (LkS S) cyS Qe a g go A.in1.in1 n' ys2 s2) → LkS S ys2 s2.heap → AllBare s2.gens → codeAny (model X.prog X.w) A (.builtin "sum.loop" ⟨[.ref a, .ref S, rawInt 0, rawInt 0], []⟩) R s2) →
      codeAny (model X.prog X.w) A (.builtin "sum.loop" ⟨[.ref a, .ref S, rawInt 0, rawInt 0], []⟩) R s := by
    intro n ys s G lk hb next
    obtain ⟨t, c, eS⟩ := id lk
    refine codeAny_builtin E0 ?_
    rw [Around.under_plainId F.plain_sum_loop]
    show wpAny _ A.in1 (seqItems? (.ref S) >>= _) _ _ s
    refine wpAny_bind (wpAny_seqItems eS rfl ?_)
    show wpAny _ A.in1 (tryCatch (pyNext (.ref a)) _ >>= _) _ _ s
    refine wpAny_bind (wpAny_tryCatch (thnF (gx_next M (lnkS S) hSa hSc (A := A.in1) hh hd G hb (cwt lk) lk) fun r s1 ⟨kc, hN⟩ => ?_))
    have eS1 := kc S (List.mem_singleton.mpr rfl) _ eS
    cases r with
    | none =>
      obtain ⟨ys1, H1, I1, n1, ⟨t1, c1, e1⟩, q1⟩ := hN
      have hd1 := congrArg Obj.data (Option.some.inj (eS1.symm.trans e1))
      simp only [Data.seq.injEq, Array.mk.injEq, List.cons.injEq, Value.int.injEq, and_true] at hd1
      rw [hd1.1.1]
      exact wpAny_pure (fin s1 ys1 H1 _ I1 (n1 S (List.mem_singleton.mpr rfl)) q1)
    | some v =>
      obtain ⟨ys1, y, H1, Nx, I1, ry, n1, ⟨t1, c1, e1⟩, ⟨z, rfl, ⟨f1, f2⟩, ⟨f3, f4⟩, hN1⟩, wake⟩ := hN
      obtain ⟨tz, rfl⟩ := ry
      have hd1 := congrArg Obj.data (Option.some.inj (eS1.symm.trans e1))
      simp only [Data.seq.injEq, Array.mk.injEq, List.cons.injEq, Value.int.injEq, and_true] at hd1
      rw [hd1.1.1]
      have hc : ((decide (-(2 ^ 63) ≤ z) && decide (z < 2 ^ 63)) && (decide (-(2 ^ 63) ≤ sumV ys1 + z) && decide (sumV ys1 + z < 2 ^ 63))) = true := by
        simp only [Bool.and_eq_true, decide_eq_true_eq]
        exact ⟨⟨f1, f2⟩, f3, f4⟩
      show wpAny _ A.in1 (if (_ : Bool) = true then (mkInt (sumV ys1 + z) >>= _) else _) _ _ _
      split
      · refine wpAny_bind (wpAny_mkInt ?_)
        show wpAny _ A.in1 (updateSeq S (fun _ => #[.int (sumV ys1 + z) s1.toks]) >>= _) _ _ _
        have o1 := Heap.get?_update_self (Obj.mapSeq (fun _ => #[Value.int (sumV ys1 + z) s1.toks])) e1 rfl
        have lk2 : LkS S (ys1 ++ [.int z]) (s1.heap.update S (Obj.mapSeq (fun _ => #[Value.int (sumV ys1 + z) s1.toks]))) := ⟨s1.toks, _, by rw [sumV_snoc]; exact o1⟩
        refine wpAny_bind (wpAny_updateSeq e1 rfl (wpAny_pure ⟨plainId_quiet F.plain_sum_loop _, ?_⟩))
        refine next (ys1 ++ [.int z]) _ (wake _ hN1 { s1 with heap := s1.heap.update S (Obj.mapSeq (fun _ => #[Value.int (sumV ys1 + z) s1.toks])), toks := s1.toks + 1 } ⟨rfl, I1.bare, fun b o hb e => (Heap.get?_update_other _ _ (fun q => hb (List.mem_singleton.mpr q.symm))).trans e, cwt lk2⟩ lk2 rfl) lk2 I1.bare
      · rename_i hneg
        exact absurd hc hneg
  intro n
  induction n with
  | zero =>
    intro ys s G lk hb
    exact turn 0 ys s G lk hb fun ys2 s2 ⟨n', h, _⟩ => by cases h
  | succ n ih =>
    intro ys s G lk hb
    refine turn (n + 1) ys s G lk hb fun ys2 s2 ⟨n', h, G'⟩ lk2 hb2 => ?_
    cases h
    exact ih ys2 s2 G' lk2 hb2
end
end GXP
namespace GXP
open PySem PySem.Spec PyProof.Rows L2
section
variable {X : Cx} {pins : List (Addr × Obj)} {σ : L2.St} {a : Addr} {A : Around} {Qe : List V → Hp → Prop} {s : Shared} {m : Nat} {E : Value → Shared → Prop}
theorem gx_collect (hG : GReady X pins σ m cyT Qe a s) (hh : A.handled = none) (hf : A.frames = some X.stack) (hd : A.depth ≤ X.A.depth + 1) (hu : A.units + 2 ≤ X.A.units + 8) (hl : A.depth < recursionLimit) {Q : List Value → Shared → Prop}
    (hQ : ∀ (items : List Value) (s' : Shared) (ys : List V) (H : Hp), Inv X pins σ H s' → Vals ys items → ys.length ≤ sizeLine → Qe ys H → Q items s') : wpAny (model X.prog X.w) A (collect (.ref a)) Q E s := by
  obtain ⟨g, go, sg, Hg, fp, ce, M, I0, ha, lim, ready⟩ := hG.ex
  have hgen := fun (h : Heap) (e : h.get? a = some go) => M.isGen h e
  have hSa : s.heap.objs.size ≠ a := fun z => by
    have := Heap.lt_size ha
    rw [← z] at this
    exact Nat.lt_irrefl _ this
  have hSc : s.heap.objs.size ≠ cStatics := fun z => by
    obtain ⟨_, hn, _⟩ := lim
    have := hn.lt
    rw [← z] at this
    exact Nat.lt_irrefl _ this
  unfold collect
  refine wpAny_bind (wpAny_runValue (codeAny_builtin F.entry_proto_collect ?_))
  rw [Around.under_plainId F.plain_proto_collect]
  show wpAny _ A.in1 (newList [] >>= fun l => again (.builtin "list.__iadd__" ⟨[l, .ref a], []⟩)) _ _ s
  refine wpAny_bind (wpAny_newObj_type (wpAny_pure ⟨plainId_quiet F.plain_list_iadd _, codeAny_builtin F.entry_list_iadd ?_⟩))
  rw [Around.under_plainId F.plain_list_iadd]
  show wpAny _ A.in1 (Builtin.List.listExtendWith (.ref s.heap.objs.size) (.ref a) (.ref s.heap.objs.size)) _ _ _
  unfold Builtin.List.listExtendWith
  have k1 : ∀ b o, s.heap.get? b = some o → (s.heap.push { cls := .type "list", data := .seq ([] : List Value).toArray }).get? b = some o := fun b o e => Heap.get?_push_of_some _ e
  refine wpAny_bind (wpAny_typeOf (Heap.IsGen.typeIs (s := { s with heap := _ }) (hgen _ (k1 _ _ ha))) ?_)
  have q1 : Builtin.List.listSameRef (.ref s.heap.objs.size) (.ref a) = false := by simp [Builtin.List.listSameRef, hSa]
  have q2 : (Value.type "generator" == Value.type "list") = false := by decide
  have q3 : (Value.type "generator" == Value.type "tuple") = false := by decide
  simp only [q1, q2, q3, Bool.or_false, Bool.false_eq_true, if_false]
  refine wpAny_bind (wpAny_pyIter_gen (s := { s with heap := _ }) (hgen _ (k1 _ _ ha)) (wpAny_bind (wpAny_holding ?_)))
  unfold Builtin.List.listLengthHint
  refine wpAny_bind (wpAny_specialOf (Heap.IsGen.typeIs (s := { s with heap := _ }) (hgen _ (k1 _ _ ha))) F.gen_no_len ?_)
  show wpAny _ A.in1 (specialOf (Value.ref a) (Str.ofString "__length_hint__") >>= _) _ _ _
  refine wpAny_bind (wpAny_specialOf (Heap.IsGen.typeIs (s := { s with heap := _ }) (hgen _ (k1 _ _ ha))) F.gen_no_hint (wpAny_pure ?_))
  show wpAny _ A.in1 (rule "list.extend.makes-room" >>= fun _ => Builtin.List.listTouch (.ref s.heap.objs.size) >>= fun _ =>
    again (.builtin "list.extend.loop" ⟨[.ref s.heap.objs.size, .ref a, .ref s.heap.objs.size], []⟩)) _ _ _
  refine wpAny_bind (wpAny_rule (wpAny_bind ?_))
  have o1 : (s.heap.push { cls := .type "list", data := .seq ([] : List Value).toArray }).get? s.heap.objs.size = some { cls := .type "list", data := .seq ([] : List Value).toArray } := Heap.get?_push_size _ rfl
  show wpAny _ A.in1 (updateSeq s.heap.objs.size (·.push .none) >>= fun _ => updateSeq s.heap.objs.size (·.pop)) _ _ _
  refine wpAny_bind (wpAny_updateSeq o1 rfl ?_)
  have o2 := Heap.get?_update_self (Obj.mapSeq (·.push Value.none)) o1 rfl
  refine wpAny_updateSeq o2 rfl (wpAny_pure ⟨plainId_quiet F.plain_extend_loop _, ?_⟩)
  have o3 := Heap.get?_update_self (Obj.mapSeq (·.pop)) o2 rfl
  have k3 : ∀ b o, s.heap.get? b = some o → (((s.heap.push { cls := .type "list", data := .seq ([] : List Value).toArray }).update s.heap.objs.size (Obj.mapSeq (·.push Value.none))).update s.heap.objs.size (Obj.mapSeq (·.pop))).get? b = some o := fun b o e =>
    have hb : s.heap.objs.size ≠ b := fun z => Nat.lt_irrefl b (by have := Heap.lt_size e; rw [z] at this; exact this)
    (Heap.get?_update_other _ _ hb).trans ((Heap.get?_update_other _ _ hb).trans (k1 b o e))
  have lk0 : LkT s.heap.objs.size [] (((s.heap.push { cls := .type "list", data := .seq ([] : List Value).toArray }).update s.heap.objs.size (Obj.mapSeq (·.push Value.none))).update s.heap.objs.size (Obj.mapSeq (·.pop))) := ⟨_, _, o3, .nil, Nat.zero_le _⟩
  have G := ready [s.heap.objs.size] (LkT s.heap.objs.size) A.in1.in1 { s with heap := ((s.heap.push { cls := .type "list", data := .seq ([] : List Value).toArray }).update s.heap.objs.size (Obj.mapSeq (·.push Value.none))).update s.heap.objs.size (Obj.mapSeq (·.pop)) } (lnkT _) hh hf hd hu
    (fun b hb => by rw [List.mem_singleton.mp hb]; exact Nat.le_refl _) k3 (fun b hb => by rw [List.mem_singleton.mp hb]; exact ⟨_, o3, fun v z => by cases z⟩) rfl rfl lk0
  refine gx_drain M hh hl (fun hm => hSa (List.mem_singleton.mp hm).symm) (fun hm => hSc (List.mem_singleton.mp hm).symm) (fun s' ys H acc c I' n' e' r' z' q' => ?_) m [] _ G lk0 I0.bare
  show wpAny _ A (load s.heap.objs.size >>= _) _ _ s'
  exact wpAny_bind (wpAny_load e' (wpAny_pure (hQ acc.toList s' ys H I' r' z' q')))
theorem call_tuple_gx (hr : Room 1 X.A) (hf : X.A.frames = some X.stack) {Q : VK} (hG : GReady X pins σ m cyT (fun ys H => ∀ p, H p = none → Q (.ref p) (upd H p (.tup ys))) a s) :
    wpAny (model X.prog X.w) X.A (call (.type "tuple") [.ref a]) (EP X pins σ Q) E s := by
  obtain ⟨g, go, sg, Hg, fp, ce, M, I0, ha, lim, ready⟩ := id hG.ex
  have hTI : s.TypeIs (.ref a) "generator" := (M.isGen _ ha).typeIs
  refine callType_codes (Q₁ := fun obj s1 => s1.TypeIs obj "tuple" ∧ EP X pins σ Q obj s1) F.called_tuple (F.typeCall_tuple_1 _) F.entry_object_init (codeAny_of_tree ?_) fun obj s1 h1 =>
    ⟨h1.1, F.args_object_init_2 obj _, object_init_meets F.called_tuple.init.lookup F.called_tuple.made (by decide) X.prog X.w X.A.in1 _ s1 ⟨h1.1, rfl, h1.2⟩⟩
  show wpAny _ X.A.in1.in1 (do checkBuiltinCall "tuple.__new__" ⟨[.type "tuple", .ref a], []⟩; again (.builtin "tuple.__new__" ⟨[.type "tuple", .ref a], []⟩)) _ _ s
  refine wpAny_bind (wpAny_of_eq (F.newCall_tuple_1 _) (wpAny_pure ⟨plainId_quiet F.plain_tuple_new _, codeAny_builtin F.entry_tuple_new ?_⟩))
  rw [Around.under_plainId F.plain_tuple_new]
  have hsub := sub_tuple_self
  have hinit := init_tuple_lookup
  have hmh := madeHere_tuple
  have hr1 := hr.dp
  have hr2 := hr.hd
  have col := fun (Q : List Value → Shared → Prop) (E : Value → Shared → Prop) hQ => gx_collect (A := X.A.in1.in1) (E := E) (Q := Q) hG hr2 hf (Nat.le_succ _) (by show X.A.units + 1 + 1 + 2 ≤ _; omega) (by show X.A.depth < _; omega) hQ
  wp_walk using wpAny_typeOf hTI, col
  intro items s' ys H I' r' z' q'
  show wpAny _ _ (Builtin.Tuple.tupleExact items.toArray >>= fun v => ret v) _ _ _
  unfold Builtin.Tuple.tupleExact
  refine wpAny_bind (wpAny_newObj_type (wpAny_pure ?_) ?_)
  · have hn : H s'.heap.objs.size = none := I'.hok.fresh (Nat.le_refl _)
    refine ⟨⟨_, Heap.get?_push_size _ rfl, rfl⟩, .ref s'.heap.objs.size, _, I'.laid (t' := s'.toks) (o := .tup ys) (fun b o e => Heap.get?_push_of_some _ e) (Nat.le_refl _) ⟨z', items, r', ?_⟩, rfl, q' _ hn⟩
    exact ⟨_, Heap.get?_push_size _ rfl, rfl, 0, rfl⟩
  · show items.toArray.size ≤ sizeLine
    rw [List.size_toArray, ← r'.length]
    exact z'
theorem call_all_gx (hr : Room 1 X.A) (hf : X.A.frames = some X.stack) {Q : VK} (hG : GReady X pins σ m (cyB false (Q (.bl false))) (fun _ H => Q (.bl true) H) a s) :
    wpAny (model X.prog X.w) X.A (call (.builtin "all") [.ref a]) (EP X pins σ Q) E s := by
  obtain ⟨g, go, sg, Hg, fp, ce, M, I0, ha, lim, ready⟩ := id hG.ex
  have hr1 := hr.dp
  refine call_function_tree F.kind_all F.plain_all F.entry_all (F.args_all1 _) ?_
  unfold Builtin.«all»
  refine wpAny_bind (m := oneArg "all" _) (wpAny_pure (wpAny_bind (wpAny_pyIter_gen (M.isGen _ ha) (wpAny_pure ⟨plainId_quiet F.plain_all_loop _, ?_⟩))))
  have G := ready [] (fun _ _ => True) X.A.in1.in1 s lnkN hr.hd hf (Nat.le_succ _) (by show X.A.units + 1 + 1 ≤ _; omega) (fun b hb => by cases hb) (fun _ _ e => e) (fun b hb => by cases hb) rfl rfl trivial
  refine gx_all M hr.hd (by omega) (fun s' H b I' h1 h2 => ?_) m [] s G I0.bare
  cases b with
  | true =>
    obtain ⟨_, q⟩ := h1 rfl
    exact ⟨.bl true, H, I', rfl, q⟩
  | false => exact ⟨.bl false, H, I', rfl, h2 rfl⟩
theorem call_any_gx (hr : Room 1 X.A) (hf : X.A.frames = some X.stack) {Q : VK} (hG : GReady X pins σ m (cyB true (Q (.bl true))) (fun _ H => Q (.bl false) H) a s) :
    wpAny (model X.prog X.w) X.A (call (.builtin "any") [.ref a]) (EP X pins σ Q) E s := by
  obtain ⟨g, go, sg, Hg, fp, ce, M, I0, ha, lim, ready⟩ := id hG.ex
  have hr1 := hr.dp
  refine call_function_tree F.kind_any F.plain_any F.entry_any (F.args_any1 _) ?_
  unfold Builtin.«any»
  refine wpAny_bind (m := oneArg "any" _) (wpAny_pure (wpAny_bind (wpAny_pyIter_gen (M.isGen _ ha) (wpAny_pure ⟨plainId_quiet F.plain_any_loop _, ?_⟩))))
  have G := ready [] (fun _ _ => True) X.A.in1.in1 s lnkN hr.hd hf (Nat.le_succ _) (by show X.A.units + 1 + 1 ≤ _; omega) (fun b hb => by cases hb) (fun _ _ e => e) (fun b hb => by cases hb) rfl rfl trivial
  refine gx_any M hr.hd (by omega) (fun s' H b I' h1 h2 => ?_) m [] s G I0.bare
  cases b with
  | false =>
    obtain ⟨_, q⟩ := h1 rfl
    exact ⟨.bl false, H, I', rfl, q⟩
  | true => exact ⟨.bl true, H, I', rfl, h2 rfl⟩
theorem call_sum_gx (hr : Room 1 X.A) (hf : X.A.frames = some X.stack) {Q : VK} (hG : GReady X pins σ m cyS (fun ys H => Q (.int (sumV ys)) H) a s) :
    wpAny (model X.prog X.w) X.A (call (.builtin "sum") [.ref a]) (EP X pins σ Q) E s := by
  obtain ⟨g, go, sg, Hg, fp, ce, M, I0, ha, lim, ready⟩ := id hG.ex
  have hr1 := hr.dp
  have hSa : s.heap.objs.size ≠ a := fun z => by
    have := Heap.lt_size ha
    rw [← z] at this
    exact Nat.lt_irrefl _ this
  have hSc : s.heap.objs.size ≠ cStatics := fun z => by
    obtain ⟨_, hn, _⟩ := lim
    have := hn.lt
    rw [← z] at this
    exact Nat.lt_irrefl _ this
  refine call_function_tree F.kind_sum F.plain_sum F.entry_sum (F.args_sum1 _) ?_
  unfold Builtin.«sum»
  simp only [List.length_cons, List.length_nil]; rw [if_neg (by decide)]
  refine wpAny_bind (wpAny_of_eq (show Builtin.Builtins.bindParams "sum" ["start"] 0 { } = pure [none] from rfl) (wpAny_bind (wpAny_pyIter_gen (M.isGen _ ha) (wpAny_bind (wpAny_mkInt (wpAny_bind (wpAny_pure ?_)))))))
  simp only [List.forIn_cons, List.forIn_nil]; refine wpAny_bind (wpAny_bind (wpAny_bind (wpAny_isInstance (T := "int") (b := false) (typeIs_int _ _ _) PySem.sub_int_str ?_)))
  simp only [Bool.false_eq_true, if_false]; refine wpAny_pure (wpAny_bind (wpAny_bind (wpAny_isInstance (T := "int") (b := false) (typeIs_int _ _ _) sub_int_bytes ?_)))
  simp only [Bool.false_eq_true, if_false]; refine wpAny_pure (wpAny_bind (wpAny_bind (wpAny_isInstance (T := "int") (b := false) (typeIs_int _ _ _) sub_int_bytearray ?_)))
  simp only [Bool.false_eq_true, if_false]; refine wpAny_pure (wpAny_pure (wpAny_bind (wpAny_newObj_type (wpAny_pure ⟨plainId_quiet F.plain_sum_loop _, ?_⟩))))
  have o1 : (s.heap.push { cls := .type "list", data := .seq ([.int 0 s.toks] : List Value).toArray }).get? s.heap.objs.size = some { cls := .type "list", data := .seq ([.int 0 s.toks] : List Value).toArray } := Heap.get?_push_size _ rfl
  have lk0 : LkS s.heap.objs.size [] (s.heap.push { cls := .type "list", data := .seq ([.int 0 s.toks] : List Value).toArray }) := ⟨s.toks, 0, o1⟩
  have G := ready [s.heap.objs.size] (LkS s.heap.objs.size) X.A.in1.in1 { s with heap := s.heap.push { cls := .type "list", data := .seq ([.int 0 s.toks] : List Value).toArray }, toks := s.toks + 1 } (lnkS _) hr.hd hf (Nat.le_succ _) (by show X.A.units + 1 + 1 ≤ _; omega)
    (fun b hb => by rw [List.mem_singleton.mp hb]; exact Nat.le_refl _) (fun b o e => Heap.get?_push_of_some _ e) (fun b hb => by rw [List.mem_singleton.mp hb]; exact ⟨_, o1, fun v z => by cases z⟩) rfl rfl lk0
  refine gx_sum M hr.hd (by omega) (fun hm => hSa (List.mem_singleton.mp hm).symm) (fun hm => hSc (List.mem_singleton.mp hm).symm) (fun s' ys H t I' n' q' => ?_) m [] _ G lk0 I0.bare
  exact ⟨.int (sumV ys), H, I', ⟨t, rfl⟩, q'⟩
end
end GXP
namespace GXP
open PySem PySem.Spec PyProof.Rows L2
/-- F(elt for target in iter if ..): what its reading asks; P the table of the def's code object -/
def tGx (P : Addr) (wi : TI) (g : TG) (tt : TT) (te : TE) (vs : List Nat) (cy : VK → Cy) (Qe : VK → List V → Hp → Prop) : TE := fun σ H Q =>
  wi σ H fun J H1 => GxR.TabG H1 P ∧ ∀ H2, GxR.Tabbed P H1 H2 → ∃ W m, W 0 m [] H2 ∧ Turns J g tt te vs σ (cy Q) (Qe Q) W
section
variable {X : Cx} {c P : Addr} {elt iter tg : Expr} {ifs : List Expr} {scope : Scope} {p pos gpos : Pos} {own : List (Str × Nat)} {wi : TI} {g : TG} {tt : TT} {te : TE} {k : Nat}
/-- what is asked of the expression itself -/
structure GxOk (X : Cx) (k : Nat) (c P : Addr) (elt tg iter : Expr) (ifs : List Expr) (scope : Scope) (own : List (Str × Nat)) (wi : TI) (g : TG) (tt : TT) (te : TE) : Prop where
  hr : Room (k + 1) X.A
  hc : X.calm = true
  tb : LamX.TabB X.base X.mg c P
  code : X.env.code = .ref c
  co : scope.isCoroutine = false
  ok : BlkOk X.N X.env.scope scope own
  nd : X.N.Nodup
  nocell : ∀ y ∈ scope.names, y.2 ≠ .cell
  dot : scope.names.lookup (".0" : Str) = some NameKind.local
  pi : PI X tg iter wi
  pg : ∀ (A : Around) (s : Shared) (H : Hp) (C : Addr) (cl : List (Str × Addr)) (code : Value) (bi : Addr) (fp : List Addr), Room k A → PG (gcx X A s H (genEnv scope cl C code bi X.env) fp) tg g
  pt : ∀ (A : Around) (s : Shared) (H : Hp) (C : Addr) (cl : List (Str × Addr)) (code : Value) (bi : Addr) (fp : List Addr), Room k A → PTs (gcx X A s H (genEnv scope cl C code bi X.env) fp) ifs tt
  pe : ∀ (A : Around) (s : Shared) (H : Hp) (C : Addr) (cl : List (Str × Addr)) (code : Value) (bi : Addr) (fp : List Addr), Room k A → PE (gcx X A s H (genEnv scope cl C code bi X.env) fp) elt te
  fold : ∀ v, genFold iter X.env v = pure v
theorem GxOk.make (G : GxOk X k c P elt tg iter ifs scope own wi g tt te) {cy : Cy} {Qe : List V → Hp → Prop} {pins : List (Addr × Obj)} {s : Shared} {σ : L2.St} {H : Hp} (I : Inv X pins σ H s)
    (h : wi σ H fun J H1 => GxR.TabG H1 P ∧ ∀ H2, GxR.Tabbed P H1 H2 → ∃ W m, W 0 m [] H2 ∧ Turns J g tt te (own.map (·.2)) σ cy Qe W) :
    wpAny (model X.prog X.w) X.A (eval (gxE elt tg iter ifs scope gpos) X.env) (fun u s' => ∃ a m, u = .ref a ∧ GReady X pins σ m cy Qe a s') X.xe s :=
  gx_make G.hr G.tb G.code G.co G.ok G.nd G.nocell G.dot G.pi G.pg G.pt G.pe G.fold I h
theorem pe_tupleGx (hg : Gl X "tuple") (hm : X.mg "tuple" = none) (G : GxOk X k c P elt tg iter ifs scope own wi g tt te)
    (he : starEach [gxE elt tg iter ifs scope gpos] X.env = (false, eval (gxE elt tg iter ifs scope gpos) X.env) :: starEach [] X.env := by rfl) :
    PE X (.Call (.Name "tuple" p) [gxE elt tg iter ifs scope gpos] [] pos) (tGx P wi g tt te (own.map (·.2)) (fun _ => cyT) fun Q ys H => ∀ p, H p = none → Q (.ref p) (upd H p (.tup ys))) := by
  refine ⟨fun pins s σ H Q I h => ?_⟩
  refine wpAny_Call_Name_kw (ld_blt I hg hm (by decide +kernel : bootBuiltins "tuple" = some (.type "tuple")) (PyProof.Rows.callWith_type1 ?_ he (by rfl)))
  rw [he]
  show wpAny _ _ (spliced ((false, eval (gxE elt tg iter ifs scope gpos) X.env) :: backTo pos (starEach [] X.env))) _ _ s
  exact Calls.spliced_cons (thn (G.make I h) fun u s1 ⟨a, m, e, hG⟩ => e ▸ Calls.spliced_nil (call_tuple_gx (G.hr.mono (by omega)) I.ok.frames hG))
theorem pe_allGx (hg : Gl X "all") (hm : X.mg "all" = none) (G : GxOk X k c P elt tg iter ifs scope own wi g tt te)
    (he : starEach [gxE elt tg iter ifs scope gpos] X.env = (false, eval (gxE elt tg iter ifs scope gpos) X.env) :: starEach [] X.env := by rfl) :
    PE X (.Call (.Name "all" p) [gxE elt tg iter ifs scope gpos] [] pos) (tGx P wi g tt te (own.map (·.2)) (fun Q => cyB false (Q (.bl false))) fun Q _ H => Q (.bl true) H) := by
  refine ⟨fun pins s σ H Q I h => ?_⟩
  refine wpAny_Call_Name_kw (ld_blt I hg hm (by decide +kernel : bootBuiltins "all" = some (.builtin "all")) (PyProof.Rows.callWith_builtin1 ?_ he (by rfl)))
  rw [he]
  show wpAny _ _ (spliced ((false, eval (gxE elt tg iter ifs scope gpos) X.env) :: backTo pos (starEach [] X.env))) _ _ s
  exact Calls.spliced_cons (thn (G.make I h) fun u s1 ⟨a, m, e, hG⟩ => e ▸ Calls.spliced_nil (call_all_gx (G.hr.mono (by omega)) I.ok.frames hG))
theorem pe_anyGx (hg : Gl X "any") (hm : X.mg "any" = none) (G : GxOk X k c P elt tg iter ifs scope own wi g tt te)
    (he : starEach [gxE elt tg iter ifs scope gpos] X.env = (false, eval (gxE elt tg iter ifs scope gpos) X.env) :: starEach [] X.env := by rfl) :
    PE X (.Call (.Name "any" p) [gxE elt tg iter ifs scope gpos] [] pos) (tGx P wi g tt te (own.map (·.2)) (fun Q => cyB true (Q (.bl true))) fun Q _ H => Q (.bl false) H) := by
  refine ⟨fun pins s σ H Q I h => ?_⟩
  refine wpAny_Call_Name_kw (ld_blt I hg hm (by decide +kernel : bootBuiltins "any" = some (.builtin "any")) (PyProof.Rows.callWith_builtin1 ?_ he (by rfl)))
  rw [he]
  show wpAny _ _ (spliced ((false, eval (gxE elt tg iter ifs scope gpos) X.env) :: backTo pos (starEach [] X.env))) _ _ s
  exact Calls.spliced_cons (thn (G.make I h) fun u s1 ⟨a, m, e, hG⟩ => e ▸ Calls.spliced_nil (call_any_gx (G.hr.mono (by omega)) I.ok.frames hG))
theorem pe_sumGx (hg : Gl X "sum") (hm : X.mg "sum" = none) (G : GxOk X k c P elt tg iter ifs scope own wi g tt te)
    (he : starEach [gxE elt tg iter ifs scope gpos] X.env = (false, eval (gxE elt tg iter ifs scope gpos) X.env) :: starEach [] X.env := by rfl) :
    PE X (.Call (.Name "sum" p) [gxE elt tg iter ifs scope gpos] [] pos) (tGx P wi g tt te (own.map (·.2)) (fun _ => cyS) fun Q ys H => Q (.int (sumV ys)) H) := by
  refine ⟨fun pins s σ H Q I h => ?_⟩
  refine wpAny_Call_Name_kw (ld_blt I hg hm (by decide +kernel : bootBuiltins "sum" = some (.builtin "sum")) (PyProof.Rows.callWith_builtin1 ?_ he (by rfl)))
  rw [he]
  show wpAny _ _ (spliced ((false, eval (gxE elt tg iter ifs scope gpos) X.env) :: backTo pos (starEach [] X.env))) _ _ s
  exact Calls.spliced_cons (thn (G.make I h) fun u s1 ⟨a, m, e, hG⟩ => e ▸ Calls.spliced_nil (call_sum_gx (G.hr.mono (by omega)) I.ok.frames hG))
end
/-! readings over a list, a tuple, a range: an invariant by the turn, the items so far, the heap -/
section
variable {K : PySem.W.Frag} {a : Addr} {xs : List V} {g : TG} {tt : TT} {te : TE} {vs : List Nat} {σ : L2.St} {cy : Cy} {Qe : List V → Hp → Prop} {H0 : Hp}
theorem gx_tup (Pv : Nat → List V → Hp → Prop) (h0 : Pv 0 [] H0) (hl : ∀ i ys H, i ≤ xs.length → Pv i ys H → SqT K H a xs)
    (hs : ∀ i x ys H, xs[i]? = some x → Pv i ys H → g x (wipe σ vs) H fun σ2 H2 => wipe σ2 vs = wipe σ vs ∧ tt σ2 H2 fun b H3 => if b = true then te σ2 H3 fun y H4 => cy ys y H4 (Pv (i + 1)) else Pv (i + 1) ys H3)
    (hd : ∀ ys H, Pv xs.length ys H → Qe ys H) : ∃ W m, W 0 m [] H0 ∧ Turns (Itt K a) g tt te vs σ cy Qe W := by
  refine ⟨fun i m ys H => m = xs.length - i ∧ i ≤ xs.length ∧ Pv i ys H, xs.length, ⟨rfl, Nat.zero_le _, h0⟩, ?_⟩
  rintro i m ys H ⟨rfl, hi, p⟩
  have q := hl i ys H hi p
  by_cases hlt : i < xs.length
  · refine .inr ⟨⟨xs, _, q, List.getElem?_eq_getElem hlt⟩, by omega, Pv (i + 1), fun ys' H' p' => ⟨_, by omega, rfl, hlt, p'⟩, fun x H' y => ?_⟩
    obtain ⟨rfl, y⟩ := y
    exact hs i x ys _ (y xs q) p
  · have e : i = xs.length := by omega
    subst e
    exact .inl ⟨⟨xs, q, Nat.le_refl _⟩, hd ys H p⟩
theorem gx_list (Pv : Nat → List V → Hp → Prop) (h0 : Pv 0 [] H0) (hl : ∀ i ys H, i ≤ xs.length → Pv i ys H → SqL K H a xs)
    (hs : ∀ i x ys H, xs[i]? = some x → Pv i ys H → g x (wipe σ vs) H fun σ2 H2 => wipe σ2 vs = wipe σ vs ∧ tt σ2 H2 fun b H3 => if b = true then te σ2 H3 fun y H4 => cy ys y H4 (Pv (i + 1)) else Pv (i + 1) ys H3)
    (hd : ∀ ys H, Pv xs.length ys H → Qe ys H) : ∃ W m, W 0 m [] H0 ∧ Turns (Itl K a) g tt te vs σ cy Qe W := by
  refine ⟨fun i m ys H => m = xs.length - i ∧ i ≤ xs.length ∧ Pv i ys H, xs.length, ⟨rfl, Nat.zero_le _, h0⟩, ?_⟩
  rintro i m ys H ⟨rfl, hi, p⟩
  have q := hl i ys H hi p
  by_cases hlt : i < xs.length
  · refine .inr ⟨⟨xs, _, q, List.getElem?_eq_getElem hlt⟩, by omega, Pv (i + 1), fun ys' H' p' => ⟨_, by omega, rfl, hlt, p'⟩, fun x H' y => ?_⟩
    obtain ⟨rfl, y⟩ := y
    exact hs i x ys _ (y xs q) p
  · have e : i = xs.length := by omega
    subst e
    exact .inl ⟨⟨xs, q, Nat.le_refl _⟩, hd ys H p⟩
theorem gx_range {lo : Int} {n : Nat} (Pv : Nat → List V → Hp → Prop) (h0 : Pv 0 [] H0)
    (hs : ∀ i ys H, i < n → Pv i ys H → g (.int (lo + i)) (wipe σ vs) H fun σ2 H2 => wipe σ2 vs = wipe σ vs ∧ tt σ2 H2 fun b H3 => if b = true then te σ2 H3 fun y H4 => cy ys y H4 (Pv (i + 1)) else Pv (i + 1) ys H3)
    (hd : ∀ ys H, Pv n ys H → Qe ys H) : ∃ W m, W 0 m [] H0 ∧ Turns (Itr lo n) g tt te vs σ cy Qe W := by
  refine ⟨fun i m ys H => m = n - i ∧ i ≤ n ∧ Pv i ys H, n, ⟨rfl, Nat.zero_le _, h0⟩, ?_⟩
  rintro i m ys H ⟨rfl, hi, p⟩
  by_cases hlt : i < n
  · refine .inr ⟨hlt, by omega, Pv (i + 1), fun ys' H' p' => ⟨_, by omega, rfl, hlt, p'⟩, fun x H' y => ?_⟩
    obtain ⟨rfl, rfl⟩ := y
    exact hs i ys _ hlt p
  · have e : i = n := by omega
    subst e
    exact .inl ⟨Nat.le_refl _, hd ys H p⟩
end
end GXP
/-! ### sorted(d) of a dict whose keys are pairs of ints, any number of them -/
namespace SDT
open PySem PySem.Spec PyProof.Rows L2
def keyAt (H : Hp) (b : Addr) : Int × Int := match H b with
  | some (.tup [.int i, .int j]) => (i, j)
  | _ => (0, 0)
def keyOf (H : Hp) (v : Value) : Int × Int := match v with
  | .ref b => keyAt H b
  | _ => (0, 0)
theorem keyAt_of {H : Hp} {b : Addr} {i j : Int} (e : H b = some (.tup [.int i, .int j])) : keyAt H b = (i, j) := by
  unfold keyAt
  rw [e]
def pairKey (k : Int × Int) : List Key := [Sum.inl k.1, Sum.inl k.2]
/-- b holds the pair k -/
abbrev PairAt (H : Hp) (k : Int × Int) (b : Addr) : Prop := H b = some (.tup [.int k.1, .int k.2])
def rSortedDT : List V → Hp → VK → Prop := fun vs H Q => ∃ (d : Addr) (kvs : List (List Key × V)) (ks : List (Int × Int)), vs = [V.ref d] ∧ Rd H d (.dT kvs) ∧ kvs.map (·.1) = ks.map pairKey ∧
  ∀ (ys : List (Int × Int)) (bs : List Addr) (p : Addr), ys.Perm ks → ys.Pairwise (fun x y => SrtO.lexB y x = false) → Paired (PairAt H) ys bs → H p = none → Q (.ref p) (upd H p (.lst (bs.map V.ref)))
theorem paired_keys {H : Hp} : ∀ {kvs : List (List Key × V)} {xs : List (List Key × Addr × Value)} {ks : List (Int × Int)}, KT H kvs xs → kvs.map (·.1) = ks.map pairKey → (∀ x ∈ xs, ∃ k : Int × Int, PairAt H k x.2.1) ∧ xs.map (fun x => keyAt H x.2.1) = ks
  | _, _, [], .nil, _ => ⟨fun x m => absurd m List.not_mem_nil, rfl⟩
  | _, _, _ :: _, .nil, e => by cases e
  | _, _, [], .cons _ _, e => by cases e
  | _, _, k :: ks, .cons h t, e => by
    obtain ⟨e1, e2⟩ := List.cons.inj e
    obtain ⟨h1, h2, _⟩ := h
    dsimp only at e1
    rw [e1] at h2
    have q : PairAt H k _ := h2
    obtain ⟨r1, r2⟩ := paired_keys t e2
    refine ⟨fun x m => ?_, ?_⟩
    · rcases List.mem_cons.mp m with rfl | m
      · exact ⟨k, q⟩
      · exact r1 x m
    · rw [List.map_cons, keyAt_of q, r2]
theorem paired_of {H : Hp} : ∀ {bs : List Addr}, (∀ b ∈ bs, ∃ k : Int × Int, PairAt H k b) → Paired (PairAt H) (bs.map (keyAt H)) bs
  | [], _ => .nil
  | b :: bs, h => by
    refine .cons ?_ (paired_of fun x m => h x (List.mem_cons_of_mem _ m))
    obtain ⟨k, e⟩ := h b List.mem_cons_self
    rw [keyAt_of e]
    exact e
theorem refs_of : ∀ {us : List Value}, (∀ u ∈ us, ∃ a, u = Value.ref a) → ∃ bs : List Addr, us = bs.map Value.ref
  | [], _ => ⟨[], rfl⟩
  | u :: us, h => by
    obtain ⟨bs, e⟩ := refs_of (us := us) fun x m => h x (List.mem_cons_of_mem _ m)
    obtain ⟨a, e2⟩ := h u List.mem_cons_self
    exact ⟨a :: bs, by rw [e, e2]; rfl⟩
section
variable {X : Cx}
theorem cr_sortedDT (hc : X.calm = true) : CallR X (.builtin "sorted") rSortedDT := by
  intro pins s σ H xs us Q I r h
  obtain ⟨d, kvs, ks, rfl, hd, hks, q⟩ := h
  obtain ⟨u, rfl, rx⟩ := vals1 r
  cases rx
  obtain ⟨z, hs, ps, pr, o, es, ep, ho, hx, hdt, he, hn⟩ := (show ObjOk X.prog X.w H s.heap d (.dT kvs) from hd.ok I.hok)
  have l1 : es.size = ps.length := size_of_entries he
  have l2 : kvs.length = ps.length := Paired.length pr
  obtain ⟨pk, ek⟩ := paired_keys pr hks
  refine Calls.call_function_entry PyProof.Rows.kind_sorted PyProof.Rows.plain_sorted PyProof.Rows.entry_sorted (PyProof.Rows.args_sorted1 _) ?_
  unfold Builtin.«sorted»
  refine wpAny_bind (m := checkCount "sorted" 1 1 _) (wpAny_pure ?_)
  refine wpAny_bind (PySem.W.kdu_collect (A := X.A.in1) (kdl_raw hs hx hdt) (I.ok.hd hc) ho (by omega) fun h' tk acc hk it => ?_)
  have ea : acc.toList = ps.map fun x => Value.ref x.2.1 := by
    have hl : acc.toList.length = ps.length := by rw [Array.length_toList, it.1]; exact l1
    apply List.ext_getElem?
    intro j
    rw [List.getElem?_map]
    cases hj : acc.toList[j]? with
    | none =>
      have h1 := List.getElem?_eq_none_iff.mp hj
      rw [List.getElem?_eq_none (by omega)]
      all_goals rfl
    | some v =>
      obtain ⟨en, hen, hv⟩ := it.2 j v (by rw [← Array.getElem?_toList]; exact hj)
      have qe := entry_at he j
      rw [hen] at qe
      cases hb : ps[j]? with
      | none =>
        rw [hb] at qe
        exact nomatch (show some en = none from qe)
      | some b =>
        rw [hb] at qe
        have e2 : en = entryOfKey (tupleKind (mixKind X.prog X.w)) b := Option.some.inj qe
        rw [hv, e2]
        all_goals rfl
  have hal : acc.toList.length = ps.length := by rw [ea, List.length_map]
  have I1 : Inv X pins σ H { s with heap := h', toks := tk } := I.kept hk
  refine wpAny_bind (wpAny_newList ?_ (by rw [hal]; omega))
  have hoL : (h'.push (seqObj "list" acc.toList.toArray 0)).get? h'.objs.size = some (seqObj "list" acc.toList.toArray 0) := Heap.get?_push_size _ rfl
  show wpAny _ _ _ _ _ { s with heap := h'.push (seqObj "list" acc.toList.toArray 0), toks := tk }
  have pair : ∀ v ∈ acc.toList, Srt.IsPair (h'.push (seqObj "list" acc.toList.toArray 0)) v (keyOf H v).1 (keyOf H v).2 := fun v m => by
    rw [ea] at m
    obtain ⟨x, hm, rfl⟩ := List.mem_map.mp m
    obtain ⟨k, hk2⟩ := pk x hm
    obtain ⟨_, its2, r2, o2, ho2, hc2, n2, hd2⟩ := I1.hok _ _ hk2
    obtain ⟨u1, u2, rfl, ri, rj⟩ := vals2 r2
    obtain ⟨t1, rfl⟩ := ri
    obtain ⟨t2, rfl⟩ := rj
    have e : keyOf H (Value.ref x.2.1) = k := keyAt_of hk2
    rw [e]
    exact ⟨x.2.1, o2, t1, t2, n2, rfl, Heap.get?_push_of_some _ ho2, hc2, hd2⟩
  refine wpAny_bind (wpAny_holding (wpAny_call_entry PyProof.Rows.slot_list_sort ⟨_, hoL, rfl⟩ PyProof.Rows.entry_list_sort
    (SrtO.list_sort_ord (s := { s with heap := h'.push (seqObj "list" acc.toList.toArray 0), toks := tk }) (SrtO.swo_lex (keyOf H)) hoL (by rw [hal]; omega)
      (fun h2 => SrtO.pairs_sortableO (by omega) pair fun o1 e c => ?_) fun out h1 h2 => ⟨_, rfl, ?_⟩)
    (PyProof.Rows.args_list_sort _)))
  · have e' : some o1 = some (seqObj "list" acc.toList.toArray 0) := e.symm.trans hoL
    cases e'
    exact absurd (Value.type.inj c) (by decide)
  obtain ⟨e', he'⟩ := PyProof.Rows.sortedHeap_at (vs := acc.toList) (out := out.toArray) hoL
  have hm : ∀ u ∈ out, ∃ x ∈ ps, u = Value.ref x.2.1 := fun u hu => by
    have := h2.perm.mem_iff.mp hu
    rw [ea] at this
    obtain ⟨x, hx, e⟩ := List.mem_map.mp this
    exact ⟨x, hx, e.symm⟩
  obtain ⟨bs, rfl⟩ := refs_of (us := out) fun u hu => by
    obtain ⟨x, _, e⟩ := hm u hu
    exact ⟨_, e⟩
  have hb : ∀ b ∈ bs, ∃ k : Int × Int, PairAt H k b := fun b hb => by
    obtain ⟨x, hx, e⟩ := hm _ (List.mem_map.mpr ⟨b, hb, rfl⟩)
    cases e
    exact pk x hx
  have ev : (bs.map Value.ref).map (keyOf H) = bs.map (keyAt H) := by
    rw [List.map_map]
    rfl
  have hp : (bs.map (keyAt H)).Perm ks := by
    have := h2.perm.map (keyOf H)
    rw [ev, ea, List.map_map] at this
    rw [← ek]
    exact this
  have hsr : (bs.map (keyAt H)).Pairwise fun x y => SrtO.lexB y x = false := by
    rw [← ev]
    exact SrtO.srtd_map (f := keyOf H) (lt := SrtO.lexB) h1
  have hlen : (bs.map V.ref).length ≤ sizeLine := by
    have := h2.perm.length_eq
    rw [List.length_map] at this
    rw [List.length_map]
    omega
  refine wpAny_pure ⟨_, rfl, .ref h'.objs.size, upd H h'.objs.size (.lst (bs.map V.ref)), I1.laid (t' := tk) (fun b u e => ?_) (Nat.le_refl _)
    (show ObjOk X.prog X.w _ _ _ (.lst (bs.map V.ref)) from ⟨hlen, bs.map Value.ref, e', vals_refs bs, he'⟩), rfl, q _ bs _ hp hsr (paired_of hb) (I1.hok.fresh (Nat.le_refl _))⟩
  have hb : b < h'.objs.size := Heap.lt_size e
  rw [PyProof.Rows.sortedHeap_old (Nat.ne_of_lt hb) (by rw [size_push']; exact Nat.lt_succ_of_lt hb)]
  exact Heap.get?_push_of_some _ e
end
end SDT
namespace PM
/-- terms: the pair of exponents and the coefficient -/
abbrev Ex := Int × Int
abbrev Trm := Ex × Int
def ltE (p q : Ex) : Prop := p.1 < q.1 ∨ (p.1 = q.1 ∧ p.2 < q.2)
instance (p q : Ex) : Decidable (ltE p q) := by
  unfold ltE
  exact inferInstance
theorem ltE_trans {p q r : Ex} (h : ltE p q) (k : ltE q r) : ltE p r := by
  unfold ltE at *
  omega
theorem ltE_irr {p : Ex} : ¬ ltE p p := by
  unfold ltE
  omega
theorem ltE_ne {p q : Ex} (h : ltE p q) : p ≠ q := fun e => by
  subst e
  exact ltE_irr h
theorem ltE_or {p q : Ex} (h : ¬ ltE p q) (k : p ≠ q) : ltE q p := by
  unfold ltE at *
  have k : ¬ (p.1 = q.1 ∧ p.2 = q.2) := fun z => k (Prod.ext z.1 z.2)
  omega
/-- the value of a list of terms under a weighing of the exponents -/
def lin (f : Ex → Int) : List Trm → Int
  | [] => 0
  | t :: r => t.2 * f t.1 + lin f r
def Eqv (p q : List Trm) : Prop := ∀ f, lin f p = lin f q
theorem Eqv.refl (p : List Trm) : Eqv p p := fun _ => rfl
theorem Eqv.symm {p q : List Trm} (h : Eqv p q) : Eqv q p := fun f => (h f).symm
theorem Eqv.trans {p q r : List Trm} (h : Eqv p q) (k : Eqv q r) : Eqv p r := fun f => (h f).trans (k f)
theorem lin_append (f : Ex → Int) : ∀ p q : List Trm, lin f (p ++ q) = lin f p + lin f q
  | [], q => by simp [lin]
  | t :: r, q => by
    simp only [List.cons_append, lin, lin_append f r q]
    omega
theorem Eqv.append {p p' q q' : List Trm} (h : Eqv p p') (k : Eqv q q') : Eqv (p ++ q) (p' ++ q') := fun f => by
  rw [lin_append, lin_append, h f, k f]
theorem Eqv.perm {p q : List Trm} (h : p.Perm q) : Eqv p q := fun f => by
  induction h with
  | nil => rfl
  | cons x _ ih => simp only [lin, ih]
  | swap x y l =>
    simp only [lin]
    omega
  | trans _ _ a b => exact a.trans b
/-- strictly ascending, no coefficient 0 -/
def Canon (p : List Trm) : Prop := p.Pairwise (fun s t => ltE s.1 t.1) ∧ ∀ t ∈ p, t.2 ≠ 0
theorem lin_zero {f : Ex → Int} : ∀ {p : List Trm}, (∀ t ∈ p, f t.1 = 0) → lin f p = 0
  | [], _ => rfl
  | t :: r, h => by
    rw [lin, h t List.mem_cons_self, lin_zero (p := r) fun s hs => h s (List.mem_cons_of_mem _ hs)]
    simp
theorem canon_uniq : ∀ {p q : List Trm}, Canon p → Canon q → Eqv p q → p = q
  | [], [], _, _, _ => rfl
  | [], t :: r, _, hq, h => by
    exfalso
    have e := h fun x => if x = t.1 then 1 else 0
    have z : lin (fun x => if x = t.1 then (1 : Int) else 0) r = 0 := lin_zero fun s hs => if_neg (ltE_ne ((List.pairwise_cons.mp hq.1).1 s hs)).symm
    simp only [lin, z, if_pos] at e
    exact hq.2 t List.mem_cons_self (by omega)
  | t :: r, [], hp, _, h => by
    exfalso
    have e := h fun x => if x = t.1 then 1 else 0
    have z : lin (fun x => if x = t.1 then (1 : Int) else 0) r = 0 := lin_zero fun s hs => if_neg (ltE_ne ((List.pairwise_cons.mp hp.1).1 s hs)).symm
    simp only [lin, z, if_pos] at e
    exact hp.2 t List.mem_cons_self (by omega)
  | t :: r, u :: w, hp, hq, h => by
    have p1 := List.pairwise_cons.mp hp.1
    have q1 := List.pairwise_cons.mp hq.1
    have key : t.1 = u.1 := by
      by_cases e : t.1 = u.1
      · exact e
      · exfalso
        by_cases l : ltE t.1 u.1
        · have z1 : lin (fun x => if x = t.1 then (1 : Int) else 0) r = 0 := lin_zero fun s hs => if_neg (ltE_ne (p1.1 s hs)).symm
          have z2 : lin (fun x => if x = t.1 then (1 : Int) else 0) (u :: w) = 0 := lin_zero fun s hs => by
            refine if_neg (Ne.symm ?_)
            rcases List.mem_cons.mp hs with rfl | hs
            · exact e
            · exact ltE_ne (ltE_trans l (q1.1 s hs))
          have e2 := h fun x => if x = t.1 then 1 else 0
          rw [z2] at e2
          simp only [lin, z1, if_pos] at e2
          exact hp.2 t List.mem_cons_self (by omega)
        · have l := ltE_or l e
          have z1 : lin (fun x => if x = u.1 then (1 : Int) else 0) w = 0 := lin_zero fun s hs => if_neg (ltE_ne (q1.1 s hs)).symm
          have z2 : lin (fun x => if x = u.1 then (1 : Int) else 0) (t :: r) = 0 := lin_zero fun s hs => by
            refine if_neg (Ne.symm ?_)
            rcases List.mem_cons.mp hs with rfl | hs
            · exact Ne.symm e
            · exact ltE_ne (ltE_trans l (p1.1 s hs))
          have e2 := h fun x => if x = u.1 then 1 else 0
          rw [z2] at e2
          simp only [lin, z1, if_pos] at e2
          exact hq.2 u List.mem_cons_self (by omega)
    have z1 : lin (fun x => if x = t.1 then (1 : Int) else 0) r = 0 := lin_zero fun s hs => if_neg (ltE_ne (p1.1 s hs)).symm
    have z2 : lin (fun x => if x = t.1 then (1 : Int) else 0) w = 0 := lin_zero fun s hs => if_neg (by rw [key]; exact (ltE_ne (q1.1 s hs)).symm)
    have e2 := h fun x => if x = t.1 then 1 else 0
    simp only [lin, z1, z2] at e2
    simp only [if_true, if_pos key.symm] at e2
    have ec : t.2 = u.2 := by omega
    have et : t = u := Prod.ext key ec
    have er : Eqv r w := fun f => by
      have e3 := h f
      simp only [lin, et] at e3
      omega
    rw [et, canon_uniq ⟨p1.2, fun s hs => hp.2 s (List.mem_cons_of_mem _ hs)⟩ ⟨q1.2, fun s hs => hq.2 s (List.mem_cons_of_mem _ hs)⟩ er]
/-- a term put into a list in order -/
def ins (t : Trm) : List Trm → List Trm
  | [] => if t.2 = 0 then [] else [t]
  | u :: r => if ltE t.1 u.1 then (if t.2 = 0 then u :: r else t :: u :: r) else if t.1 = u.1 then (if t.2 + u.2 = 0 then r else (t.1, t.2 + u.2) :: r) else u :: ins t r
def canon (ts : List Trm) : List Trm := ts.foldr ins []
theorem lin_ins (f : Ex → Int) (t : Trm) : ∀ p : List Trm, lin f (ins t p) = t.2 * f t.1 + lin f p
  | [] => by
    unfold ins
    split
    · rename_i h
      rw [h]
      simp [lin]
    · simp [lin]
  | u :: r => by
    unfold ins
    split
    · split
      · rename_i h
        rw [h]
        simp
      · simp [lin]
    · split
      · rename_i e
        split
        · rename_i h
          simp only [lin]
          rw [← e]
          have : t.2 * f t.1 + u.2 * f t.1 = 0 := by
            rw [← Int.add_mul, h, Int.zero_mul]
          omega
        · simp only [lin]
          rw [← e, Int.add_mul]
          omega
      · simp only [lin, lin_ins f t r]
        omega
theorem eqv_canon (ts : List Trm) : Eqv (canon ts) ts := fun f => by
  induction ts with
  | nil => rfl
  | cons t r ih =>
    show lin f (ins t (canon r)) = _
    rw [lin_ins, ih]
    rfl
theorem mem_ins {t s : Trm} : ∀ {p : List Trm}, s ∈ ins t p → s.1 = t.1 ∨ s ∈ p
  | [], h => by
    unfold ins at h
    split at h
    · cases h
    · rw [List.mem_singleton] at h
      exact .inl (by rw [h])
  | u :: r, h => by
    unfold ins at h
    split at h
    · split at h
      · exact .inr h
      · rcases List.mem_cons.mp h with h | h
        · exact .inl (by rw [h])
        · exact .inr h
    · split at h
      · split at h
        · exact .inr (List.mem_cons_of_mem _ h)
        · rcases List.mem_cons.mp h with h | h
          · exact .inl (by rw [h])
          · exact .inr (List.mem_cons_of_mem _ h)
      · rcases List.mem_cons.mp h with h | h
        · exact .inr (h ▸ List.mem_cons_self)
        · rcases mem_ins h with h | h
          · exact .inl h
          · exact .inr (List.mem_cons_of_mem _ h)
theorem canon_ins {t : Trm} : ∀ {p : List Trm}, Canon p → Canon (ins t p)
  | [], _ => by
    unfold ins
    split
    · exact ⟨List.Pairwise.nil, fun s hs => by cases hs⟩
    · rename_i h
      exact ⟨List.pairwise_singleton _ _, fun s hs => by
        rw [List.mem_singleton] at hs
        rw [hs]
        exact h⟩
  | u :: r, hp => by
    have p1 := List.pairwise_cons.mp hp.1
    have tl : Canon r := ⟨p1.2, fun s hs => hp.2 s (List.mem_cons_of_mem _ hs)⟩
    unfold ins
    split
    · rename_i l
      split
      · exact hp
      · rename_i h
        refine ⟨List.pairwise_cons.mpr ⟨fun s hs => ?_, hp.1⟩, fun s hs => ?_⟩
        · rcases List.mem_cons.mp hs with rfl | hs
          · exact l
          · exact ltE_trans l (p1.1 s hs)
        · rcases List.mem_cons.mp hs with rfl | hs
          · exact h
          · exact hp.2 s hs
    · rename_i l
      split
      · rename_i e
        split
        · exact tl
        · rename_i h
          refine ⟨List.pairwise_cons.mpr ⟨fun s hs => ?_, p1.2⟩, fun s hs => ?_⟩
          · show ltE t.1 s.1
            rw [e]
            exact p1.1 s hs
          · rcases List.mem_cons.mp hs with rfl | hs
            · exact h
            · exact hp.2 s (List.mem_cons_of_mem _ hs)
      · rename_i e
        have ih := canon_ins (t := t) tl
        refine ⟨List.pairwise_cons.mpr ⟨fun s hs => ?_, ih.1⟩, fun s hs => ?_⟩
        · rcases mem_ins hs with h | h
          · rw [h]
            exact ltE_or l e
          · exact p1.1 s h
        · rcases List.mem_cons.mp hs with rfl | hs
          · exact hp.2 s List.mem_cons_self
          · exact ih.2 s hs
theorem canon_canon (ts : List Trm) : Canon (canon ts) := by
  induction ts with
  | nil => exact ⟨List.Pairwise.nil, fun s hs => by cases hs⟩
  | cons t r ih => exact canon_ins ih
theorem canon_of {p ts : List Trm} (h : Canon p) (e : Eqv p ts) : p = canon ts := canon_uniq h (canon_canon ts) (e.trans (eqv_canon ts).symm)
theorem canon_congr {p q : List Trm} (h : Eqv p q) : canon p = canon q := canon_uniq (canon_canon p) (canon_canon q) ((eqv_canon p).trans (h.trans (eqv_canon q).symm))
theorem canon_self {p : List Trm} (h : Canon p) : canon p = p := (canon_of h (Eqv.refl p)).symm
/-! products -/
def addE (p q : Ex) : Ex := (p.1 + q.1, p.2 + q.2)
def mulT (p q : List Trm) : List Trm := p.flatMap fun x => q.map fun y => (addE x.1 y.1, x.2 * y.2)
theorem lin_scale (f : Ex → Int) (x : Trm) : ∀ q : List Trm, lin f (q.map fun y => (addE x.1 y.1, x.2 * y.2)) = x.2 * lin (fun y => f (addE x.1 y)) q
  | [] => by simp [lin]
  | y :: r => by
    simp only [List.map_cons, lin, lin_scale f x r]
    rw [Int.mul_add, Int.mul_assoc]
theorem lin_mul (f : Ex → Int) (q : List Trm) : ∀ p : List Trm, lin f (mulT p q) = lin (fun x => lin (fun y => f (addE x y)) q) p
  | [] => rfl
  | x :: r => by
    show lin f ((q.map fun y => (addE x.1 y.1, x.2 * y.2)) ++ mulT r q) = _
    rw [lin_append, lin_scale, lin_mul f q r]
    rfl
theorem lin_congr {f g : Ex → Int} (h : ∀ x, f x = g x) (p : List Trm) : lin f p = lin g p := by
  rw [show f = g from funext h]
theorem lin_add (f g : Ex → Int) : ∀ p : List Trm, lin (fun x => f x + g x) p = lin f p + lin g p
  | [] => by simp [lin]
  | t :: r => by
    simp only [lin, lin_add f g r]
    rw [Int.mul_add]
    omega
theorem lin_smul (c : Int) (f : Ex → Int) : ∀ p : List Trm, lin (fun x => c * f x) p = c * lin f p
  | [] => by simp [lin]
  | t :: r => by
    simp only [lin, lin_smul c f r]
    rw [Int.mul_add, Int.mul_left_comm]
theorem lin_const0 : ∀ p : List Trm, lin (fun _ => 0) p = 0
  | [] => rfl
  | t :: r => by simp [lin, lin_const0 r]
theorem lin_swap (g : Ex → Ex → Int) (q : List Trm) : ∀ p : List Trm, lin (fun x => lin (fun y => g x y) q) p = lin (fun y => lin (fun x => g x y) p) q
  | [] => by simp only [lin, lin_const0]
  | t :: r => by
    simp only [lin]
    rw [lin_swap g q r, lin_add, lin_smul]
theorem Eqv.mul {p p' q q' : List Trm} (h : Eqv p p') (k : Eqv q q') : Eqv (mulT p q) (mulT p' q') := fun f => by
  rw [lin_mul, lin_mul, h, lin_congr fun x => k _]
theorem mul_comm (p q : List Trm) : Eqv (mulT p q) (mulT q p) := fun f => by
  rw [lin_mul, lin_mul, lin_swap]
  refine lin_congr (fun y => lin_congr (fun x => ?_) _) _
  unfold addE
  rw [Int.add_comm, Int.add_comm x.2]
theorem mul_assoc (p q r : List Trm) : Eqv (mulT (mulT p q) r) (mulT p (mulT q r)) := fun f => by
  rw [lin_mul, lin_mul, lin_mul]
  refine lin_congr (fun x => ?_) _
  rw [lin_mul]
  refine lin_congr (fun y => lin_congr (fun z => ?_) _) _
  unfold addE
  simp only [Int.add_assoc]
def one : List Trm := [((0, 0), 1)]
theorem one_mul (p : List Trm) : Eqv (mulT one p) p := fun f => by
  rw [lin_mul]
  show (1 : Int) * lin _ p + 0 = _
  rw [Int.one_mul, Int.add_zero]
  refine lin_congr (fun y => ?_) _
  unfold addE
  simp
/-- powers -/
def pw (p : List Trm) : Nat → List Trm
  | 0 => one
  | n + 1 => mulT (pw p n) p
theorem pw_add (p : List Trm) (i : Nat) : ∀ j, Eqv (mulT (pw p i) (pw p j)) (pw p (i + j))
  | 0 => (mul_comm _ _).trans (one_mul _)
  | j + 1 => (mul_assoc _ _ _).symm.trans (Eqv.mul (pw_add p i j) (Eqv.refl p))
theorem pw_congr {p q : List Trm} (h : Eqv p q) : ∀ n, Eqv (pw p n) (pw q n)
  | 0 => Eqv.refl _
  | n + 1 => Eqv.mul (pw_congr h n) h
/-! the size of coefficients -/
def norm : List Trm → Nat
  | [] => 0
  | t :: r => t.2.natAbs + norm r
theorem norm_append : ∀ p q : List Trm, norm (p ++ q) = norm p + norm q
  | [], q => by simp [norm]
  | t :: r, q => by
    simp only [List.cons_append, norm, norm_append r q]
    omega
theorem norm_ins (t : Trm) : ∀ p : List Trm, norm (ins t p) ≤ t.2.natAbs + norm p
  | [] => by
    unfold ins
    split <;> simp [norm]
  | u :: r => by
    unfold ins
    split
    · split <;> simp [norm]
    · split
      · split
        · simp only [norm]
          omega
        · simp only [norm]
          omega
      · have := norm_ins t r
        simp only [norm]
        omega
theorem norm_canon : ∀ ts : List Trm, norm (canon ts) ≤ norm ts
  | [] => Nat.le_refl _
  | t :: r => by
    show norm (ins t (canon r)) ≤ _
    have h1 := norm_ins t (canon r)
    have h2 := norm_canon r
    simp only [norm]
    omega
theorem norm_scale (x : Trm) : ∀ q : List Trm, norm (q.map fun y => (addE x.1 y.1, x.2 * y.2)) = x.2.natAbs * norm q
  | [] => by simp [norm]
  | y :: r => by
    simp only [List.map_cons, norm, norm_scale x r]
    rw [Nat.mul_add, Int.natAbs_mul]
theorem norm_mul (q : List Trm) : ∀ p : List Trm, norm (mulT p q) = norm p * norm q
  | [] => by simp [norm, mulT]
  | x :: r => by
    show norm ((q.map fun y => (addE x.1 y.1, x.2 * y.2)) ++ mulT r q) = _
    rw [norm_append, norm_scale, norm_mul q r]
    simp only [norm]
    rw [Nat.add_mul]
theorem norm_mem {t : Trm} : ∀ {p : List Trm}, t ∈ p → t.2.natAbs ≤ norm p
  | u :: r, h => by
    rcases List.mem_cons.mp h with rfl | h
    · simp only [norm]
      omega
    · have := norm_mem h
      simp only [norm]
      omega
theorem length_canon_le : ∀ ts : List Trm, (canon ts).length ≤ ts.length
  | [] => Nat.le_refl _
  | t :: r => by
    have h : ∀ p : List Trm, (ins t p).length ≤ p.length + 1 := by
      intro p
      induction p with
      | nil =>
        unfold ins
        split <;> simp
      | cons u w ih =>
        unfold ins
        split
        · split <;> simp
        · split
          · split <;> simp <;> omega
          · simp only [List.length_cons]
            omega
    have h2 := length_canon_le r
    have h3 := h (canon r)
    show (ins t (canon r)).length ≤ _
    simp only [List.length_cons]
    omega
theorem length_mul (p q : List Trm) : (mulT p q).length = p.length * q.length := by
  induction p with
  | nil => simp [mulT]
  | cons x r ih =>
    show ((q.map fun y => (addE x.1 y.1, x.2 * y.2)) ++ mulT r q).length = _
    rw [List.length_append, List.length_map, ih, List.length_cons, Nat.add_mul]
    omega
/-! a dict that gathers: pairs in the order in which they came, no key twice -/
def look (d : List Trm) (k : Ex) : Int := match d.find? (fun p => decide (p.1 = k)) with
  | some p => p.2
  | none => 0
def put (d : List Trm) (k : Ex) (v : Int) : List Trm := if d.any (fun p => decide (p.1 = k)) then d.map (fun p => if p.1 = k then (p.1, v) else p) else d ++ [(k, v)]
def addTo (d : List Trm) (t : Trm) : List Trm := put d t.1 (look d t.1 + t.2)
def gather (ts : List Trm) : List Trm := ts.foldl addTo []
def keys (d : List Trm) : List Ex := d.map (·.1)
theorem keys_put (d : List Trm) (k : Ex) (v : Int) : keys (put d k v) = if k ∈ keys d then keys d else keys d ++ [k] := by
  have h : (d.any fun p => decide (p.1 = k)) = true ↔ k ∈ keys d := by
    rw [List.any_eq_true]
    unfold keys
    constructor
    · rintro ⟨p, hp, e⟩
      exact List.mem_map.mpr ⟨p, hp, of_decide_eq_true e⟩
    · intro h
      obtain ⟨p, hp, e⟩ := List.mem_map.mp h
      exact ⟨p, hp, decide_eq_true e⟩
  unfold put
  by_cases hk : k ∈ keys d
  · rw [if_pos (h.mpr hk), if_pos hk]
    unfold keys
    rw [List.map_map]
    refine List.map_congr_left fun p _ => ?_
    show (if p.1 = k then (p.1, v) else p).1 = p.1
    split <;> rfl
  · rw [if_neg (fun z => hk (h.mp z)), if_neg hk]
    unfold keys
    rw [List.map_append]
    rfl
theorem nodup_put {d : List Trm} (h : (keys d).Nodup) (k : Ex) (v : Int) : (keys (put d k v)).Nodup := by
  rw [keys_put]
  split
  · exact h
  · rename_i hk
    rw [List.nodup_append]
    refine ⟨h, List.pairwise_singleton _ _, fun a ha b hb => ?_⟩
    rw [List.mem_singleton] at hb
    rw [hb]
    exact fun e => hk (e ▸ ha)
theorem look_none {d : List Trm} {k : Ex} (h : k ∉ keys d) : look d k = 0 := by
  unfold look
  rw [List.find?_eq_none.mpr]
  intro p hp e
  exact h (List.mem_map.mpr ⟨p, hp, of_decide_eq_true e⟩)
theorem look_cons (p : Trm) (d : List Trm) (k : Ex) : look (p :: d) k = if p.1 = k then p.2 else look d k := by
  unfold look
  rw [List.find?_cons]
  by_cases h : p.1 = k
  · simp [h]
  · simp [h]
theorem lin_map_put (f : Ex → Int) (k : Ex) (v : Int) : ∀ {d : List Trm}, (keys d).Nodup → k ∈ keys d → lin f (d.map fun p => if p.1 = k then (p.1, v) else p) = lin f d + (v - look d k) * f k
  | [], _, h => by simp [keys] at h
  | p :: r, hn, hk => by
    have n1 : p.1 ∉ keys r ∧ (keys r).Nodup := List.nodup_cons.mp hn
    rw [look_cons]
    simp only [List.map_cons, lin]
    by_cases e : p.1 = k
    · rw [if_pos e, if_pos e]
      have z : r.map (fun p => if p.1 = k then (p.1, v) else p) = r := by
        refine (List.map_congr_left fun q hq => if_neg fun z => n1.1 (List.mem_map.mpr ⟨q, hq, by rw [z, e]⟩)).trans (List.map_id' r)
      rw [z, ← e, Int.sub_mul]
      show v * f p.1 + lin f r = _
      omega
    · have hk2 : k ∈ keys r := by
        rcases List.mem_cons.mp (show k ∈ p.1 :: keys r from hk) with z | z
        · exact absurd z.symm e
        · exact z
      rw [if_neg e, if_neg e, lin_map_put f k v n1.2 hk2]
      omega
theorem lin_put (f : Ex → Int) {d : List Trm} (hn : (keys d).Nodup) (k : Ex) (v : Int) : lin f (put d k v) = lin f d + (v - look d k) * f k := by
  have h : (d.any fun p => decide (p.1 = k)) = true ↔ k ∈ keys d := by
    rw [List.any_eq_true]
    unfold keys
    constructor
    · rintro ⟨p, hp, e⟩
      exact List.mem_map.mpr ⟨p, hp, of_decide_eq_true e⟩
    · intro h
      obtain ⟨p, hp, e⟩ := List.mem_map.mp h
      exact ⟨p, hp, decide_eq_true e⟩
  unfold put
  by_cases hk : k ∈ keys d
  · rw [if_pos (h.mpr hk), lin_map_put f k v hn hk]
  · rw [if_neg (fun z => hk (h.mp z)), lin_append, look_none hk]
    simp [lin]
theorem gather_go (f : Ex → Int) : ∀ (ts d : List Trm), (keys d).Nodup → (keys (ts.foldl addTo d)).Nodup ∧ lin f (ts.foldl addTo d) = lin f d + lin f ts
  | [], d, h => ⟨h, by simp [lin]⟩
  | t :: r, d, h => by
    have n := nodup_put h t.1 (look d t.1 + t.2)
    obtain ⟨h1, h2⟩ := gather_go f r (addTo d t) n
    refine ⟨h1, ?_⟩
    show lin f (r.foldl addTo (addTo d t)) = _
    rw [h2]
    unfold addTo
    rw [lin_put f h]
    simp only [lin]
    rw [show look d t.1 + t.2 - look d t.1 = t.2 by omega]
    omega
theorem gather_nodup (ts : List Trm) : (keys (gather ts)).Nodup := (gather_go (fun _ => 0) ts [] List.nodup_nil).1
theorem gather_eqv (ts : List Trm) : Eqv (gather ts) ts := fun f => by
  have h := (gather_go f ts [] List.nodup_nil).2
  simp only [lin] at h
  unfold gather
  omega
theorem length_put (d : List Trm) (k : Ex) (v : Int) : (put d k v).length ≤ d.length + 1 := by
  unfold put
  split
  · rw [List.length_map]
    omega
  · rw [List.length_append]
    exact Nat.le_refl _
theorem length_gather_go : ∀ (ts d : List Trm), (ts.foldl addTo d).length ≤ d.length + ts.length
  | [], d => Nat.le_refl _
  | t :: r, d => by
    have h1 := length_gather_go r (addTo d t)
    have h2 : (addTo d t).length ≤ d.length + 1 := length_put _ _ _
    show (r.foldl addTo (addTo d t)).length ≤ _
    simp only [List.length_cons]
    omega
theorem look_of_mem : ∀ {d : List Trm} {p : Trm}, (keys d).Nodup → p ∈ d → look d p.1 = p.2
  | q :: r, p, hn, hp => by
    have n1 : q.1 ∉ keys r ∧ (keys r).Nodup := List.nodup_cons.mp hn
    rw [look_cons]
    rcases List.mem_cons.mp hp with rfl | hp
    · rw [if_pos rfl]
    · rw [if_neg (fun e => n1.1 (List.mem_map.mpr ⟨p, hp, e.symm⟩)), look_of_mem n1.2 hp]
/-- what is read off by keys in order -/
def read (d : List Trm) (ks : List Ex) : List Trm := (ks.filter fun k => decide (look d k ≠ 0)).map fun k => (k, look d k)
theorem lin_read (f : Ex → Int) (d : List Trm) : ∀ ks : List Ex, lin f (read d ks) = lin f (ks.map fun k => (k, look d k))
  | [] => rfl
  | k :: r => by
    have ih := lin_read f d r
    unfold read at *
    rw [List.filter_cons]
    by_cases h : look d k = 0
    · simp only [h, ne_eq, not_true_eq_false, decide_false, Bool.false_eq_true, if_false, List.map_cons, lin]
      rw [ih]
      simp
    · rw [if_pos (decide_eq_true h)]
      simp only [List.map_cons, lin, ih]
theorem map_look {d : List Trm} (hn : (keys d).Nodup) : (keys d).map (fun k => (k, look d k)) = d := by
  unfold keys
  rw [List.map_map]
  refine (List.map_congr_left fun p hp => ?_).trans (List.map_id' d)
  show (p.1, look d p.1) = p
  rw [look_of_mem hn hp]
theorem read_canon {ts d : List Trm} {ks : List Ex} (hn : (keys d).Nodup) (he : Eqv d ts) (hp : ks.Perm (keys d)) (hs : ks.Pairwise fun a b => ¬ ltE b a) : read d ks = canon ts := by
  refine canon_of ⟨?_, fun t ht => ?_⟩ fun f => ?_
  · have h2 : ks.Pairwise ltE := by
      exact (List.Pairwise.and hs (hp.nodup_iff.mpr hn)).imp fun h => ltE_or h.1 (Ne.symm h.2)
    unfold read
    rw [List.pairwise_map]
    exact h2.sublist List.filter_sublist
  · obtain ⟨k, hk, rfl⟩ := List.mem_map.mp ht
    exact of_decide_eq_true (List.mem_filter.mp hk).2
  · rw [lin_read]
    have h3 : (ks.map fun k => (k, look d k)).Perm d := by
      have := hp.map fun k => (k, look d k)
      rw [map_look hn] at this
      exact this
    rw [Eqv.perm h3 f]
    exact he f
end PM
/-! ### heaps that grow: what is no table stays, tables stay tables -/
namespace EXT
open PySem PySem.Spec PyProof.Rows L2 SDT PM
structure Ext (H H' : Hp) : Prop where
  keep : ∀ b x, H b = some x → (∀ ps, x ≠ .tbl ps) → H' b = some x
  tabs : ∀ b ps, H b = some (.tbl ps) → ∃ qs, H' b = some (.tbl qs) ∧ (TriplesOk ps.toList → TriplesOk qs.toList)
theorem Ext.tab {H H' : Hp} (s : Ext H H') {b : Addr} (h : GxR.TabG H b) : GxR.TabG H' b := by
  obtain ⟨ps, h1, h2⟩ := h
  obtain ⟨qs, g1, g2⟩ := s.tabs b ps h1
  exact ⟨qs, g1, g2 h2⟩
theorem Ext.refl (H : Hp) : Ext H H := ⟨fun _ _ e _ => e, fun _ ps h => ⟨ps, h, id⟩⟩
theorem Ext.trans {H H1 H2 : Hp} (a : Ext H H1) (b : Ext H1 H2) : Ext H H2 := ⟨fun c x e n => b.keep c x (a.keep c x e n) n, fun c ps h => by
  obtain ⟨qs, g1, g2⟩ := a.tabs c ps h
  obtain ⟨rs, k1, k2⟩ := b.tabs c qs g1
  exact ⟨rs, k1, fun z => k2 (g2 z)⟩⟩
theorem Ext.own {H H1 : Hp} {d : Addr} {o : HO} (s : Ext H H1) (hd : H d = none) : Ext H (upd H1 d o) := by
  refine ⟨fun b x e n => ?_, fun b ps h => ?_⟩
  · rw [upd_ne (ne_of_none e hd)]
    exact s.keep b x e n
  · obtain ⟨qs, g1, g2⟩ := s.tabs b ps h
    exact ⟨qs, by rw [upd_ne (ne_of_none h hd)]; exact g1, g2⟩
theorem ext_upd {H : Hp} {p : Addr} {o : HO} (h : H p = none) : Ext H (upd H p o) := (Ext.refl H).own h
theorem Ext.new {H H1 : Hp} {p : Addr} {o : HO} (s : Ext H H1) (h : H1 p = none) : Ext H (upd H1 p o) := s.trans (ext_upd h)
theorem ext_tabbed {H H' : Hp} {P : Addr} (t : GxR.TabG H P) (h : GxR.Tabbed P H H') : Ext H H' := by
  obtain ⟨ps, e0, _⟩ := t
  refine ⟨fun b x e n => ?_, fun b qs g => ?_⟩
  · rw [h.2 b (fun z => ?_)]
    · exact e
    · rw [z, e0] at e
      exact n ps (Option.some.inj e).symm
  · by_cases z : b = P
    · obtain ⟨rs, g1, g2⟩ := h.1
      rw [z]
      exact ⟨rs, g1, fun _ => g2⟩
    · exact ⟨qs, by rw [h.2 b z]; exact g, id⟩
theorem Ext.tabbed {H H1 H2 : Hp} {P : Addr} (s : Ext H H1) (t : GxR.TabG H1 P) (h : GxR.Tabbed P H1 H2) : Ext H H2 := s.trans (ext_tabbed t h)
theorem Ext.free {H H' : Hp} {p : Addr} (s : Ext H H') (h : H' p = none) : H p = none := by
  cases e : H p with
  | none => rfl
  | some x =>
    cases x with
    | tbl ps =>
      obtain ⟨qs, g, _⟩ := s.tabs p ps e
      rw [h] at g
      cases g
    | _ =>
      have := s.keep p _ e (fun ps z => by cases z)
      rw [h] at this
      cases this
theorem _root_.L2.Same.ext {H H' : Hp} (s : Same H H') : Ext H H' := ⟨fun b x e _ => s b x e, fun b ps e => ⟨ps, s _ _ e, id⟩⟩
section
variable {K : PySem.W.Frag} {H H' : Hp} (s : Ext H H')
include s
theorem Ext.rdL {a : Addr} {xs : List V} (h : Rd H a (.lst xs)) : Rd H' a (.lst xs) := by
  rcases h with h | ⟨o, h⟩
  · exact .inl (s.keep _ _ h (fun _ z => by cases z))
  · exact .inr ⟨o, s.keep _ _ h (fun _ z => by cases z)⟩
theorem Ext.rdT {a : Addr} {xs : List V} (h : Rd H a (.tup xs)) : Rd H' a (.tup xs) := by
  rcases h with h | ⟨o, h⟩
  · exact .inl (s.keep _ _ h (fun _ z => by cases z))
  · exact .inr ⟨o, s.keep _ _ h (fun _ z => by cases z)⟩
theorem Ext.seq {a : Addr} {xs : List V} (h : SqL K H a xs) : SqL K H' a xs := h.imp s.rdL id
theorem Ext.tup {a : Addr} {xs : List V} (h : SqT K H a xs) : SqT K H' a xs := h.imp s.rdT id
theorem Ext.at {a : Addr} {xs : List V} (h : H a = some (.tup xs)) : H' a = some (.tup xs) := s.keep _ _ h (fun _ z => by cases z)
theorem Ext.dt {a : Addr} {xs : List (List Key × V)} (h : H a = some (.dT xs)) : H' a = some (.dT xs) := s.keep _ _ h (fun _ z => by cases z)
theorem Ext.lst {a : Addr} {xs : List V} (h : H a = some (.lst xs)) : H' a = some (.lst xs) := s.keep _ _ h (fun _ z => by cases z)
end
mutual
theorem dp_ext {K : PySem.W.Frag} {H H' : Hp} (s : Ext H H') : ∀ {v : V} {d : PyData}, Dp K H v d → Dp K H' v d
  | _, _, .non => .non
  | _, _, .bl b => .bl b
  | _, _, .int i => .int i
  | _, _, .str x => .str x
  | _, _, .lst h t => .lst (s.seq h) (dpAll_ext s t)
  | _, _, .tup h t => .tup (s.tup h) (dpAll_ext s t)
theorem dpAll_ext {K : PySem.W.Frag} {H H' : Hp} (s : Ext H H') : ∀ {vs : List V} {ds : List PyData}, DpAll K H vs ds → DpAll K H' vs ds
  | _, _, .nil => .nil
  | _, _, .cons h t => .cons (dp_ext s h) (dpAll_ext s t)
end
theorem Ext.pairs {H H' : Hp} (s : Ext H H') : ∀ {ks : List (Int × Int)} {bs : List Addr}, Paired (PairAt H) ks bs → Paired (PairAt H') ks bs
  | _, _, .nil => .nil
  | _, _, .cons h t => .cons (s.at h) (s.pairs t)
/-! ### terms and polynomials in the heap -/
/-- v is the term t -/
def TermAt (K : PySem.W.Frag) (H : Hp) (v : V) (t : Trm) : Prop := ∃ a b, v = .ref a ∧ SqT K H a [.ref b, .int t.2] ∧ SqT K H b [.int t.1.1, .int t.1.2]
/-- the same, the key known to be one -/
def TermT (H : Hp) (v : V) (t : Trm) : Prop := ∃ a b, v = .ref a ∧ H a = some (.tup [.ref b, .int t.2]) ∧ PairAt H t.1 b
theorem TermT.at {K : PySem.W.Frag} {H : Hp} {v : V} {t : Trm} (h : TermT H v t) : TermAt K H v t := by
  obtain ⟨a, b, e, h1, h2⟩ := h
  exact ⟨a, b, e, .inl (.inl h1), .inl (.inl h2)⟩
theorem Ext.termT {H H' : Hp} (s : Ext H H') {v : V} {t : Trm} (h : TermT H v t) : TermT H' v t := by
  obtain ⟨a, b, e, h1, h2⟩ := h
  exact ⟨a, b, e, s.at h1, s.at h2⟩
theorem Ext.term {K : PySem.W.Frag} {H H' : Hp} (s : Ext H H') {v : V} {t : Trm} (h : TermAt K H v t) : TermAt K H' v t := by
  obtain ⟨a, b, e, h1, h2⟩ := h
  exact ⟨a, b, e, s.tup h1, s.tup h2⟩
theorem paired_imp {α β : Type} {R R' : α → β → Prop} (h : ∀ a b, R a b → R' a b) : ∀ {as : List α} {bs : List β}, Paired R as bs → Paired R' as bs
  | _, _, .nil => .nil
  | _, _, .cons x t => .cons (h _ _ x) (paired_imp h t)
/-- the item of a pairing at a place -/
theorem paired_at {α β : Type} {R : α → β → Prop} : ∀ {as : List α} {bs : List β} {i : Nat} {a : α}, Paired R as bs → as[i]? = some a → ∃ b, bs[i]? = some b ∧ R a b
  | _, _, _, _, .nil, h => by simp at h
  | _, _, 0, _, .cons x t, h => by
    simp only [List.getElem?_cons_zero, Option.some.injEq] at h
    subst h
    exact ⟨_, rfl, x⟩
  | _, _, i + 1, _, .cons x t, h => by
    simp only [List.getElem?_cons_succ] at h
    obtain ⟨b, h1, h2⟩ := paired_at t h
    exact ⟨b, by simpa using h1, h2⟩
theorem paired_app {α β : Type} {R : α → β → Prop} : ∀ {as : List α} {bs : List β} {as' : List α} {bs' : List β}, Paired R as bs → Paired R as' bs' → Paired R (as ++ as') (bs ++ bs')
  | _, _, _, _, .nil, k => k
  | _, _, _, _, .cons x t, k => .cons x (paired_app t k)
theorem paired_snoc {α β : Type} {R : α → β → Prop} {as : List α} {bs : List β} {a : α} {b : β} (h : Paired R as bs) (x : R a b) : Paired R (as ++ [a]) (bs ++ [b]) := paired_app h (.cons x .nil)
/-- vs are the terms ts -/
abbrev Terms (K : PySem.W.Frag) (H : Hp) (vs : List V) (ts : List Trm) : Prop := Paired (TermAt K H) vs ts
abbrev TermsT (H : Hp) (vs : List V) (ts : List Trm) : Prop := Paired (TermT H) vs ts
theorem Ext.terms {K : PySem.W.Frag} {H H' : Hp} (s : Ext H H') {vs : List V} {ts : List Trm} (h : Terms K H vs ts) : Terms K H' vs ts := paired_imp (fun _ _ => s.term) h
theorem Ext.termsT {H H' : Hp} (s : Ext H H') {vs : List V} {ts : List Trm} (h : TermsT H vs ts) : TermsT H' vs ts := paired_imp (fun _ _ => s.termT) h
theorem terms_of {K : PySem.W.Frag} {H : Hp} {vs : List V} {ts : List Trm} (h : TermsT H vs ts) : Terms K H vs ts := paired_imp (fun _ _ h => h.at) h
/-- a tuple of terms at p -/
def PolyAt (K : PySem.W.Frag) (H : Hp) (p : Addr) (ts : List Trm) : Prop := ∃ vs, SqT K H p vs ∧ Terms K H vs ts
def PolyT (H : Hp) (p : Addr) (ts : List Trm) : Prop := ∃ vs, H p = some (.tup vs) ∧ TermsT H vs ts
theorem PolyT.at {K : PySem.W.Frag} {H : Hp} {p : Addr} {ts : List Trm} (h : PolyT H p ts) : PolyAt K H p ts := by
  obtain ⟨vs, h1, h2⟩ := h
  exact ⟨vs, .inl (.inl h1), terms_of h2⟩
theorem Ext.poly {K : PySem.W.Frag} {H H' : Hp} (s : Ext H H') {p : Addr} {ts : List Trm} (h : PolyAt K H p ts) : PolyAt K H' p ts := by
  obtain ⟨vs, h1, h2⟩ := h
  exact ⟨vs, s.tup h1, s.terms h2⟩
theorem Ext.polyT {H H' : Hp} (s : Ext H H') {p : Addr} {ts : List Trm} (h : PolyT H p ts) : PolyT H' p ts := by
  obtain ⟨vs, h1, h2⟩ := h
  exact ⟨vs, s.at h1, s.termsT h2⟩
/-- a term, a polynomial as data -/
def termD (t : Trm) : PyData := .tuple [.tuple [.int t.1.1, .int t.1.2], .int t.2]
def polyD (ts : List Trm) : PyData := .tuple (ts.map termD)
theorem TermAt.dp {K : PySem.W.Frag} {H : Hp} {v : V} {t : Trm} (h : TermAt K H v t) : Dp K H v (termD t) := by
  obtain ⟨a, b, rfl, h1, h2⟩ := h
  exact .tup h1 (.cons (.tup h2 (.cons (.int _) (.cons (.int _) .nil))) (.cons (.int _) .nil))
theorem terms_dp {K : PySem.W.Frag} {H : Hp} : ∀ {vs : List V} {ts : List Trm}, Terms K H vs ts → DpAll K H vs (ts.map termD)
  | _, _, .nil => .nil
  | _, _, .cons h t => .cons h.dp (terms_dp t)
theorem PolyAt.dp {K : PySem.W.Frag} {H : Hp} {p : Addr} {ts : List Trm} (h : PolyAt K H p ts) : Dp K H (.ref p) (polyD ts) := by
  obtain ⟨vs, h1, h2⟩ := h
  exact .tup h1 (terms_dp h2)
/-! ### a dict of exponents -/
def kvsOf (d : List Trm) : List (List Key × V) := d.map fun t => (pairKey t.1, .int t.2)
theorem pairKey_inj {k j : Ex} (h : pairKey k = pairKey j) : k = j := by
  obtain ⟨h1, h2⟩ := List.cons.inj h
  obtain ⟨h3, _⟩ := List.cons.inj h2
  exact Prod.ext (Sum.inl.inj h1) (Sum.inl.inj h3)
theorem valV_kvs (k : Ex) : ∀ d : List Trm, valV (kvsOf d) (pairKey k) = if k ∈ keys d then some (.int (look d k)) else none
  | [] => rfl
  | t :: d => by
    by_cases e : t.1 = k
    · rw [show kvsOf (t :: d) = (pairKey t.1, V.int t.2) :: kvsOf d from rfl, valV_pos (by rw [e]), if_pos (by rw [← e]; exact List.mem_map.mpr ⟨t, List.mem_cons_self, rfl⟩), look_cons, if_pos e]
    · rw [show kvsOf (t :: d) = (pairKey t.1, V.int t.2) :: kvsOf d from rfl, valV_neg (fun z => e (pairKey_inj z)), valV_kvs k d, look_cons, if_neg e]
      have : (k ∈ keys (t :: d)) ↔ k ∈ keys d := by
        show k ∈ t.1 :: keys d ↔ _
        rw [List.mem_cons]
        exact ⟨fun z => z.resolve_left fun q => e q.symm, .inr⟩
      by_cases m : k ∈ keys d
      · rw [if_pos m, if_pos (this.mpr m)]
      · rw [if_neg m, if_neg (fun z => m (this.mp z))]
theorem getD_kvs (d : List Trm) (k : Ex) : (valV (kvsOf d) (pairKey k)).getD (.int 0) = .int (look d k) := by
  rw [valV_kvs]
  by_cases m : k ∈ keys d
  · rw [if_pos m]
    rfl
  · rw [if_neg m, look_none m]
    rfl
theorem put_kvs (d : List Trm) (k : Ex) (v : Int) : putK (kvsOf d) (pairKey k) (.int v) = kvsOf (put d k v) := by
  have e : ((kvsOf d).any fun kv => decide (kv.1 = pairKey k)) = d.any fun p => decide (p.1 = k) := by
    unfold kvsOf
    rw [List.any_map]
    congr 1
    funext t
    show decide (pairKey t.1 = pairKey k) = decide (t.1 = k)
    by_cases z : t.1 = k
    · rw [decide_eq_true z, decide_eq_true (by rw [z])]
    · rw [decide_eq_false z, decide_eq_false (fun q => z (pairKey_inj q))]
  unfold putK put
  rw [e]
  by_cases z : (d.any fun p => decide (p.1 = k)) = true
  · rw [if_pos z, if_pos z]
    unfold kvsOf
    rw [List.map_map, List.map_map]
    refine List.map_congr_left fun t _ => ?_
    show (if pairKey t.1 = pairKey k then (pairKey t.1, V.int v) else (pairKey t.1, V.int t.2)) = _
    by_cases q : t.1 = k
    · rw [if_pos (by rw [q])]
      simp only [Function.comp, if_pos q]
    · rw [if_neg (fun w => q (pairKey_inj w))]
      simp only [Function.comp, if_neg q]
  · rw [if_neg z, if_neg z]
    unfold kvsOf
    rw [List.map_append]
    rfl
theorem length_kvs (d : List Trm) : (kvsOf d).length = d.length := by
  unfold kvsOf
  rw [List.length_map]
theorem keys_kvs (d : List Trm) : (kvsOf d).map (·.1) = (keys d).map pairKey := by
  unfold kvsOf keys
  rw [List.map_map, List.map_map]
  rfl
theorem lex_lt {p q : Ex} : SrtO.lexB p q = false ↔ ¬ ltE p q := SrtO.lexB_no
end EXT
/-! ### a def whose code object is known -/
namespace L2
open PySem PySem.Spec PyProof.Rows
structure FunC (K : PySem.W.Frag) (x qual : Str) (st : Stmt) (f : Addr) (fd : FuncData) (c : Addr) : Prop where
  ex : ∃ (oc : Value) (od : Option Addr) (kV doc pm : Value) (an : Option Addr) (ct : Value) (osl : Array (Option Value)),
    fd = PySem.W.fnOf x qual (defArgs st) (defBody st) (defScope st) .none kV doc pm an (.ref c) ct ∧ K.lookup f = some ⟨oc, od, .func fd, osl⟩ ∧ PySem.W.codeIn K (.ref c) qual = true
  kp : PySem.W.keepIn K (.ref f) = true
section
variable {P : Program} {w : World} {K : PySem.W.Frag} {mg : Str → Option Value} {base : Heap}
theorem FunC.ok {x qual : Str} {st : Stmt} {f c : Addr} {fd : FuncData} {N ps : List Str} {k : Nat} {sp : Sp} (F : FunC K x qual st f fd c) (S : FnScope N ps (defScope st)) (len : ∀ vs H Q E, sp vs H Q E → vs.length = ps.length)
    (hbody : ∀ (A : Around) (outer : List Env) (s : Shared) (H : Hp) (vs : List V) (Q : VK) (E : XK), Room k (A.deeper (envOfC qual (defScope st) s.heap.objs.size f (.ref c))) → sp vs H Q E →
      ∃ t, PSs (cxOf CX0 P w K mg base N qual (defScope st) f (.ref c) A outer s H E).nox (defBody st) t ∧ t { nx := fun _ H' => Q .non H', rt := Q } (start N vs) H) :
    FnOk P w K mg base CX0 (k + 1) f fd ps sp := by
  obtain ⟨oc, od, kV, doc, pm, an, ct, osl, e, lk, hcd⟩ := F.ex
  subst e
  refine fn_of lk hcd S len fun A outer s H vs Q E hr hsp => ?_
  obtain ⟨t, h, q⟩ := hbody A outer s H vs Q E hr hsp
  exact ⟨t, h.nox, q⟩
theorem FunC.binds {x qual : Str} {st : Stmt} {f c : Addr} {fd : FuncData} {ps : List Str} (F : FunC K x qual st f fd c)
    (h : ∀ (kV doc pm : Value) (an : Option Addr) (cdv ct : Value) (us : List Value), us.length = ps.length → bindArgs (PySem.W.fnOf x qual (defArgs st) (defBody st) (defScope st) .none kV doc pm an cdv ct) ⟨us, []⟩ = pure (ps.zip us)) : Binds K fd ps [] := by
  obtain ⟨oc, od, kV, doc, pm, an, ct, osl, e, lk, hcd⟩ := F.ex
  subst e
  exact .all (h kV doc pm an (.ref c) ct)
theorem funC_mk {x qual : Str} {st : Stmt} {f c : Addr} {oc : Value} {od an : Option Addr} {osl : Array (Option Value)} {kV doc pm ct : Value} (l : K.lookup f = some ⟨oc, od, .func (PySem.W.fnOf x qual (defArgs st) (defBody st) (defScope st) .none kV doc pm an (.ref c) ct), osl⟩)
    (h : PySem.W.codeIn K (.ref c) qual = true) (k : PySem.W.keepIn K (.ref f) = true) : FunC K x qual st f (PySem.W.fnOf x qual (defArgs st) (defBody st) (defScope st) .none kV doc pm an (.ref c) ct) c := ⟨⟨oc, od, kV, doc, pm, an, ct, osl, rfl, l, h⟩, k⟩
end
end L2
/-! ### the end: the tables of all defs -/
namespace LamX
open PySem PySem.Spec PyProof.Rows L2
/-- the table of each def of the text is empty -/
def AllTab (q : Program) (K : PySem.W.Frag) (h : Heap) : Prop := ∀ (y : Str) (f c P : Addr) (o : Obj) (fd : FuncData) (e : Value) (dd : Option Addr) (vs : Array Value) (sl : Array (Option Value)), ((recsOf q).any fun r => r.name == y) = true →
  PySem.W.nsIn K mainGlobals y = some (some (.ref f)) → K.lookup f = some o → o.data = .func fd → fd.code = .ref c → K.lookup c = some ⟨e, dd, .fields vs, sl⟩ → vs[11]? = some (.ref P) → h.get? P = some { cls := .none, data := .fields #[] }
theorem walk_ofAll {l : PySem.W.OpenLaw} {n k : Nat} {q : Program} {loose : List Str} {XP : (Str → Option Value) → Heap → Prop} {YP : World → Heap → Prop} {d : DefRec} {K : Params → PySem.W.Frag} {CX : World → CXT} {x : Str}
    (hn : l.most = some n) (hn2 : n ≤ sizeLine) (hdf : d.params.defaults = []) (hr : Room k callerA) (hY : ∀ (w : World) (h : Heap), YP w h → (K w.params).In h)
    (F : ∀ (w : World) (mg : Str → Option Value) (fa : Addr) (h : Heap), YP w h → (K w.params).In h → h.Ns mainGlobals mg → mg d.name = some (.ref fa) → AllTab q (K w.params) h → LawAtS l w (K w.params) (CX w) k n x mg fa h)
    (hCX : ∀ (w : World) (H : Hp) (s : Shared) (e : Value) (s' : Shared), CX w [] H s (fun _ _ _ => False) e s' → False) :
    PySem.W.WalkO q loose XP YP l.row.toRowW d [] (fun f vs => PySem.call f vs) := by
  refine Att.attach_callB hn hdf fun w s₀ s₁ mg mb fa o pm cd doc a vs ns G Y ho hd hcd hmg hobj hints hlen hbits hg => ?_
  have KX := hY w _ Y
  have own : AllTab q (K w.params) s₁.heap := fun y f c P o1 fd1 e dd vs1 sl hrec k0 k1 k2 k3 k4 k5 => by
    obtain ⟨dL, hm, hn1⟩ := List.any_eq_true.mp hrec
    have hn2 : dL.name = y := beq_iff_eq.mp hn1
    obtain ⟨a', o', fd', c', P', h1, h2, h3, h4, h5, h6⟩ := G.T.tab dL hm
    rw [hn2, PySem.W.mg_of KX G.T.g k0] at h1
    cases h1
    have g1 := KX _ _ k1
    rw [g1] at h2
    cases h2
    rw [k2] at h3
    cases h3
    rw [k3] at h4
    cases h4
    obtain ⟨⟨oc, vc, e1, _, e3, e4⟩, hP⟩ := h6
    have g2 := KX _ _ k4
    rw [g2] at e1
    cases e1
    cases e3
    rw [k5] at e4
    cases e4
    exact hP
  obtain ⟨fd, cs, sp, hT, nT, C, hb, hsp, hF⟩ := F w mg fa _ Y KX G.T.g hmg own
  exact law_callTs KX G.T.g G.T.b G.T.builtins G.T.nolimit hg hT nT C G.T.bmain hobj hints (Nat.le_trans hlen hn2) hr hF hb (fun H hH hS => hsp H a ns hlen hbits hH hS) fun H e s' => hCX w H s₁ e s'
end LamX
namespace L2
open PySem PySem.Spec PyProof.Rows
/-- a list or a tuple, walked -/
def iSeq (K : PySem.W.Frag) (tl : TE) : TI := fun σ H R => tl σ H fun x H1 => ∃ a, x = .ref a ∧ (((∃ xs, SqL K H1 a xs) ∧ R (Itl K a) H1) ∨ ((∃ xs, SqT K H1 a xs) ∧ R (Itt K a) H1))
theorem pi_seq {X : Cx} {tg l : Expr} {tl : TE} (hl : PE X l tl) : PI X tg l (iSeq X.K tl) := by
  refine ⟨fun pins s σ H R I h => ?_⟩
  refine thn (hl.run pins s σ H _ I h) fun v s1 ⟨x, H1, I1, r1, a, e, q1⟩ => ?_
  subst e
  cases r1
  rcases q1 with ⟨⟨xs, hq⟩, q⟩ | ⟨⟨xs, hq⟩, q⟩
  · obtain ⟨its, rv, p, hz⟩ := I1.list hq
    refine wpAny_pyIter_list p.isList ⟨s1.heap.objs.size, [s1.heap.objs.size], _, _, H1, rfl, I1.kept (t' := s1.toks) fun b o e => Heap.get?_push_of_some _ e, turn_list a _, ⟨_, Heap.get?_push_size _ rfl, rfl, rfl⟩, fun b hb => ?_, q⟩
    obtain rfl : b = s1.heap.objs.size := by simpa using hb
    exact I1.fpOk (Nat.le_refl _) (I1.hok.fresh (Nat.le_refl _))
  · obtain ⟨its, rv, p, hz⟩ := I1.tuple hq
    refine wpAny_pyIter_tuple (show s1.heap.IsTuple a its.toArray from p) ⟨s1.heap.objs.size, [s1.heap.objs.size], _, _, H1, rfl, I1.kept (t' := s1.toks) fun b o e => Heap.get?_push_of_some _ e, turn_tuple a _, ⟨_, Heap.get?_push_size _ rfl, rfl, rfl⟩, fun b hb => ?_, q⟩
    obtain rfl : b = s1.heap.objs.size := by simpa using hb
    exact I1.fpOk (Nat.le_refl _) (I1.hok.fresh (Nat.le_refl _))
/-- walking a list or a tuple: one invariant -/
theorem for_seq {K : PySem.W.Frag} {a : Addr} {xs : List V} {g : TG} {tb : TS} {D : Ends} {σ : St} {H H0 : Hp} (ha : SqL K H0 a xs ∨ SqT K H0 a xs) (Pv : Nat → St → Hp → Prop) (h0 : Pv 0 σ H) (hl : ∀ i σ H1, i ≤ xs.length → Pv i σ H1 → EXT.Ext H0 H1)
    (hs : ∀ i x σ H, xs[i]? = some x → Pv i σ H → g x σ H fun σ2 H2 => tb { D with nx := Pv (i + 1), ct := Pv (i + 1), bk := D.nx } σ2 H2) (hd : ∀ σ H, Pv xs.length σ H → D.nx σ H) :
    let G : It → Prop := fun J => ∃ W : Nat → Nat → St → Hp → Prop, (∃ m, W 0 m σ H) ∧ ∀ i m σ H, W i m σ H →
      ((J.stop i H ∧ D.nx σ H) ∨ (J.go i H ∧ ∃ N : St → Hp → Prop, (∀ σ' H', N σ' H' → ∃ m', m' < m ∧ W (i + 1) m' σ' H') ∧ ∀ x H', J.yld i H x H' → g x σ H' fun σ2 H2 => tb { D with nx := N, ct := N, bk := D.nx } σ2 H2))
    ((∃ xs, SqL K H a xs) ∧ G (Itl K a)) ∨ ((∃ xs, SqT K H a xs) ∧ G (Itt K a)) := by
  rcases ha with h | h
  · exact .inl ⟨⟨xs, (hl _ _ _ (Nat.zero_le _) h0).seq h⟩, for_list Pv h0 (fun i σ H1 hi p => (hl i σ H1 hi p).seq h) hs hd⟩
  · exact .inr ⟨⟨xs, (hl _ _ _ (Nat.zero_le _) h0).tup h⟩, for_tup Pv h0 (fun i σ H1 hi p => (hl i σ H1 hi p).tup h) hs hd⟩
end L2
namespace L2
open PySem PySem.Spec PyProof.Rows
/-- pairs of ints, by their first, then by their second -/
def geP (x y : Int × Int) : Bool := !SrtO.lexB x y
theorem ge_not (i j : Int) : (!decide (i < j)) = decide (j ≤ i) := by
  by_cases z : i < j
  · rw [decide_eq_true z, decide_eq_false (by omega)]
    rfl
  · rw [decide_eq_false z, decide_eq_true (by omega)]
    rfl
/-- t >= u of two pairs of ints -/
def rGeP (K : PySem.W.Frag) : R2 := fun x y H Q => ∃ (a b : Addr) (p q : Int × Int), x = .ref a ∧ y = .ref b ∧ SqT K H a [.int p.1, .int p.2] ∧ SqT K H b [.int q.1, .int q.2] ∧ Q (.bl (geP p q)) H
theorem pair_vals {i j : Int} {its : List Value} (r : Vals [V.int i, .int j] its) : ∃ t u, its = [.int i t, .int j u] := by
  obtain ⟨u1, u2, rfl, ⟨t, rfl⟩, ⟨u, rfl⟩⟩ := vals2 r
  exact ⟨t, u, rfl⟩
theorem op_geP {X : Cx} (hu : X.A.units < cLine) : OpR X (compareOp .GtE) (rGeP X.K) := by
  intro pins s σ H x y v u Q I rx ry h
  obtain ⟨a, b, p, q, rfl, rfl, ha, hb, k⟩ := h
  cases rx
  cases ry
  obtain ⟨its, r1, p1, _⟩ := I.tuple ha
  obtain ⟨its2, r2, p2, _⟩ := I.tuple hb
  obtain ⟨t1, t2, rfl⟩ := pair_vals r1
  obtain ⟨t3, t4, rfl⟩ := pair_vals r2
  have R := Ob.RcOp.tuples_ge (A := X.A) (s := s) (e := fun j => if j = 0 then (p.1 == q.1) else (p.2 == q.2)) (r := fun j => if j = 0 then decide (q.1 ≤ p.1) else decide (q.2 ≤ p.2)) p1 p2 hu (fun j h1 h2 => by
    match j, h1, h2 with
    | 0, _, _ => exact SeqAt.EqAt.int_int _ _ _ _
    | 1, _, _ => exact SeqAt.EqAt.int_int _ _ _ _) (fun j h1 h2 _ => by
    match j, h1, h2 with
    | 0, _, _ => exact Ob.RcOp.ge_int _ _ _ _
    | 1, _, _ => exact Ob.RcOp.ge_int _ _ _ _)
  have e : geP p q = Ob.lexAt (fun j => if j = 0 then (p.1 == q.1) else (p.2 == q.2)) (fun j => if j = 0 then decide (q.1 ≤ p.1) else decide (q.2 ≤ p.2)) (decide (2 ≥ 2)) 0 2 := by
    rw [Ob.lexAt_succ, Ob.lexAt_succ, Ob.lexAt_zero]
    unfold geP SrtO.lexB
    by_cases e1 : p.1 = q.1
    · rw [if_pos e1, ge_not]
      by_cases e2 : p.2 = q.2
      · have b1 : (p.1 == q.1) = true := beq_iff_eq.mpr e1
        have b2 : (p.2 == q.2) = true := beq_iff_eq.mpr e2
        have z : q.2 ≤ p.2 := by omega
        simp [b1, b2, z]
      · have b1 : (p.1 == q.1) = true := beq_iff_eq.mpr e1
        have b2 : (p.2 == q.2) = false := beq_eq_false_iff_ne.mpr e2
        simp [b1, b2]
    · have b1 : (p.1 == q.1) = false := beq_eq_false_iff_ne.mpr e1
      rw [if_neg e1, ge_not]
      simp [b1]
  rw [e] at k
  have z : wpAny (model X.prog X.w) X.A (compareOp .GtE (.ref a) (.ref b)) (EP X pins σ Q) X.xe s := R X.prog X.w X.xe (EP X pins σ Q) ⟨.bl _, H, I, rfl, k⟩
  exact z
/-- a op b op' c op'' d -/
def tChain3 (r r' r'' : R2) (ta tb tc td : TE) : TE := fun σ H Q => ta σ H fun x H1 => tb σ H1 fun y H2 => r x y H2 fun z H3 => ∃ k, z = .bl k ∧
  (if k = true then tc σ H3 fun w' H4 => r' y w' H4 fun z2 H5 => ∃ k2, z2 = .bl k2 ∧ (if k2 = true then td σ H5 fun w2 H6 => r'' w' w2 H6 Q else Q (.bl false) H5) else Q (.bl false) H3)
theorem pe_chain3 {X : Cx} {a b c d : Expr} {pos : Pos} {ta tb tc td : TE} {op op' op'' : CmpOp} {r r' r'' : R2} (ho : OpR X (compareOp op) r) (ho' : OpR X (compareOp op') r') (ho'' : OpR X (compareOp op'') r'') (ha : PE X a ta) (hb : PE X b tb) (hc : PE X c tc) (hd : PE X d td)
    (hm : lastMarks [op, op', op''] [b, c, d] = false := by with_unfolding_all rfl) : PE X (.Compare a [op, op', op''] [b, c, d] pos) (tChain3 r r' r'' ta tb tc td) := by
  refine ⟨fun pins s σ H Q I h => ?_⟩
  refine Compare_chain (thn (ha.run pins s σ H _ I h) fun v s1 ⟨x, H1, I1, r1, q1⟩ => chain_link (thn (hb.run pins s1 σ H1 _ I1 q1) fun u s2 ⟨y, H2, I2, r2, q2⟩ =>
    thn (ho pins s2 σ H2 x y v u _ I2 r1 r2 q2) fun d s3 ⟨z, H3, I3, r3, k, e, q3⟩ => ?_)) hm
  subst e
  cases r3
  refine wpAny_truthy_bool ?_
  cases k with
  | false => exact ite_ff ⟨.bl false, H3, I3, rfl, q3⟩
  | true =>
    refine ite_tt (chain_link (thn (hc.run pins s3 σ H3 _ I3 q3) fun w' s4 ⟨z', H4, I4, r4, q4⟩ => thn (ho' pins s4 σ H4 y z' u w' _ I4 r2 r4 q4) fun d5 s5 ⟨z5, H5, I5, r5, k5, e5, q5⟩ => ?_))
    subst e5
    cases r5
    refine wpAny_truthy_bool ?_
    cases k5 with
    | false => exact ite_ff ⟨.bl false, H5, I5, rfl, q5⟩
    | true => exact ite_tt (chain_last (thn (hd.run pins s5 σ H5 _ I5 q5) fun w2 s6 ⟨z6, H6, I6, r6, q6⟩ => ho'' pins s6 σ H6 z' z6 w' w2 Q I6 r4 r6 q6))
theorem pt_chain3 {X : Cx} {a b c d : Expr} {pos : Pos} {ta tb tc td : TE} {op op' op'' : CmpOp} {r r' r'' : R2} (ho : OpR X (compareOp op) r) (ho' : OpR X (compareOp op') r') (ho'' : OpR X (compareOp op'') r'') (ha : PE X a ta) (hb : PE X b tb) (hc : PE X c tc) (hd : PE X d td)
    (hm : lastMarks [op, op', op''] [b, c, d] = false := by with_unfolding_all rfl) : PT X (.Compare a [op, op', op''] [b, c, d] pos) (tTest (tChain3 r r' r'' ta tb tc td)) := by
  refine ⟨fun pins s σ H Q I h => ?_⟩
  refine isTrue_chain (thn (ha.run pins s σ H _ I h) fun v s1 ⟨x, H1, I1, r1, q1⟩ => test_link (thn (hb.run pins s1 σ H1 _ I1 q1) fun u s2 ⟨y, H2, I2, r2, q2⟩ =>
    thn (ho pins s2 σ H2 x y v u _ I2 r1 r2 q2) fun d s3 ⟨z, H3, I3, r3, k, e, q3⟩ => ?_)) hm
  subst e
  cases r3
  refine wpAny_truthy_bool ?_
  cases k with
  | false =>
    obtain ⟨k', e', q'⟩ := q3
    cases e'
    exact ite_ff ⟨H3, I3, q'⟩
  | true =>
    refine ite_tt (test_link (thn (hc.run pins s3 σ H3 _ I3 q3) fun w' s4 ⟨z', H4, I4, r4, q4⟩ => thn (ho' pins s4 σ H4 y z' u w' _ I4 r2 r4 q4) fun d5 s5 ⟨z5, H5, I5, r5, k5, e5, q5⟩ => ?_))
    subst e5
    cases r5
    refine wpAny_truthy_bool ?_
    cases k5 with
    | false =>
      obtain ⟨k', e', q'⟩ := q5
      cases e'
      exact ite_ff ⟨H5, I5, q'⟩
    | true =>
      refine ite_tt (test_last (thn (hd.run pins s5 σ H5 _ I5 q5) fun w2 s6 ⟨z6, H6, I6, r6, q6⟩ => thn (ho'' pins s6 σ H6 z' z6 w' w2 _ I6 r4 r6 q6) fun d7 s7 ⟨z7, H7, I7, r7, k7, e7, q7⟩ => ?_))
      subst e7
      cases r7
      exact wpAny_truthy_bool ⟨H7, I7, q7⟩
end L2
namespace L2
open PySem PySem.Spec PyProof.Rows RZ
/-- zip of two tuples, the second not longer than the first -/
theorem for_zipM {K : PySem.W.Frag} {a b : Addr} {xs ys : List V} {g : TG} {tb : TS} {D : Ends} {σ : L2.St} {H : Hp} (hl : ys.length ≤ xs.length) (Pv : Nat → L2.St → Hp → Prop) (h0 : Pv 0 σ H) (hq : ∀ i σ H, Pv i σ H → SqT K H a xs ∧ SqT K H b ys)
    (hs : ∀ (i : Nat) (x y : V) (T : Addr) (σ : L2.St) (H : Hp), xs[i]? = some x → ys[i]? = some y → Pv i σ H → H T = none → g (.ref T) σ (upd H T (.tup [x, y])) fun σ2 H2 => tb { D with nx := Pv (i + 1), ct := Pv (i + 1), bk := D.nx } σ2 H2)
    (hd : ∀ σ H, Pv ys.length σ H → D.nx σ H) :
    ∃ W : Nat → Nat → L2.St → Hp → Prop, (∃ m, W 0 m σ H) ∧ ∀ i m σ H, W i m σ H →
      ((ItzT K a b).stop i H ∧ D.nx σ H) ∨ ((ItzT K a b).go i H ∧ ∃ N : L2.St → Hp → Prop, (∀ σ' H', N σ' H' → ∃ m', m' < m ∧ W (i + 1) m' σ' H') ∧ ∀ v H', (ItzT K a b).yld i H v H' → g v σ H' fun σ2 H2 => tb { D with nx := N, ct := N, bk := D.nx } σ2 H2) := by
  refine ⟨fun i m σ H => m = ys.length - i ∧ i ≤ ys.length ∧ Pv i σ H, ⟨ys.length, rfl, Nat.zero_le _, h0⟩, ?_⟩
  rintro i m σ H ⟨rfl, hi, p⟩
  obtain ⟨qx, qy⟩ := hq i σ H p
  by_cases hlt : i < ys.length
  · have hlx : i < xs.length := by omega
    refine .inr ⟨⟨xs, ys, _, _, qx, qy, List.getElem?_eq_getElem hlx, List.getElem?_eq_getElem hlt⟩, Pv (i + 1), fun σ' H' p' => ⟨ys.length - (i + 1), by omega, rfl, hlt, p'⟩, fun v H' y => ?_⟩
    obtain ⟨T, x', y', rfl, hT, rfl, f1, f2⟩ := y
    exact hs i x' y' T σ H (f1 xs qx) (f2 ys qy) p hT
  · obtain rfl : i = ys.length := by omega
    exact .inl ⟨⟨xs, ys, qx, qy, Or.inr (Nat.le_refl _)⟩, hd σ H p⟩
end L2
namespace L2
open PySem PySem.Spec PyProof.Rows
section
variable {X : Cx} {CX : CXT} {k : Nat} {f C : Addr} {fd : FuncData} {ps : List Str} {sp : Sp} {E : St → XK} {x : Str} {p pos : Pos} {e : Expr} {es : List Expr} {t : TA}
/-- C(..) in a try's body: what it lets out may speak of the slots -/
theorem run_makeS {pins : List (Addr × Obj)} {σ : St} {H : Hp} {s : Shared} {Q : VK} {us : List Value} {vs : List V} (M : Mk X.K C f) (F : FnOk X.prog X.w X.K X.mg X.base CX k f fd ps sp) (hr : Room (k + 1) X.A) (hb : Binds X.K fd ps [])
    (hx : PassesAt CX X σ (E σ)) (I : Inv X pins σ H s) (r : Vals vs us)
    (h : ∀ x dx, H x = none → H dx = none → dx ≠ x → sp (.ref x :: vs) (upd (upd H dx (.own x)) x (.ins C dx [])) (fun v H2 => v = .non ∧ Q (.ref x) H2) (E σ)) :
    wpAny (model X.prog X.w) X.A (call (.ref C) us) (EP X pins σ Q) X.xe s := by
  have hq := h (s.heap.objs.size + 1) s.heap.objs.size (I.hok.fresh (Nat.le_succ _)) (I.hok.fresh (Nat.le_refl _)) (Nat.ne_of_lt (Nat.lt_succ_self _))
  have I2 := Inv.made (C := C) I
  have r2 : Vals (V.ref (s.heap.objs.size + 1) :: vs) (Value.ref (s.heap.objs.size + 1) :: us) := .cons rfl r
  have hl : (Value.ref (s.heap.objs.size + 1) :: us).length = ps.length := by
    have l1 := r2.length
    rw [F.len _ _ _ _ hq] at l1
    exact l1.symm
  have bb := hb _ (Value.ref (s.heap.objs.size + 1) :: us) I2.kIn (by rw [List.append_nil]; exact hl)
  rw [List.append_nil] at bb
  refine wpAny_call (make_map (f := f) I.kIn M.makes M.init (beq_iff_eq.mp M.fn) (codeAny_mono (F.run _ X.stack _ _ ⟨Value.ref (s.heap.objs.size + 1) :: us, []⟩ (Value.ref (s.heap.objs.size + 1) :: us) _ _ (E σ) (hr.make C us []) (I2.env0.make C us []) bb r2 hq) fun r s' hq' => ?_))
  cases r with
  | error e => exact hx pins _ _ e s' I2 hq'
  | ok fl =>
    cases fl with
    | ret u =>
      obtain ⟨v, H', I3, rv, ev, q3⟩ := I2.after hq'
      subst ev
      exact ⟨rv, ⟨V.ref (s.heap.objs.size + 1), H', I3, rfl, q3⟩⟩
    | next => exact False.elim hq'
    | brk => exact False.elim hq'
    | cont => exact False.elim hq'
def tMakeS (C : Addr) (sp : Sp) (E : St → XK) (t : TA) : TE := fun σ H Q => t σ H fun vs H1 => ∀ x dx, H1 x = none → H1 dx = none → dx ≠ x →
  sp (.ref x :: vs) (upd (upd H1 dx (.own x)) x (.ins C dx [])) (fun v H2 => v = .non ∧ Q (.ref x) H2) (E σ)
theorem pe_makeS (M : Mk X.K C f) (F : FnOk X.prog X.w X.K X.mg X.base CX k f fd ps sp) (hr : Room (k + 1) X.A) (hg : Gl X x) (hm : X.mg x = some (.ref C)) (hb : Binds X.K fd ps []) (hx : ∀ σ, PassesAt CX X σ (E σ))
    (ha : PA X (e :: es) t) (hdb : (x == ("__debug__" : Str)) = false := by decide) (he : starEach (e :: es) X.env = (false, eval e X.env) :: starEach es X.env := by rfl) (hpl : (backTo pos (starEach es X.env)).any (·.1) = false := by rfl) :
    PE X (.Call (.Name x p) (e :: es) [] pos) (tMakeS C sp E t) := by
  refine ⟨fun pins s σ H Q I h => ?_⟩
  refine wpAny_Call_Name_kw (ld_glob I hg hm ?_ hdb)
  refine PySem.W.callWith_K (h₀ := X.base) I.ok.mod.kin M.kp (thn (ha.run pos pins s σ H _ I h) fun us s1 ⟨vs, H1, I1, r, q⟩ => ⟨I1.kIn, ?_⟩) he hpl
  exact run_makeS M F hr hb (hx σ) I1 r q
end
end L2
/-! ### sum of a tuple of ints -/
namespace L2
open PySem PySem.Spec PyProof.Rows
def rSumT (K : PySem.W.Frag) : List V → Hp → VK → Prop := fun vs H Q => ∃ (a : Addr) (ns : List Int), vs = [V.ref a] ∧ SqT K H a (ns.map V.int) ∧ Q (.int ns.sum) H
theorem preSum_at (ns : List Int) : ∀ k, k ≤ ns.length → preSum (fun i => (ns[i]?).getD 0) k = (ns.take k).sum
  | 0, _ => by simp [preSum]
  | k + 1, h => by
    rw [preSum, preSum_at ns k (by omega), List.take_add_one, List.getElem?_eq_getElem (by omega : k < ns.length), List.sum_append]
    simp
theorem vals_ints_at : ∀ {ns : List Int} {its : List Value} {i : Nat} {v : Value}, Vals (ns.map V.int) its → its[i]? = some v → ∃ t, v = .int ((ns[i]?).getD 0) t
  | [], _, i, v, .nil, h => by simp at h
  | n :: ns, _, 0, v, .cons r t, h => by
    simp only [List.getElem?_cons_zero, Option.some.injEq] at h
    subst h
    obtain ⟨t, e⟩ := r
    exact ⟨t, e⟩
  | n :: ns, _, i + 1, v, .cons r t, h => by
    simp only [List.getElem?_cons_succ] at h
    simpa using vals_ints_at t h
theorem cr_sumT {X : Cx} (hc : X.calm = true) : CallR X (.builtin "sum") (rSumT X.K) := by
  intro pins s σ H xs us Q I hv h
  obtain ⟨a, ns, rfl, hq, q⟩ := h
  cases hv with
  | cons r t =>
    cases t
    cases r
    obtain ⟨its, rv, p, hz⟩ := I.tuple hq
    have p' : s.heap.IsTuple a its.toArray := p
    obtain ⟨o, ho, p2⟩ := id p'
    have hne : a ≠ s.heap.objs.size := Nat.ne_of_lt (Heap.lt_size ho)
    have hl := rv.length
    rw [List.length_map] at hl
    refine call_sum_walkG (wpAny_pyIter_tuple p' ⟨s.heap.objs.size, [s.heap.objs.size, a], [s.heap.objs.size], _, _, _, fun i => (ns[i]?).getD 0, rfl, Walks.tuple (A := X.A.in1) (I.ok.hd hc) _ a hne its.toArray, ⟨⟨_, Heap.get?_push_size _ rfl, rfl, rfl⟩, ⟨o, Heap.get?_push_of_some _ ho, p2⟩⟩, fun b hb => ?_, fun i v hi => ?_, fun h' tk t' hk => ?_⟩)
    · have h1 := Heap.lt_size ho
      simp only [List.mem_cons, List.not_mem_nil, or_false] at hb
      show b < (s.heap.push _).objs.size
      rw [PyProof.Rows.size_push']
      rcases hb with e | e
      · rw [e]
        exact Nat.lt_succ_self _
      · rw [e]
        exact Nat.lt_succ_of_lt h1
    · refine vals_ints_at rv ?_
      simpa using hi
    · refine ⟨.int (preSum (fun i => (ns[i]?).getD 0) its.toArray.size), H, I.kept (t' := tk) fun b o e => hk b o (fun m => ?_) (Heap.get?_push_of_some _ e), ⟨_, rfl⟩, ?_⟩
      · have h1 := Heap.lt_size e
        rw [List.mem_singleton.mp m] at h1
        exact Nat.lt_irrefl _ h1
      · have e : preSum (fun i => (ns[i]?).getD 0) its.toArray.size = ns.sum := by
          rw [List.size_toArray, ← hl, preSum_at ns _ (Nat.le_refl _), List.take_length]
        rw [e]
        exact q
end L2
/-! ### walks with an invariant on the heap alone: the inner for of a comprehension; zip in a generator expression -/
namespace L2
open PySem PySem.Spec PyProof.Rows
theorem passes_no {X : Cx} : Passes (L2.CX X.prog X.w) X (fun _ _ _ => False) := fun pins σ H s e s' I h => by
  obtain ⟨a, B, H', cls, d, _, _, _, _, _, _, _, h⟩ := h
  exact h.elim
section
variable {K : PySem.W.Frag} {a b : Addr} {xs ys : List V} {H0 : Hp} {B : V → Hp → (Hp → Prop) → Prop} {Nx : Hp → Prop}
theorem w_tup (Pv : Nat → Hp → Prop) (h0 : Pv 0 H0) (hl : ∀ i H, i ≤ xs.length → Pv i H → SqT K H a xs) (hs : ∀ i x H, xs[i]? = some x → Pv i H → B x H (Pv (i + 1))) (hd : ∀ H, Pv xs.length H → Nx H) :
    ∃ W : Nat → Nat → Hp → Prop, (∃ m, W 0 m H0) ∧ ∀ i m H, W i m H → ((Itt K a).stop i H ∧ Nx H) ∨ ((Itt K a).go i H ∧ ∃ N : Hp → Prop, (∀ H', N H' → ∃ m', m' < m ∧ W (i + 1) m' H') ∧ ∀ x H', (Itt K a).yld i H x H' → B x H' N) := by
  refine ⟨fun i m H => m = xs.length - i ∧ i ≤ xs.length ∧ Pv i H, ⟨xs.length, rfl, Nat.zero_le _, h0⟩, ?_⟩
  rintro i m H ⟨rfl, hi, p⟩
  have q := hl i H hi p
  by_cases hlt : i < xs.length
  · refine .inr ⟨⟨xs, _, q, List.getElem?_eq_getElem hlt⟩, Pv (i + 1), fun H' p' => ⟨_, by omega, rfl, hlt, p'⟩, fun x H' y => ?_⟩
    obtain ⟨rfl, y⟩ := y
    exact hs i x _ (y xs q) p
  · have e : i = xs.length := by omega
    subst e
    exact .inl ⟨⟨xs, q, Nat.le_refl _⟩, hd H p⟩
theorem w_list (Pv : Nat → Hp → Prop) (h0 : Pv 0 H0) (hl : ∀ i H, i ≤ xs.length → Pv i H → SqL K H a xs) (hs : ∀ i x H, xs[i]? = some x → Pv i H → B x H (Pv (i + 1))) (hd : ∀ H, Pv xs.length H → Nx H) :
    ∃ W : Nat → Nat → Hp → Prop, (∃ m, W 0 m H0) ∧ ∀ i m H, W i m H → ((Itl K a).stop i H ∧ Nx H) ∨ ((Itl K a).go i H ∧ ∃ N : Hp → Prop, (∀ H', N H' → ∃ m', m' < m ∧ W (i + 1) m' H') ∧ ∀ x H', (Itl K a).yld i H x H' → B x H' N) := by
  refine ⟨fun i m H => m = xs.length - i ∧ i ≤ xs.length ∧ Pv i H, ⟨xs.length, rfl, Nat.zero_le _, h0⟩, ?_⟩
  rintro i m H ⟨rfl, hi, p⟩
  have q := hl i H hi p
  by_cases hlt : i < xs.length
  · refine .inr ⟨⟨xs, _, q, List.getElem?_eq_getElem hlt⟩, Pv (i + 1), fun H' p' => ⟨_, by omega, rfl, hlt, p'⟩, fun x H' y => ?_⟩
    obtain ⟨rfl, y⟩ := y
    exact hs i x _ (y xs q) p
  · have e : i = xs.length := by omega
    subst e
    exact .inl ⟨⟨xs, q, Nat.le_refl _⟩, hd H p⟩
theorem w_range {lo : Int} {n : Nat} (Pv : Nat → Hp → Prop) (h0 : Pv 0 H0) (hs : ∀ i H, i < n → Pv i H → B (.int (lo + i)) H (Pv (i + 1))) (hd : ∀ H, Pv n H → Nx H) :
    ∃ W : Nat → Nat → Hp → Prop, (∃ m, W 0 m H0) ∧ ∀ i m H, W i m H → ((Itr lo n).stop i H ∧ Nx H) ∨ ((Itr lo n).go i H ∧ ∃ N : Hp → Prop, (∀ H', N H' → ∃ m', m' < m ∧ W (i + 1) m' H') ∧ ∀ x H', (Itr lo n).yld i H x H' → B x H' N) := by
  refine ⟨fun i m H => m = n - i ∧ i ≤ n ∧ Pv i H, ⟨n, rfl, Nat.zero_le _, h0⟩, ?_⟩
  rintro i m H ⟨rfl, hi, p⟩
  by_cases hlt : i < n
  · refine .inr ⟨hlt, Pv (i + 1), fun H' p' => ⟨_, by omega, rfl, hlt, p'⟩, fun x H' y => ?_⟩
    obtain ⟨rfl, rfl⟩ := y
    exact hs i _ hlt p
  · have e : i = n := by omega
    subst e
    exact .inl ⟨Nat.le_refl _, hd H p⟩
end
end L2
namespace GXP
open PySem PySem.Spec PyProof.Rows L2 RZ
section
variable {K : PySem.W.Frag} {a b : Addr} {xs ys : List V} {g : TG} {tt : TT} {te : TE} {vs : List Nat} {σ : L2.St} {cy : Cy} {Qe : List V → Hp → Prop} {H0 : Hp}
/-- zip of two tuples of one length -/
theorem gx_zipT (hn : xs.length = ys.length) (Pv : Nat → List V → Hp → Prop) (h0 : Pv 0 [] H0) (hl : ∀ i zs H, Pv i zs H → SqT K H a xs ∧ SqT K H b ys)
    (hs : ∀ i x y T zs H, xs[i]? = some x → ys[i]? = some y → Pv i zs H → H T = none → g (.ref T) (wipe σ vs) (upd H T (.tup [x, y])) fun σ2 H2 => wipe σ2 vs = wipe σ vs ∧ tt σ2 H2 fun b H3 => if b = true then te σ2 H3 fun y H4 => cy zs y H4 (Pv (i + 1)) else Pv (i + 1) zs H3)
    (hd : ∀ zs H, Pv ys.length zs H → Qe zs H) : ∃ W m, W 0 m [] H0 ∧ Turns (ItzT K a b) g tt te vs σ cy Qe W := by
  refine ⟨fun i m zs H => m = ys.length - i ∧ i ≤ ys.length ∧ Pv i zs H, ys.length, ⟨rfl, Nat.zero_le _, h0⟩, ?_⟩
  rintro i m zs H ⟨rfl, hi, p⟩
  obtain ⟨qx, qy⟩ := hl i zs H p
  by_cases hlt : i < ys.length
  · have hlx : i < xs.length := by omega
    refine .inr ⟨⟨xs, ys, _, _, qx, qy, List.getElem?_eq_getElem hlx, List.getElem?_eq_getElem hlt⟩, by omega, Pv (i + 1), fun zs' H' p' => ⟨_, by omega, rfl, hlt, p'⟩, fun v H' y => ?_⟩
    obtain ⟨T, x', y', rfl, hT, rfl, f1, f2⟩ := y
    exact hs i x' y' T zs H (f1 xs qx) (f2 ys qy) p hT
  · have e : i = ys.length := by omega
    subst e
    exact .inl ⟨⟨xs, ys, qx, qy, Or.inr (Nat.le_refl _)⟩, hd zs H p⟩
end
end GXP
/-! ### enumerate of a list or a tuple -/
namespace L2
open PySem PySem.Spec PyProof.Rows
theorem wp_if {α : Type} {M : Model} {A : Around} {E : Value → Shared → Prop} {s : Shared} {c : Bool} {x y : Sem α} {Q : α → Shared → Prop} (h1 : wpAny M A x Q E s) (h2 : wpAny M A y Q E s) : wpAny M A (if c = true then x else y) Q E s := by
  cases c
  · exact h2
  · exact h1
theorem call_enumerate_tup {prog : Program} {w : World} {A : Around} {E : Value → Shared → Prop} {s : Shared} {t : Addr} {items : Array Value} {Q : Value → Shared → Prop} (hI : s.heap.IsTuple t items)
    (hQ : ∀ (h' : Heap) (e : Addr), s.heap.objs.size ≤ e → e ≠ s.heap.objs.size → IsEnum h' e s.heap.objs.size 0 Value.none → h'.IsTupleIter s.heap.objs.size t 0 → (∀ (b : Addr) (o : Obj), s.heap.get? b = some o → h'.get? b = some o) → Q (.ref e) { s with heap := h' }) :
    wpAny (model prog w) A (call (.type "enumerate") [.ref t]) Q E s := by
  refine callType_codes (Q₁ := fun obj s1 => s1.TypeIs obj "enumerate" ∧ Q obj s1) F.called_enumerate (F.typeCall_enumerate_1 _) F.entry_object_init (codeAny_of_tree ?_) fun obj s1 h1 =>
    ⟨h1.1, F.args_object_init_2 obj _, object_init_meets F.called_enumerate.init.lookup F.called_enumerate.made (by decide) prog w A.in1 _ s1 ⟨h1.1, rfl, h1.2⟩⟩
  have pl : plainId "enumerate.__new__" = true := by decide +kernel
  show wpAny _ A.in1.in1 (do checkBuiltinCall "enumerate.__new__" ⟨[.type "enumerate", .ref t], []⟩; again (.builtin "enumerate.__new__" ⟨[.type "enumerate", .ref t], []⟩)) _ _ s
  refine wpAny_bind (wpAny_of_eq (F.newCall_enumerate_1 _) (wpAny_pure ⟨plainId_quiet pl _, codeAny_builtin F.entry_enumerate_new ?_⟩))
  rw [Around.under_plainId pl]
  unfold Builtin.«enumerate.__new__»
  have hsub : isSubtype (Value.type "enumerate") (Value.type "enumerate") = pure true := by rfl
  wp_walk using wpAny_pyIter_tuple hI
  refine wpAny_stack_any fun st => wpAny_pure ?_
  refine wp_if ?_ ?_
  all_goals
    refine wpAny_bind (wpAny_of_eq (show _ = pure (Value.ref t, none) from rfl) ?_)
    wp_walk using wpAny_pyIter_tuple hI
  all_goals
    have o1 : ((s.heap.push { cls := .type "tuple_iterator", data := .fields #[.ref t, .int 0 0] }).push { cls := .type "enumerate", data := .fields #[.none, .bool false, .ref s.heap.objs.size, rawInt 0, .none, .none] }).get? (s.heap.push { cls := .type "tuple_iterator", data := .fields #[.ref t, .int 0 0] }).objs.size = some { cls := .type "enumerate", data := .fields #[.none, .bool false, .ref s.heap.objs.size, rawInt 0, .none, .none] } := Heap.get?_push_size _ rfl
    refine ⟨⟨_, o1, rfl⟩, ?_⟩
    have g2 : ((s.heap.push { cls := .type "tuple_iterator", data := .fields #[.ref t, .int 0 0] }).push { cls := .type "enumerate", data := .fields #[.none, .bool false, .ref s.heap.objs.size, rawInt 0, .none, .none] }).get? s.heap.objs.size = some { cls := .type "tuple_iterator", data := .fields #[.ref t, .int 0 0] } := Heap.get?_push_of_some _ (Heap.get?_push_size _ rfl)
    have hz : (s.heap.push { cls := .type "tuple_iterator", data := .fields #[.ref t, .int 0 0] }).objs.size = s.heap.objs.size + 1 := PyProof.Rows.size_push' _ _
    have hq := hQ _ _ (by rw [hz]; exact Nat.le_succ _) (by rw [hz]; exact Nat.succ_ne_self _) o1 ⟨_, g2, rfl, rfl⟩ fun b o e => Heap.get?_push_of_some _ (Heap.get?_push_of_some _ e)
    exact hq
/-- enumerate of a tuple of n things -/
def IteT (K : PySem.W.Frag) (a : Addr) (n : Nat) : It where
  go := fun i H => ∃ xs x, SqT K H a xs ∧ xs[i]? = some x ∧ xs.length = n
  yld := fun i H v H' => ∃ T x, v = V.ref T ∧ H T = none ∧ H' = upd H T (.tup [V.int (i : Int), x]) ∧ ∀ xs : List V, SqT K H a xs → xs[i]? = some x
  stop := fun i H => ∃ xs, SqT K H a xs ∧ xs.length = n ∧ n ≤ i
theorem vals_get : ∀ {xs : List V} {its : List Value} {i : Nat} {u : Value}, Vals xs its → its[i]? = some u → ∃ x, xs[i]? = some x ∧ RelV x u
  | _, _, i, u, .nil, h => by simp at h
  | _, _, 0, u, .cons r t, h => by
    simp only [List.getElem?_cons_zero, Option.some.injEq] at h
    subst h
    exact ⟨_, rfl, r⟩
  | _, _, i + 1, u, .cons r t, h => by
    simp only [List.getElem?_cons_succ] at h
    obtain ⟨x, h1, h2⟩ := vals_get t h
    exact ⟨x, by simpa using h1, h2⟩
theorem turn_enumT {P : Program} {w : World} {K : PySem.W.Frag} {elts : List Expr} {kk : Nat} {tpos : Pos} {a e it : Addr} {n : Nat} :
    Turn P w K (.Tuple elts kk tpos) (IteT K a n) [e, it] e fun i h => (∃ old, IsEnum h e it (i : Int) old) ∧ h.IsTupleIter it a i ∧ e ≠ it ∧ i ≤ n := by
  have ne_of : ∀ {h : Heap} {i : Nat} {old : Value} {items : Array Value}, IsEnum h e it (i : Int) old → h.IsTupleIter it a i → h.IsTuple a items → e ≠ it → a ≠ it ∧ e ∉ [it, a] := fun he hi ha hne => by
    obtain ⟨o, ho, hc, hd⟩ := hi
    obtain ⟨o2, ho2, hc2, _⟩ := ha
    refine ⟨fun z => ?_, fun m => ?_⟩
    · rw [z, ho] at ho2
      cases ho2
      rw [hc] at hc2
      exact absurd (Value.type.inj hc2) (by decide)
    · simp only [List.mem_cons, List.not_mem_nil, or_false] at m
      rcases m with m | m
      · exact hne m
      · have he2 : _ = some _ := he
        rw [m] at he2
        have he3 := he2.symm.trans ho2
        cases he3
        exact absurd (Value.type.inj hc2) (by decide)
  refine ⟨List.mem_cons_self, fun i h tn b hb => ?_, fun i h h' tn hk => ?_, fun X hP hw hK hcalm i pins s σ H E I hfp tn go => ?_, fun X hP hw hK hcalm i pins s σ H E I hfp tn st => ?_, fun A i s Q E tn q => ?_⟩
  · obtain ⟨⟨old, he⟩, ⟨o, ho, hc, hd⟩, hne, hn⟩ := tn
    simp only [List.mem_cons, List.not_mem_nil, or_false] at hb
    rcases hb with rfl | rfl
    · exact ⟨_, he, fun v z => by cases z⟩
    · exact ⟨o, ho, fun v z => by rw [hd] at z; cases z⟩
  · obtain ⟨⟨old, he⟩, ⟨o, ho, hc, hd⟩, hne, hn⟩ := tn
    exact ⟨⟨old, hk e (by simp) _ he⟩, ⟨o, hk it (by simp) _ ho, hc, hd⟩, hne, hn⟩
  · subst hP
    subst hw
    subst hK
    obtain ⟨xs, x, hq, hx, hlen⟩ := go
    obtain ⟨its, rv, p, hz⟩ := I.tuple hq
    have p' : s.heap.IsTuple a its.toArray := p
    obtain ⟨⟨old, he⟩, hi, hne, hn⟩ := tn
    obtain ⟨h1, h2⟩ := ne_of he hi p' hne
    have W := WalksT.enumerateD (prog := X.prog) (w := X.w) (A := X.A) (Draws.tuple (A := X.A.in1) (I.ok.hd hcalm) it a h1 its.toArray) e hne h2 (by simp)
    have hl := rv.length
    have hlt := (List.getElem?_eq_some_iff.mp hx).1
    refine W.item i s _ E (by rw [List.size_toArray]; omega) ⟨⟨old, he⟩, hi, p'⟩ (fun T vals h' tk hv hT hTup hmid hk => ⟨_, rfl, ?_⟩)
    obtain ⟨t, x', hx', rfl⟩ := hv
    have hTw := W.apart _ _ _ hmid
    refine W.go elts kk tpos i T { s with heap := h', toks := tk } _ E hmid (fun h2 hst hk2 => ?_)
    obtain ⟨⟨old2, he2⟩, hi2, _⟩ := hst
    obtain ⟨x2, hx2, hr⟩ := vals_get rv (by simpa using hx')
    have ex : x2 = x := Option.some.inj (hx2.symm.trans hx)
    subst ex
    obtain ⟨oT, hoT, hcT, nT, hdT⟩ := hTup
    have hn0 : ∀ b ∈ [e, it], b ≠ T := fun b hb z => by
      refine absurd hT (Nat.not_le_of_lt ?_)
      rw [← z]
      simp only [List.mem_cons, List.not_mem_nil, or_false] at hb
      rcases hb with rfl | rfl
      · exact Heap.lt_size he
      · obtain ⟨o, ho, _⟩ := hi
        exact Heap.lt_size ho
    refine ⟨.ref T, upd H T (.tup [V.int (i : Int), x2]), I.turnedNew (ch := [e, it]) (fun b o hb eo => hk2 b o hb (hk b o hb eo)) hfp hT
      (show ObjOk X.prog X.w _ _ _ (.tup [V.int (i : Int), x2]) from ⟨by rw [sizeLine_eq]; simp, [.int (i : Int) t, x'], .cons ⟨t, rfl⟩ (.cons hr .nil), oT, hk2 _ _ hTw hoT, hcT, nT, hdT⟩), rfl, ⟨T, x2, rfl, I.hok.fresh hT, rfl, fun ys hys => by rw [I.tuple_inj hys hq]; exact hx⟩, ⟨⟨old2, he2⟩, hi2, hne, by omega⟩, fun b hb => ?_⟩
    rw [upd_ne (hn0 b hb)]
    exact (hfp b hb).1
  · subst hP
    subst hw
    subst hK
    obtain ⟨xs, hq, hlen, hle⟩ := st
    obtain ⟨its, rv, p, hz⟩ := I.tuple hq
    have p' : s.heap.IsTuple a its.toArray := p
    obtain ⟨⟨old, he⟩, hi, hne, hn⟩ := tn
    obtain ⟨h1, h2⟩ := ne_of he hi p' hne
    have W := WalksT.enumerateD (prog := X.prog) (w := X.w) (A := X.A) (Draws.tuple (A := X.A.in1) (I.ok.hd hcalm) it a h1 its.toArray) e hne h2 (by simp)
    have hl := rv.length
    have ei : i = its.toArray.size := by rw [List.size_toArray]; omega
    refine W.done s _ E ⟨⟨old, by rw [← ei]; exact he⟩, by rw [← ei]; exact hi, p'⟩ (fun h' tk hk => ⟨rfl, I.turnedL (ch := [e, it]) hk hfp⟩)
  · obtain ⟨⟨old, he⟩, _⟩ := tn
    exact wpAny_pyIter_enum he q
/-- enumerate(l), l a tuple -/
def iEnumT (K : PySem.W.Frag) (ta : TA) : TI := fun σ H R => ta σ H fun vs H1 => ∃ a xs, vs = [.ref a] ∧ SqT K H1 a xs ∧ R (IteT K a xs.length) H1
theorem pi_enumT {X : Cx} {e : Expr} {ta : TA} {p pos tpos : Pos} {elts : List Expr} {kk : Nat} (hcalm : X.calm = true) (hg : Gl X "enumerate") (hm : X.mg "enumerate" = none) (ha : PA X [e] ta)
    (he : starEach [e] X.env = (false, eval e X.env) :: starEach [] X.env := by rfl) : PI X (.Tuple elts kk tpos) (.Call (.Name "enumerate" p) [e] [] pos) (iEnumT X.K ta) := by
  refine ⟨fun pins s σ H R I h => ?_⟩
  refine wpAny_Call_Name_kw (ld_blt I hg hm (by decide +kernel : bootBuiltins "enumerate" = some (.type "enumerate")) (PyProof.Rows.callWith_type1 (thn (ha.run pos pins s σ H _ I h) fun us s1 ⟨vs, H1, I1, r, a, xs, ev, hq, q⟩ => ?_) he (by rfl)))
  subst ev
  cases r with
  | cons r t =>
    cases t
    cases r
    obtain ⟨its, rv, p', hz⟩ := I1.tuple hq
    refine call_enumerate_tup (show s1.heap.IsTuple a its.toArray from p') fun h' e1 hle hne hE hT hk => ?_
    have I2 : Inv X pins σ H1 { s1 with heap := h' } := I1.kept (t' := s1.toks) hk
    refine wpAny_pyIter_enum hE ⟨e1, [e1, s1.heap.objs.size], _, _, H1, rfl, I2, turn_enumT, ⟨⟨_, hE⟩, hT, hne, Nat.zero_le _⟩, fun b hb => ?_, q⟩
    simp only [List.mem_cons, List.not_mem_nil, or_false] at hb
    rcases hb with rfl | rfl
    · exact I1.fpOk hle (I1.hok.fresh hle)
    · exact I1.fpOk (Nat.le_refl _) (I1.hok.fresh (Nat.le_refl _))
/-- a walk that counts the things of a list or a tuple that stood in H0 -/
structure EnumW (J : It) (H0 : Hp) (xs : List V) : Prop where
  go : ∀ i H, EXT.Ext H0 H → i < xs.length → J.go i H
  stop : ∀ H, EXT.Ext H0 H → J.stop xs.length H
  yld : ∀ i H v H', EXT.Ext H0 H → J.yld i H v H' → ∃ T x, v = V.ref T ∧ H T = none ∧ H' = upd H T (.tup [V.int (i : Int), x]) ∧ xs[i]? = some x
theorem enumW_list {K : PySem.W.Frag} {H0 : Hp} {a : Addr} {xs : List V} (h : SqL K H0 a xs) : EnumW (Ite K a) H0 xs :=
  ⟨fun i H s hi => ⟨xs, _, s.seq h, List.getElem?_eq_getElem hi⟩, fun H s => ⟨xs, s.seq h, Nat.le_refl _⟩, fun i H v H' s ⟨T, x, e1, e2, e3, e4⟩ => ⟨T, x, e1, e2, e3, e4 xs (s.seq h)⟩⟩
theorem enumW_tup {K : PySem.W.Frag} {H0 : Hp} {a : Addr} {xs : List V} (h : SqT K H0 a xs) : EnumW (IteT K a xs.length) H0 xs :=
  ⟨fun i H s hi => ⟨xs, _, s.tup h, List.getElem?_eq_getElem hi, rfl⟩, fun H s => ⟨xs, s.tup h, rfl, Nat.le_refl _⟩, fun i H v H' s ⟨T, x, e1, e2, e3, e4⟩ => ⟨T, x, e1, e2, e3, e4 xs (s.tup h)⟩⟩
/-- enumerate(l), l a list or a tuple -/
def iEnumS (K : PySem.W.Frag) (ta : TA) : TI := fun σ H R => ta σ H fun vs H1 => ∃ a xs H0, vs = [.ref a] ∧ EXT.Ext H0 H1 ∧ (SqL K H0 a xs ∨ SqT K H0 a xs) ∧ ∀ J, EnumW J H0 xs → R J H1
theorem pi_enumS {X : Cx} {e : Expr} {ta : TA} {p pos tpos : Pos} {elts : List Expr} {kk : Nat} (hcalm : X.calm = true) (hg : Gl X "enumerate") (hm : X.mg "enumerate" = none) (ha : PA X [e] ta)
    (he : starEach [e] X.env = (false, eval e X.env) :: starEach [] X.env := by rfl) : PI X (.Tuple elts kk tpos) (.Call (.Name "enumerate" p) [e] [] pos) (iEnumS X.K ta) := by
  refine ⟨fun pins s σ H R I h => ?_⟩
  refine wpAny_Call_Name_kw (ld_blt I hg hm (by decide +kernel : bootBuiltins "enumerate" = some (.type "enumerate")) (PyProof.Rows.callWith_type1 (thn (ha.run pos pins s σ H _ I h) fun us s1 ⟨vs, H1, I1, r, a, xs, H0, ev, hE0, hq, q⟩ => ?_) he (by rfl)))
  subst ev
  cases r with
  | cons r t =>
    cases t
    cases r
    rcases hq with hq | hq
    · obtain ⟨its, rv, p', hz⟩ := I1.list (hE0.seq hq)
      refine call_enumerate_list p'.isList fun h' hE hT hsz hk => ?_
      have I2 : Inv X pins σ H1 { s1 with heap := h' } := I1.kept (t' := s1.toks) hk
      have hle : s1.heap.objs.size ≤ s1.heap.objs.size + 1 := Nat.le_succ _
      refine wpAny_pyIter_enum hE ⟨s1.heap.objs.size + 1, [s1.heap.objs.size + 1, s1.heap.objs.size], _, _, H1, rfl, I2, turn_enum a _ _, ⟨⟨_, hE⟩, hT, Nat.succ_ne_self _⟩, fun b hb => ?_, q _ (enumW_list hq)⟩
      simp only [List.mem_cons, List.not_mem_nil, or_false] at hb
      rcases hb with rfl | rfl
      · exact I1.fpOk hle (I1.hok.fresh hle)
      · exact I1.fpOk (Nat.le_refl _) (I1.hok.fresh (Nat.le_refl _))
    · obtain ⟨its, rv, p', hz⟩ := I1.tuple (hE0.tup hq)
      refine call_enumerate_tup (show s1.heap.IsTuple a its.toArray from p') fun h' e1 hle hne hE hT hk => ?_
      have I2 : Inv X pins σ H1 { s1 with heap := h' } := I1.kept (t' := s1.toks) hk
      refine wpAny_pyIter_enum hE ⟨e1, [e1, s1.heap.objs.size], _, _, H1, rfl, I2, turn_enumT, ⟨⟨_, hE⟩, hT, hne, Nat.zero_le _⟩, fun b hb => ?_, q _ (enumW_tup hq)⟩
      simp only [List.mem_cons, List.not_mem_nil, or_false] at hb
      rcases hb with rfl | rfl
      · exact I1.fpOk hle (I1.hok.fresh hle)
      · exact I1.fpOk (Nat.le_refl _) (I1.hok.fresh (Nat.le_refl _))
section
variable {J : It} {H0 : Hp} {xs : List V}
theorem w_enum {B : V → Hp → (Hp → Prop) → Prop} {Nx : Hp → Prop} {H1 : Hp} (w : EnumW J H0 xs) (Pv : Nat → Hp → Prop) (h0 : Pv 0 H1) (hl : ∀ i H, i ≤ xs.length → Pv i H → EXT.Ext H0 H)
    (hs : ∀ i x T H, xs[i]? = some x → Pv i H → H T = none → B (.ref T) (upd H T (.tup [V.int (i : Int), x])) (Pv (i + 1))) (hd : ∀ H, Pv xs.length H → Nx H) :
    ∃ W : Nat → Nat → Hp → Prop, (∃ m, W 0 m H1) ∧ ∀ i m H, W i m H → (J.stop i H ∧ Nx H) ∨ (J.go i H ∧ ∃ N : Hp → Prop, (∀ H', N H' → ∃ m', m' < m ∧ W (i + 1) m' H') ∧ ∀ x H', J.yld i H x H' → B x H' N) := by
  refine ⟨fun i m H => m = xs.length - i ∧ i ≤ xs.length ∧ Pv i H, ⟨xs.length, rfl, Nat.zero_le _, h0⟩, ?_⟩
  rintro i m H ⟨rfl, hi, p⟩
  have s := hl i H hi p
  by_cases hlt : i < xs.length
  · refine .inr ⟨w.go i H s hlt, Pv (i + 1), fun H' p' => ⟨_, by omega, rfl, hlt, p'⟩, fun v H' y => ?_⟩
    obtain ⟨T, x, rfl, hT, rfl, hx⟩ := w.yld i H v H' s y
    exact hs i x T H hx p hT
  · have e : i = xs.length := by omega
    subst e
    exact .inl ⟨w.stop H s, hd H p⟩
theorem for_enum {g : TG} {tb : TS} {D : Ends} {σ0 : St} {H1 : Hp} (w : EnumW J H0 xs) (Pv : Nat → St → Hp → Prop) (h0 : Pv 0 σ0 H1) (hl : ∀ i σ H, i ≤ xs.length → Pv i σ H → EXT.Ext H0 H)
    (hs : ∀ i x T σ H, xs[i]? = some x → Pv i σ H → H T = none → g (.ref T) σ (upd H T (.tup [V.int (i : Int), x])) fun σ2 H2 => tb { D with nx := Pv (i + 1), ct := Pv (i + 1), bk := D.nx } σ2 H2) (hd : ∀ σ H, Pv xs.length σ H → D.nx σ H) :
    ∃ W : Nat → Nat → St → Hp → Prop, (∃ m, W 0 m σ0 H1) ∧ ∀ i m σ H, W i m σ H →
      (J.stop i H ∧ D.nx σ H) ∨ (J.go i H ∧ ∃ N : St → Hp → Prop, (∀ σ' H', N σ' H' → ∃ m', m' < m ∧ W (i + 1) m' σ' H') ∧ ∀ x H', J.yld i H x H' → g x σ H' fun σ2 H2 => tb { D with nx := N, ct := N, bk := D.nx } σ2 H2) := by
  refine ⟨fun i m σ H => m = xs.length - i ∧ i ≤ xs.length ∧ Pv i σ H, ⟨xs.length, rfl, Nat.zero_le _, h0⟩, ?_⟩
  rintro i m σ H ⟨rfl, hi, p⟩
  have s := hl i σ H hi p
  by_cases hlt : i < xs.length
  · refine .inr ⟨w.go i H s hlt, Pv (i + 1), fun σ' H' p' => ⟨_, by omega, rfl, hlt, p'⟩, fun v H' y => ?_⟩
    obtain ⟨T, x, rfl, hT, rfl, hx⟩ := w.yld i H v H' s y
    exact hs i x T σ H hx p hT
  · have e : i = xs.length := by omega
    subst e
    exact .inl ⟨w.stop H s, hd σ H p⟩
end
/-- a walk over a list or a tuple that stood in H0 -/
structure SeqW (J : It) (H0 : Hp) (xs : List V) : Prop where
  go : ∀ i H, EXT.Ext H0 H → i < xs.length → J.go i H
  stop : ∀ H, EXT.Ext H0 H → J.stop xs.length H
  yld : ∀ i H v H', EXT.Ext H0 H → J.yld i H v H' → H' = H ∧ xs[i]? = some v
theorem seqW_list {K : PySem.W.Frag} {H : Hp} {a : Addr} {xs : List V} (h : SqL K H a xs) : SeqW (Itl K a) H xs := ⟨fun i H s hi => ⟨xs, _, s.seq h, List.getElem?_eq_getElem hi⟩, fun H s => ⟨xs, s.seq h, Nat.le_refl _⟩, fun i H v H' s y => ⟨y.1, y.2 xs (s.seq h)⟩⟩
theorem seqW_tup {K : PySem.W.Frag} {H : Hp} {a : Addr} {xs : List V} (h : SqT K H a xs) : SeqW (Itt K a) H xs := ⟨fun i H s hi => ⟨xs, _, s.tup h, List.getElem?_eq_getElem hi⟩, fun H s => ⟨xs, s.tup h, Nat.le_refl _⟩, fun i H v H' s y => ⟨y.1, y.2 xs (s.tup h)⟩⟩
/-- a list or a tuple, walked alike -/
def iSeqW (K : PySem.W.Frag) (tl : TE) : TI := fun σ H R => tl σ H fun x H1 => ∃ a xs H0, x = .ref a ∧ EXT.Ext H0 H1 ∧ (SqL K H0 a xs ∨ SqT K H0 a xs) ∧ ∀ J, SeqW J H0 xs → R J H1
theorem pi_seqW {X : Cx} {tg l : Expr} {tl : TE} (hl : PE X l tl) : PI X tg l (iSeqW X.K tl) := by
  refine ⟨fun pins s σ H R I h => ?_⟩
  refine thn (hl.run pins s σ H _ I h) fun v s1 ⟨x, H1, I1, r1, a, xs, H0, e, hE0, hq, q⟩ => ?_
  subst e
  cases r1
  rcases hq with hq | hq
  · obtain ⟨its, rv, p, hz⟩ := I1.list (hE0.seq hq)
    refine wpAny_pyIter_list p.isList ⟨s1.heap.objs.size, [s1.heap.objs.size], _, _, H1, rfl, I1.kept (t' := s1.toks) fun b o e => Heap.get?_push_of_some _ e, turn_list a _, ⟨_, Heap.get?_push_size _ rfl, rfl, rfl⟩, fun b hb => ?_, q _ (seqW_list hq)⟩
    obtain rfl : b = s1.heap.objs.size := by simpa using hb
    exact I1.fpOk (Nat.le_refl _) (I1.hok.fresh (Nat.le_refl _))
  · obtain ⟨its, rv, p, hz⟩ := I1.tuple (hE0.tup hq)
    refine wpAny_pyIter_tuple (show s1.heap.IsTuple a its.toArray from p) ⟨s1.heap.objs.size, [s1.heap.objs.size], _, _, H1, rfl, I1.kept (t' := s1.toks) fun b o e => Heap.get?_push_of_some _ e, turn_tuple a _, ⟨_, Heap.get?_push_size _ rfl, rfl, rfl⟩, fun b hb => ?_, q _ (seqW_tup hq)⟩
    obtain rfl : b = s1.heap.objs.size := by simpa using hb
    exact I1.fpOk (Nat.le_refl _) (I1.hok.fresh (Nat.le_refl _))
theorem w_seq {J : It} {H0 : Hp} {xs : List V} {B : V → Hp → (Hp → Prop) → Prop} {Nx : Hp → Prop} {H1 : Hp} (w : SeqW J H0 xs) (Pv : Nat → Hp → Prop) (h0 : Pv 0 H1) (hl : ∀ i H, i ≤ xs.length → Pv i H → EXT.Ext H0 H)
    (hs : ∀ i x H, xs[i]? = some x → Pv i H → B x H (Pv (i + 1))) (hd : ∀ H, Pv xs.length H → Nx H) :
    ∃ W : Nat → Nat → Hp → Prop, (∃ m, W 0 m H1) ∧ ∀ i m H, W i m H → (J.stop i H ∧ Nx H) ∨ (J.go i H ∧ ∃ N : Hp → Prop, (∀ H', N H' → ∃ m', m' < m ∧ W (i + 1) m' H') ∧ ∀ x H', J.yld i H x H' → B x H' N) := by
  refine ⟨fun i m H => m = xs.length - i ∧ i ≤ xs.length ∧ Pv i H, ⟨xs.length, rfl, Nat.zero_le _, h0⟩, ?_⟩
  rintro i m H ⟨rfl, hi, p⟩
  have s := hl i H hi p
  by_cases hlt : i < xs.length
  · refine .inr ⟨w.go i H s hlt, Pv (i + 1), fun H' p' => ⟨_, by omega, rfl, hlt, p'⟩, fun v H' y => ?_⟩
    obtain ⟨rfl, hx⟩ := w.yld i H v H' s y
    exact hs i v _ hx p
  · have e : i = xs.length := by omega
    subst e
    exact .inl ⟨w.stop H s, hd H p⟩
end L2
/-! ### o[i] of a list, by values; sorted of a tuple of ints -/
namespace AUG
open PySem PySem.Spec PyProof.Rows L2
section
variable {X : Cx}
def rGetL (K : PySem.W.Frag) : V → V → Hp → VK → Prop := fun x y H Q => ∃ p xs i v, x = .ref p ∧ y = .int i ∧ 0 ≤ i ∧ SqL K H p xs ∧ xs[i.toNat]? = some v ∧ Q v H
theorem get_list : PGet X (rGetL X.K) := by
  intro pins s σ H x y v u Q I rx ry h
  obtain ⟨p, xs, i, z, rfl, rfl, h0, hq, he, q⟩ := h
  cases rx
  obtain ⟨t, rfl⟩ := ry
  obtain ⟨its, r, pl, hz⟩ := I.list hq
  obtain ⟨w, ew, rw'⟩ := r.get he
  have hl := r.length
  have hn := line63
  have hlt := (List.getElem?_eq_some_iff.mp he).1
  exact wpAny_getItem_list pl.isList h0 (by omega) (by simpa using ew) ⟨z, H, I, rw', q⟩
theorem sorted_tup {prog : Program} {w : World} {A : Around} {E : Value → Shared → Prop} {s : Shared} {t : Addr} {vs : List Value} {ns : List Int} {Q : Value → Shared → Prop} (ht : IsTup s.heap t vs.toArray) (hI : IntsAre vs ns) (h64 : vs.length < 64)
    (h : ∀ (h1 h' : Heap) (e : Nat) (out : Array Value) (ns' : List Int), (∀ b o, s.heap.get? b = some o → h1.get? b = some o) → (∀ b o, h1.get? b = some o → h'.get? b = some o) → h'.get? h1.objs.size = some (seqObj "list" out e) → IntsAre out.toList ns' → ns'.Perm ns → ns'.Pairwise (· ≤ ·) → Q (.ref h1.objs.size) { s with heap := h' }) :
    wpAny (model prog w) A (call (.builtin "sorted") [.ref t]) Q E s := by
  obtain ⟨o, ho, hc, n, hd⟩ := ht
  have hz : vs.length ≤ sizeLine := by rw [sizeLine_eq]; omega
  refine Calls.call_function_entry kind_sorted plain_sorted entry_sorted (args_sorted1 _) ?_
  unfold Builtin.«sorted»
  refine wpAny_bind (m := checkCount "sorted" 1 1 _) (wpAny_pure ?_)
  refine wpAny_bind (wpAny_collect_seq (T := "tuple") t (.inr rfl) ho hc hd (fun h1 k1 => ?_) (by simpa using hz))
  show wpAny _ _ _ _ _ _
  have e0 : vs.toArray.toList = vs := rfl
  rw [e0]
  refine wpAny_bind (wpAny_newList (s := { s with heap := h1 }) ?_ hz)
  have hoL : (h1.push (seqObj "list" vs.toArray 0)).get? h1.objs.size = some (seqObj "list" vs.toArray 0) := Heap.get?_push_size _ rfl
  show wpAny _ _ _ _ _ { s with heap := h1.push (seqObj "list" vs.toArray 0) }
  refine wpAny_bind (wpAny_holding (wpAny_call_entry slot_list_sort ⟨_, hoL, rfl⟩ entry_list_sort (list_sort_tree (s := { s with heap := h1.push (seqObj "list" vs.toArray 0) }) hoL hI h64 fun out ns' a1 a2 a3 => ⟨_, rfl, ?_⟩) (args_list_sort _)))
  obtain ⟨e, he⟩ := sortedHeap_at (out := out) hoL
  refine wpAny_pure ⟨_, rfl, h h1 _ e out ns' k1 (fun b o hb1 => ?_) he a1 a2 a3⟩
  have hlt := Heap.lt_size hb1
  rw [sortedHeap_old (Nat.ne_of_lt hlt) (by rw [size_push']; exact Nat.lt_succ_of_lt hlt)]
  exact Heap.get?_push_of_some _ hb1
/-- sorted(t), ints -/
def rSortedTu (K : PySem.W.Frag) : List V → Hp → VK → Prop := fun vs H Q => ∃ (a : Addr) (ns : List Int), vs = [V.ref a] ∧ SqT K H a (ns.map V.int) ∧ ns.length < 64 ∧
  ∀ (ns' : List Int) (p : Addr), ns'.Perm ns → ns'.Pairwise (· ≤ ·) → H p = none → Q (.ref p) (upd H p (.lst (ns'.map V.int)))
theorem cr_sortedTu : CallR X (.builtin "sorted") (rSortedTu X.K) := by
  intro pins s σ H vs us Q I r h
  obtain ⟨a, ns, rfl, hs, h64, q⟩ := h
  obtain ⟨its, rv, ht, _⟩ := I.tuple hs
  rw [Vals.ref1 r]
  have hi := rv.ints
  refine sorted_tup ht hi (by rw [hi.length]; exact h64) fun g h' e out ns' k1 kp he h1 h2 h3 => ?_
  have hlen : (ns'.map V.int).length ≤ sizeLine := by rw [List.length_map, h2.length_eq]; exact small64 h64
  have I1 : Inv X pins σ H { s with heap := g } := I.kept (t' := s.toks) k1
  exact ⟨.ref _, upd H g.objs.size (.lst (ns'.map V.int)), I1.laid (t' := s.toks) kp (Nat.le_refl _) ⟨hlen, out.toList, e, vals_of_ints h1, he⟩, rfl, q ns' _ h2 h3 (I1.hok.fresh (Nat.le_refl _))⟩
/-- an int's truth -/
theorem tru_int : TruR X (fun x H Q => ∃ i : Int, x = .int i ∧ Q (i != 0) H) := by
  intro pins s σ H x v Q I rx h
  obtain ⟨i, rfl, q⟩ := h
  exact tru_ok pins s σ H (.int i) v Q I rx ⟨_, rfl, q⟩
def tTruI (ta : TE) : TT := fun σ H Q => ta σ H fun x H' => ∃ i : Int, x = .int i ∧ Q (i != 0) H'
theorem pt_truthI {a : Expr} {ta : TE} (ha : PE X a ta) (he : ∀ whole, isTrue a X.env whole = (do let v ← whole; standAt a.pos; holding [v] (truthy v))) : PT X a (tTruI ta) :=
  ⟨fun pins s σ H Q I h => isTrue_plain (thn (ha.run pins s σ H _ I h) fun v s1 ⟨x, H1, I1, r1, q1⟩ => tru_int pins s1 σ H1 x v Q I1 r1 q1) (he _)⟩
end
end AUG
/-! ### a tuple times a number from 0 on; enumerate in a generator expression -/
namespace L2
open PySem PySem.Spec PyProof.Rows
theorem tuple_mul1 (l : Addr) (items : Array Value) (n : Nat) (dd : Option Addr) (sl : Array (Option Value)) (u : Tok) :
    Meets (Builtin.«tuple.__mul__» ⟨[.ref l, .int 1 u], []⟩) (fun _ R s => s.heap.get? l = some { cls := .type "tuple", dict := dd, data := .seq items n, slots := sl } ∧ R (.ok (.ret (Value.ref l))) s) :=
  .of_wp fun prog w A R s h => by
    obtain ⟨hp, g, d, tk, os⟩ := s
    obtain ⟨hl, h⟩ := h
    have f1 := AutoSeq1.idx_int
    wp_walk using wpAny_loadPart' hl
    exact ⟨_, rfl, h⟩
theorem tuple_mul0 (l : Addr) (items : Array Value) (n : Nat) (dd : Option Addr) (sl : Array (Option Value)) (u : Tok) (hne : items.isEmpty = false) :
    Meets (Builtin.«tuple.__mul__» ⟨[.ref l, .int 0 u], []⟩) (fun _ R s => s.heap.get? l = some { cls := .type "tuple", dict := dd, data := .seq items n, slots := sl } ∧
      R (.ok (.ret (Value.ref s.heap.objs.size))) { s with heap := s.heap.push { cls := Value.type "tuple", data := Data.seq #[] }, toks := s.toks }) :=
  .of_wp fun prog w A R s h => by
    obtain ⟨hp, g, d, tk, os⟩ := s
    obtain ⟨hl, h⟩ := h
    have f1 := AutoSeq1.idx_int
    wp_walk using wpAny_loadPart' hl
    exact ⟨_, rfl, h⟩
/-- t * k, t a tuple that is not (): t itself for 1 -/
def rRepA (K : PySem.W.Frag) : R2 := fun x y H Q => ∃ l k xs, x = .ref l ∧ y = .int k ∧ SqT K H l xs ∧ xs ≠ [] ∧ 0 ≤ k ∧ k ≤ 1000 ∧ xs.length ≤ 1000 ∧ (k = 1 → Q (.ref l) H) ∧ (k ≠ 1 → ∀ p, H p = none → Q (.ref p) (upd H p (.tup (List.replicate k.toNat xs).flatten)))
theorem op_repA {X : Cx} : OpR X (binaryOp .Mult) (rRepA X.K) := by
  intro pins s σ H x y v u Q I rx ry h
  obtain ⟨l, k, xs, rfl, rfl, hT, hne, h0, h2, hz, q1, q2⟩ := h
  by_cases k2 : 2 ≤ k
  · exact op_repT pins s σ H _ _ v u Q I rx ry ⟨l, k, xs, rfl, rfl, hT, hne, k2, h2, hz, q2 (by omega)⟩
  cases rx
  obtain ⟨t, rfl⟩ := ry
  obtain ⟨its, r, ⟨⟨cls, dd, data, sl⟩, ho, hc, n, hd⟩, hs⟩ := I.tuple hT
  simp only at hc hd
  subst hc hd
  have hle : its.length = xs.length := r.length.symm
  have hn : its ≠ [] := fun e => hne (by
    rw [e] at hle
    exact List.eq_nil_of_length_eq_zero hle.symm)
  have hi : its.toArray.isEmpty = false := by
    cases its with
    | nil => exact absurd rfl hn
    | cons a b => rfl
  by_cases k1 : k = 1
  · subst k1
    exact wpAny_binaryOp_repeat_ref (T := "tuple") (U := "int") (by decide) ⟨_, ho, rfl⟩ (fun s' => typeIs_int s' 1 t) noFill_tuple_mul F.fills_int_mul F.slot_int_rmul repeat_tuple F.slot_int_index.lookup
      (call_meets F.slot_int_rmul (typeIs_int s 1 t) F.entry_int_rmul (F.args_int_rmul_2 _ _) (int_rmul_tuple 1 t l its.toArray n dd sl)
        ⟨ho, rfl, ⟨_, ho, rfl⟩, call_meets F.slot_tuple_mul ⟨_, ho, rfl⟩ F.entry_tuple_mul (F.args_tuple_mul_2 _ _) (tuple_mul1 l its.toArray n dd sl t) ⟨ho, ⟨.ref l, H, I, rfl, q1 rfl⟩⟩⟩)
  · obtain rfl : k = 0 := by omega
    refine wpAny_binaryOp_repeat_ref (T := "tuple") (U := "int") (by decide) ⟨_, ho, rfl⟩ (fun s' => typeIs_int s' 0 t) noFill_tuple_mul F.fills_int_mul F.slot_int_rmul repeat_tuple F.slot_int_index.lookup
      (call_meets F.slot_int_rmul (typeIs_int s 0 t) F.entry_int_rmul (F.args_int_rmul_2 _ _) (int_rmul_tuple 0 t l its.toArray n dd sl)
        ⟨ho, rfl, ⟨_, ho, rfl⟩, call_meets F.slot_tuple_mul ⟨_, ho, rfl⟩ F.entry_tuple_mul (F.args_tuple_mul_2 _ _) (tuple_mul0 l its.toArray n dd sl t hi) ⟨ho, ?_⟩⟩)
    refine ⟨.ref s.heap.objs.size, _, I.laid (t' := s.toks) (o := .tup []) (fun b ob q => Heap.get?_push_of_some _ q) (Nat.le_refl _) ?_, rfl, q2 (by decide) _ (I.hok.fresh (Nat.le_refl _))⟩
    exact ⟨Nat.zero_le _, [], .nil, IsTup.new _ _⟩
end L2
namespace GXP
open PySem PySem.Spec PyProof.Rows L2
section
variable {J : It} {H0 : Hp} {xs : List V} {g : TG} {tt : TT} {te : TE} {vs : List Nat} {σ : L2.St} {cy : Cy} {Qe : List V → Hp → Prop} {H1 : Hp}
theorem gx_enum (w : EnumW J H0 xs) (Pv : Nat → List V → Hp → Prop) (h0 : Pv 0 [] H1) (hl : ∀ i ys H, i ≤ xs.length → Pv i ys H → EXT.Ext H0 H)
    (hs : ∀ i x T ys H, xs[i]? = some x → Pv i ys H → H T = none → g (.ref T) (wipe σ vs) (upd H T (.tup [V.int (i : Int), x])) fun σ2 H2 => wipe σ2 vs = wipe σ vs ∧ tt σ2 H2 fun b H3 => if b = true then te σ2 H3 fun y H4 => cy ys y H4 (Pv (i + 1)) else Pv (i + 1) ys H3)
    (hd : ∀ ys H, Pv xs.length ys H → Qe ys H) : ∃ W m, W 0 m [] H1 ∧ Turns J g tt te vs σ cy Qe W := by
  refine ⟨fun i m ys H => m = xs.length - i ∧ i ≤ xs.length ∧ Pv i ys H, xs.length, ⟨rfl, Nat.zero_le _, h0⟩, ?_⟩
  rintro i m ys H ⟨rfl, hi, p⟩
  have s := hl i ys H hi p
  by_cases hlt : i < xs.length
  · refine .inr ⟨w.go i H s hlt, by omega, Pv (i + 1), fun ys' H' p' => ⟨_, by omega, rfl, hlt, p'⟩, fun v H' y => ?_⟩
    obtain ⟨T, x, rfl, hT, rfl, hx⟩ := w.yld i H v H' s y
    exact hs i x T ys H hx p hT
  · have e : i = xs.length := by omega
    subst e
    exact .inl ⟨w.stop H s, hd ys H p⟩
end
end GXP
/-! ### a locked dict walked by its keys -/
namespace L2
open PySem PySem.Spec PyProof.Rows
section
variable {d : Addr} {o : Obj} {H0 : Hp}
theorem for_keysK {kvs : List (Key × V)} {g : TG} {tb : TS} {D : Ends} {σ0 : St} (Pv : Nat → St → Hp → Prop) (h0 : Pv 0 σ0 H0) (hl : ∀ i σ H, i ≤ kvs.length → Pv i σ H → H d = some (.frz o (.dK kvs)))
    (hs : ∀ i k v σ H, kvs[i]? = some (k, v) → Pv i σ H → g (kV k) σ H fun σ2 H2 => tb { D with nx := Pv (i + 1), ct := Pv (i + 1), bk := D.nx } σ2 H2) (hd : ∀ σ H, Pv kvs.length σ H → D.nx σ H) :
    ∃ W : Nat → Nat → St → Hp → Prop, (∃ m, W 0 m σ0 H0) ∧ ∀ i m σ H, W i m σ H →
      ((Itk d o kvs).stop i H ∧ D.nx σ H) ∨ ((Itk d o kvs).go i H ∧ ∃ N : St → Hp → Prop, (∀ σ' H', N σ' H' → ∃ m', m' < m ∧ W (i + 1) m' σ' H') ∧ ∀ x H', (Itk d o kvs).yld i H x H' → g x σ H' fun σ2 H2 => tb { D with nx := N, ct := N, bk := D.nx } σ2 H2) := by
  refine ⟨fun i m σ H => m = kvs.length - i ∧ i ≤ kvs.length ∧ Pv i σ H, ⟨_, rfl, Nat.zero_le _, h0⟩, ?_⟩
  rintro i m σ H ⟨rfl, hi, p⟩
  have q := hl i σ H hi p
  by_cases hlt : i < kvs.length
  · refine .inr ⟨⟨q, hlt⟩, Pv (i + 1), fun σ' H' p' => ⟨_, by omega, rfl, hlt, p'⟩, fun x H' y => ?_⟩
    obtain ⟨rfl, k, v, e, rfl⟩ := y
    exact hs i k v σ _ e p
  · have e : i = kvs.length := by omega
    subst e
    exact .inl ⟨⟨q, Nat.le_refl _⟩, hd σ H p⟩
theorem for_keysT {kvs : List (List Key × V)} {g : TG} {tb : TS} {D : Ends} {σ0 : St} (Pv : Nat → St → Hp → Prop) (h0 : Pv 0 σ0 H0) (hl : ∀ i σ H, i ≤ kvs.length → Pv i σ H → H d = some (.frz o (.dT kvs)))
    (hs : ∀ i k v q σ H, kvs[i]? = some (k, v) → H q = some (.tup (k.map kV)) → Pv i σ H → g (.ref q) σ H fun σ2 H2 => tb { D with nx := Pv (i + 1), ct := Pv (i + 1), bk := D.nx } σ2 H2) (hd : ∀ σ H, Pv kvs.length σ H → D.nx σ H) :
    ∃ W : Nat → Nat → St → Hp → Prop, (∃ m, W 0 m σ0 H0) ∧ ∀ i m σ H, W i m σ H →
      ((Itkt d o kvs).stop i H ∧ D.nx σ H) ∨ ((Itkt d o kvs).go i H ∧ ∃ N : St → Hp → Prop, (∀ σ' H', N σ' H' → ∃ m', m' < m ∧ W (i + 1) m' σ' H') ∧ ∀ x H', (Itkt d o kvs).yld i H x H' → g x σ H' fun σ2 H2 => tb { D with nx := N, ct := N, bk := D.nx } σ2 H2) := by
  refine ⟨fun i m σ H => m = kvs.length - i ∧ i ≤ kvs.length ∧ Pv i σ H, ⟨_, rfl, Nat.zero_le _, h0⟩, ?_⟩
  rintro i m σ H ⟨rfl, hi, p⟩
  have q := hl i σ H hi p
  by_cases hlt : i < kvs.length
  · refine .inr ⟨⟨q, hlt⟩, Pv (i + 1), fun σ' H' p' => ⟨_, by omega, rfl, hlt, p'⟩, fun x H' y => ?_⟩
    obtain ⟨rfl, k, v, q2, e, rfl, ht⟩ := y
    exact hs i k v q2 σ _ e ht p
  · have e : i = kvs.length := by omega
    subst e
    exact .inl ⟨⟨q, Nat.le_refl _⟩, hd σ H p⟩
theorem w_keysK {kvs : List (Key × V)} {B : V → Hp → (Hp → Prop) → Prop} {Nx : Hp → Prop} (Pv : Nat → Hp → Prop) (h0 : Pv 0 H0) (hl : ∀ i H, i ≤ kvs.length → Pv i H → H d = some (.frz o (.dK kvs)))
    (hs : ∀ i k v H, kvs[i]? = some (k, v) → Pv i H → B (kV k) H (Pv (i + 1))) (hd : ∀ H, Pv kvs.length H → Nx H) :
    ∃ W : Nat → Nat → Hp → Prop, (∃ m, W 0 m H0) ∧ ∀ i m H, W i m H → ((Itk d o kvs).stop i H ∧ Nx H) ∨ ((Itk d o kvs).go i H ∧ ∃ N : Hp → Prop, (∀ H', N H' → ∃ m', m' < m ∧ W (i + 1) m' H') ∧ ∀ x H', (Itk d o kvs).yld i H x H' → B x H' N) := by
  refine ⟨fun i m H => m = kvs.length - i ∧ i ≤ kvs.length ∧ Pv i H, ⟨_, rfl, Nat.zero_le _, h0⟩, ?_⟩
  rintro i m H ⟨rfl, hi, p⟩
  have q := hl i H hi p
  by_cases hlt : i < kvs.length
  · refine .inr ⟨⟨q, hlt⟩, Pv (i + 1), fun H' p' => ⟨_, by omega, rfl, hlt, p'⟩, fun x H' y => ?_⟩
    obtain ⟨rfl, k, v, e, rfl⟩ := y
    exact hs i k v _ e p
  · have e : i = kvs.length := by omega
    subst e
    exact .inl ⟨⟨q, Nat.le_refl _⟩, hd H p⟩
end
end L2
/-! ### a dict display with one tuple for its key -/
namespace L2
open PySem PySem.Spec PyProof.Rows
/-- {k: v}, k a tuple of ints and texts; the new dict stands empty while both are made -/
def tDispT (tk tv : TE) : TE := fun σ H Q => ∀ p, H p = none → tk σ (upd H p (.dT [])) fun x H1 => tv σ H1 fun y H2 => H2 p = some (.dT []) ∧ ∃ (b : Addr) (ks : List Key), x = .ref b ∧ H2 b = some (.tup (ks.map kV)) ∧ Q (.ref p) (upd H2 p (.dT [(ks, y)]))
theorem pe_dispT {X : Cx} {pos : Pos} {k v : Expr} {tk tv : TE} (hu : X.A.units + 1 < cLine) (hk : PE X k tk) (hv : PE X v tv) : PE X (.Dict [some k] [v] pos) (tDispT tk tv) := by
  refine ⟨fun pins s σ H Q I q => ?_⟩
  have hn := I.hok.fresh (Nat.le_refl s.heap.objs.size)
  have I1 := I.laid (a := s.heap.objs.size) (o := .dT []) (h' := s.heap.push { cls := .type "dict", data := .dict #[] }) (t' := s.toks) (fun _ _ q => Heap.get?_push_of_some _ q) (Nat.le_refl _) (dt_empty s.heap I.big)
  rw [arm_eval_Dict, zip_pairTrees [some k] [v] X.env pos rfl rfl, dictDisplay_pairs _ (by simp [pairTrees]) (by simp [pairTrees])]
  refine wpAny_bind (wpAny_standAt (wpAny_bind (wpAny_subDictH (knd := tupleKind (mixKind X.prog X.w)) (Q := fun d s' => wpAny (model X.prog X.w) X.A (pure (Value.ref d)) (EP X pins σ Q) X.xe s') (show X.A.units < cLine from Nat.lt_of_succ_lt hu) (by simp [pairTrees]) ?_)))
  refine pairTrees_cons_walk (thn (hk.run pins _ σ _ _ I1 (q _ hn)) fun u s1 ⟨x, H1, J1, rx, q1⟩ => thn (hv.run pins s1 σ H1 _ J1 q1) fun w2 s2 ⟨y, H2, I2, ry, e, b, ks, ex, eb, q2⟩ => pairTrees_nil_walk ?_)
  subst ex
  cases rx
  obtain ⟨z, hd, xs0, r0, dd⟩ := dt_of I2.hok e
  cases r0
  refine ⟨[(ks, b, w2)], ⟨rfl, rfl, key_of I2.hok eb, trivial⟩, dd, fun h' tk dd' hs => wpAny_pure ⟨.ref s.heap.objs.size, _, ?_, rfl, q2⟩⟩
  have dd' : h'.DictOfH (tupleKind (mixKind X.prog X.w)) s.heap.objs.size (storedH [] ks b w2) := dd'
  obtain ⟨q3, es, ep, hq, h2, h3, h4, _, h5⟩ := dd'
  have rel : KT H2 (putK [] ks y) (storedH [] ks b w2) := KT.put (.nil) ks eb ry
  refine d_write I2 (by rw [e]; exact True.intro) hs ⟨q3, hq⟩ ⟨by rw [sizeLine_eq]; simp, hd, _, rel.keeps fun c ys ec => ?_, q3, es, ep, hq, h2, h3, h4, h5⟩
  rw [upd_ne (ne_of ec e (fun z => nomatch z))]
  exact ec
end L2
/-! ### sums over matchings, by tables -/
namespace MT
/-- sums and products, as the program makes them -/
structure Sr (α : Type) where
  add : α → α → α
  mul : α → α → α
  zero : α
  one : α
  add_comm : ∀ a b, add a b = add b a
  add_assoc : ∀ a b c, add (add a b) c = add a (add b c)
  add_zero : ∀ a, add a zero = a
  mul_assoc : ∀ a b c, mul (mul a b) c = mul a (mul b c)
  mul_comm : ∀ a b, mul a b = mul b a
  mul_add : ∀ a b c, mul a (add b c) = add (mul a b) (mul a c)
  mul_zero : ∀ a, mul a zero = zero
  mul_one : ∀ a, mul a one = a
section
variable {α : Type} (S : Sr α)
theorem Sr.zero_add (a : α) : S.add S.zero a = a := by rw [S.add_comm, S.add_zero]
theorem Sr.one_mul (a : α) : S.mul S.one a = a := by rw [S.mul_comm, S.mul_one]
theorem Sr.add_mul (a b c : α) : S.mul (S.add a b) c = S.add (S.mul a c) (S.mul b c) := by rw [S.mul_comm, S.mul_add, S.mul_comm c, S.mul_comm c]
theorem Sr.zero_mul (a : α) : S.mul S.zero a = S.zero := by rw [S.mul_comm, S.mul_zero]
theorem Sr.swap (a b c : α) : S.add (S.add a b) c = S.add (S.add a c) b := by rw [S.add_assoc, S.add_comm b c, ← S.add_assoc]
def getA (l : List (Nat × α)) (m : Nat) : α := match l.find? (fun p => decide (p.1 = m)) with
  | some p => p.2
  | none => S.zero
def putA (l : List (Nat × α)) (m : Nat) (x : α) : List (Nat × α) := if l.any (fun p => decide (p.1 = m)) then l.map (fun p => if p.1 = m then (p.1, x) else p) else l ++ [(m, x)]
def addA (l : List (Nat × α)) (m : Nat) (y : α) : List (Nat × α) := putA l m (S.add (getA S l m) y)
def keysA (l : List (Nat × α)) : List Nat := l.map (·.1)
def dot (F : Nat → α) : List (Nat × α) → α
  | [] => S.zero
  | p :: t => S.add (S.mul p.2 (F p.1)) (dot F t)
theorem dot_app (F : Nat → α) : ∀ l k, dot S F (l ++ k) = S.add (dot S F l) (dot S F k)
  | [], k => (S.zero_add _).symm
  | p :: t, k => by
    show S.add _ (dot S F (t ++ k)) = S.add (S.add _ (dot S F t)) _
    rw [dot_app F t k, S.add_assoc]
theorem keys_put (l : List (Nat × α)) (m : Nat) (x : α) : keysA (putA l m x) = if m ∈ keysA l then keysA l else keysA l ++ [m] := by
  unfold putA
  by_cases h : (l.any fun p => decide (p.1 = m)) = true
  · have hm : m ∈ keysA l := by
      obtain ⟨p, hp, e⟩ := List.any_eq_true.mp h
      exact List.mem_map.mpr ⟨p, hp, of_decide_eq_true e⟩
    rw [if_pos h, if_pos hm]
    unfold keysA
    rw [List.map_map]
    refine List.map_congr_left fun p _ => ?_
    show (if p.1 = m then (p.1, x) else p).1 = p.1
    split <;> rfl
  · have hm : m ∉ keysA l := fun hm => by
      obtain ⟨p, hp, e⟩ := List.mem_map.mp hm
      exact h (List.any_eq_true.mpr ⟨p, hp, decide_eq_true e⟩)
    rw [if_neg h, if_neg hm]
    unfold keysA
    rw [List.map_append]
    rfl
theorem nodup_put {l : List (Nat × α)} (h : (keysA l).Nodup) (m : Nat) (x : α) : (keysA (putA l m x)).Nodup := by
  rw [keys_put]
  split
  · exact h
  · rename_i hm
    exact List.nodup_append.mpr ⟨h, by simp, fun a ha b hb e => hm (by rw [← List.mem_singleton.mp hb, ← e]; exact ha)⟩
theorem get_cons (p : Nat × α) (l : List (Nat × α)) (m : Nat) : getA S (p :: l) m = if p.1 = m then p.2 else getA S l m := by
  unfold getA
  by_cases e : p.1 = m
  · rw [if_pos e, List.find?_cons_of_pos (by rw [decide_eq_true e])]
  · rw [if_neg e, List.find?_cons_of_neg (by rw [decide_eq_false e]; decide)]
theorem get_none {l : List (Nat × α)} {m : Nat} (h : m ∉ keysA l) : getA S l m = S.zero := by
  induction l with
  | nil => rfl
  | cons p t ih =>
    rw [get_cons, if_neg (fun e => h (by rw [← e]; exact List.mem_cons_self ..)), ih fun e => h (List.mem_cons_of_mem _ e)]
theorem dot_set (F : Nat → α) {m : Nat} {y : α} : ∀ {l : List (Nat × α)}, (keysA l).Nodup → m ∈ keysA l → dot S F (l.map fun p => if p.1 = m then (p.1, S.add (getA S l m) y) else p) = S.add (dot S F l) (S.mul y (F m))
  | [], _, h => by cases h
  | p :: t, hn, hm => by
    obtain ⟨h1, h2⟩ := List.nodup_cons.mp (show (p.1 :: keysA t).Nodup from hn)
    rw [List.map_cons, get_cons]
    by_cases e : p.1 = m
    · rw [if_pos e, if_pos e]
      have ht : (t.map fun q => if q.1 = m then (q.1, S.add p.2 y) else q) = t := by
        refine (List.map_congr_left fun q hq => ?_).trans (List.map_id t)
        have : q.1 ≠ m := fun z => h1 (by rw [e, ← z]; exact List.mem_map.mpr ⟨q, hq, rfl⟩)
        rw [if_neg this]
        rfl
      rw [ht]
      show S.add (S.mul (S.add p.2 y) (F p.1)) (dot S F t) = S.add (S.add (S.mul p.2 (F p.1)) (dot S F t)) (S.mul y (F m))
      rw [S.add_mul, e, S.swap]
    · rw [if_neg e, if_neg e]
      have hm2 : m ∈ keysA t := by
        rcases List.mem_cons.mp (show m ∈ p.1 :: keysA t from hm) with z | z
        · exact absurd z.symm e
        · exact z
      show S.add (S.mul p.2 (F p.1)) (dot S F (t.map _)) = _
      rw [dot_set F h2 hm2, ← S.add_assoc]
      rfl
theorem dot_add (F : Nat → α) {l : List (Nat × α)} (hn : (keysA l).Nodup) (m : Nat) (y : α) : dot S F (addA S l m y) = S.add (dot S F l) (S.mul y (F m)) := by
  unfold addA putA
  by_cases h : (l.any fun p => decide (p.1 = m)) = true
  · have hm : m ∈ keysA l := by
      obtain ⟨p, hp, e⟩ := List.any_eq_true.mp h
      exact List.mem_map.mpr ⟨p, hp, of_decide_eq_true e⟩
    rw [if_pos h]
    exact dot_set S F hn hm
  · have hm : m ∉ keysA l := fun hm => by
      obtain ⟨p, hp, e⟩ := List.mem_map.mp hm
      exact h (List.any_eq_true.mpr ⟨p, hp, decide_eq_true e⟩)
    rw [if_neg h, get_none S hm, S.zero_add, dot_app]
    show S.add _ (S.add (S.mul y (F m)) S.zero) = _
    rw [S.add_zero]
/-- what becomes of a taken mask at a vertex -/
def chs (alone : α) (v m : Nat) (lk : List (Nat × α)) : List (Nat × α) := if m.testBit v then [(m ^^^ 2 ^ v, S.one)] else (m, alone) :: (lk.filter fun e => !m.testBit e.1).map fun e => (m ||| 2 ^ e.1, e.2)
def fill (x : α) (g cs : List (Nat × α)) : List (Nat × α) := cs.foldl (fun g c => addA S g c.1 (S.mul x c.2)) g
def stepT (alone : α) (v : Nat) (lk T : List (Nat × α)) : List (Nat × α) := T.foldl (fun g p => fill S p.2 g (chs S alone v p.1 lk)) []
theorem fill_nodup (x : α) : ∀ (cs g : List (Nat × α)), (keysA g).Nodup → (keysA (fill S x g cs)).Nodup
  | [], g, h => h
  | c :: cs, g, h => fill_nodup x cs _ (nodup_put h _ _)
theorem fill_dot (F : Nat → α) (x : α) : ∀ (cs g : List (Nat × α)), (keysA g).Nodup → dot S F (fill S x g cs) = S.add (dot S F g) (S.mul x (dot S F cs))
  | [], g, h => by
    show dot S F g = S.add (dot S F g) (S.mul x S.zero)
    rw [S.mul_zero, S.add_zero]
  | c :: cs, g, h => by
    have ih := fill_dot F x cs (addA S g c.1 (S.mul x c.2)) (nodup_put h _ _)
    show dot S F (fill S x (addA S g c.1 (S.mul x c.2)) cs) = _
    rw [ih, dot_add S F h]
    show _ = S.add (dot S F g) (S.mul x (S.add (S.mul c.2 (F c.1)) (dot S F cs)))
    rw [S.mul_add, ← S.mul_assoc, S.add_assoc]
theorem step_go (F : Nat → α) (alone : α) (v : Nat) (lk : List (Nat × α)) : ∀ (T g : List (Nat × α)), (keysA g).Nodup → (keysA (T.foldl (fun g p => fill S p.2 g (chs S alone v p.1 lk)) g)).Nodup ∧ dot S F (T.foldl (fun g p => fill S p.2 g (chs S alone v p.1 lk)) g) = S.add (dot S F g) (dot S (fun m => dot S F (chs S alone v m lk)) T)
  | [], g, h => ⟨h, (S.add_zero _).symm⟩
  | p :: T, g, h => by
    obtain ⟨h1, h2⟩ := step_go F alone v lk T (fill S p.2 g (chs S alone v p.1 lk)) (fill_nodup S p.2 _ _ h)
    refine ⟨h1, ?_⟩
    rw [List.foldl_cons, h2, fill_dot S F p.2 _ _ h, S.add_assoc]
    rfl
/-- the sum over all that is still to come -/
def Fr (alone : α) : List (List (Nat × α)) → Nat → Nat → α
  | [], _, m => if m = 0 then S.one else S.zero
  | lk :: rest, v, m => dot S (Fr alone rest (v + 1)) (chs S alone v m lk)
/-- the table behind the first vertices -/
def tabT (alone : α) (lks : List (List (Nat × α))) : Nat → List (Nat × α)
  | 0 => [(0, S.one)]
  | v + 1 => stepT S alone v (lks.getD v []) (tabT alone lks v)
theorem drop_getD {β : Type} {l : List β} {v : Nat} (h : v < l.length) (d : β) : l.drop v = l.getD v d :: l.drop (v + 1) := by
  rw [List.drop_eq_getElem_cons h, List.getD_eq_getElem?_getD, List.getElem?_eq_getElem h]
  rfl
theorem tab_dot (alone : α) (lks : List (List (Nat × α))) : ∀ v, v ≤ lks.length → (keysA (tabT S alone lks v)).Nodup ∧ dot S (Fr S alone (lks.drop v) v) (tabT S alone lks v) = Fr S alone lks 0 0
  | 0, _ => ⟨by simp [keysA, tabT], by
    show S.add (S.mul S.one (Fr S alone lks 0 0)) S.zero = _
    rw [S.add_zero, S.one_mul]⟩
  | v + 1, h => by
    obtain ⟨h1, h2⟩ := tab_dot alone lks v (by omega)
    obtain ⟨k1, k2⟩ := step_go S (Fr S alone (lks.drop (v + 1)) (v + 1)) alone v (lks.getD v []) (tabT S alone lks v) [] List.nodup_nil
    refine ⟨k1, ?_⟩
    show dot S _ (stepT S alone v _ _) = _
    unfold stepT
    rw [k2, ← h2, drop_getD (v := v) (show v < lks.length by omega) [], show dot S (Fr S alone (lks.drop (v + 1)) (v + 1)) [] = S.zero from rfl, S.zero_add]
    rfl
/-- masks without bits below v, below 2 ^ n -/
def KeyOk (v n : Nat) (m : Nat) : Prop := m < 2 ^ n ∧ ∀ i < v, m.testBit i = false
def LkOk (v n : Nat) (lk : List (Nat × α)) : Prop := ∀ e ∈ lk, v < e.1 ∧ e.1 < n
theorem chs_ok {alone : α} {v n m : Nat} {lk : List (Nat × α)} (hv : v < n) (h : KeyOk v n m) (hl : LkOk v n lk) : ∀ c ∈ chs S alone v m lk, KeyOk (v + 1) n c.1 := by
  intro c hc
  have pv : 2 ^ v < 2 ^ n := Nat.pow_lt_pow_right (by decide) hv
  unfold chs at hc
  split at hc
  · rename_i hb
    rw [List.mem_singleton.mp hc]
    refine ⟨Nat.xor_lt_two_pow h.1 pv, fun i hi => ?_⟩
    show (m ^^^ 2 ^ v).testBit i = false
    rw [Nat.testBit_xor, Nat.testBit_two_pow]
    by_cases e : v = i
    · subst e
      rw [hb, decide_eq_true rfl]
      rfl
    · rw [h.2 i (by omega), decide_eq_false e]
      rfl
  · rename_i hb
    rcases List.mem_cons.mp hc with rfl | hc
    · refine ⟨h.1, fun i hi => ?_⟩
      by_cases e : i = v
      · rw [e]
        exact Bool.eq_false_iff.mpr hb
      · exact h.2 i (by omega)
    · obtain ⟨e, he, rfl⟩ := List.mem_map.mp hc
      obtain ⟨e1, e2⟩ := hl e (List.mem_filter.mp he).1
      refine ⟨Nat.or_lt_two_pow h.1 (Nat.pow_lt_pow_right (by decide) e2), fun i hi => ?_⟩
      show (m ||| 2 ^ e.1).testBit i = false
      rw [Nat.testBit_or, Nat.testBit_two_pow, decide_eq_false (show ¬ e.1 = i by omega), Bool.or_false]
      by_cases z : i = v
      · rw [z]
        exact Bool.eq_false_iff.mpr hb
      · exact h.2 i (by omega)
theorem keys_fill (x : α) (P : Nat → Prop) : ∀ (cs g : List (Nat × α)), (∀ c ∈ cs, P c.1) → (∀ k ∈ keysA g, P k) → ∀ k ∈ keysA (fill S x g cs), P k
  | [], g, _, h, k, hk => h k hk
  | c :: cs, g, hc, h, k, hk => keys_fill x P cs (addA S g c.1 (S.mul x c.2)) (fun d hd => hc d (List.mem_cons_of_mem _ hd)) (fun j hj => by
      unfold addA at hj
      rw [keys_put] at hj
      split at hj
      · exact h j hj
      · rcases List.mem_append.mp hj with hj | hj
        · exact h j hj
        · rw [List.mem_singleton.mp hj]
          exact hc c (List.mem_cons_self ..)) k hk
theorem fill_ne (x : α) : ∀ (cs g : List (Nat × α)), (cs ≠ [] ∨ g ≠ []) → fill S x g cs ≠ []
  | [], g, h => h.resolve_left fun z => z rfl
  | c :: cs, g, _ => fill_ne x cs _ (.inr fun z => by
      have := congrArg keysA z
      unfold addA at this
      rw [keys_put] at this
      split at this
      · rename_i hm
        rw [this] at hm
        cases hm
      · simp [keysA] at this)
theorem chs_ne (alone : α) (v m : Nat) (lk : List (Nat × α)) : chs S alone v m lk ≠ [] := by
  unfold chs
  split <;> simp
theorem chs_len (alone : α) (v m : Nat) (lk : List (Nat × α)) : (chs S alone v m lk).length ≤ lk.length + 1 := by
  unfold chs
  split
  · simp
  · rw [List.length_cons, List.length_map]
    have := List.length_filter_le (fun e : Nat × α => !m.testBit e.1) lk
    omega
theorem tab_ok {alone : α} {n : Nat} {lks : List (List (Nat × α))} (hl : ∀ v < n, LkOk v n (lks.getD v [])) : ∀ v, v ≤ n → (∀ k ∈ keysA (tabT S alone lks v), KeyOk v n k) ∧ tabT S alone lks v ≠ []
  | 0, _ => ⟨fun k hk => by
      rw [List.mem_singleton.mp hk]
      exact ⟨Nat.two_pow_pos n, fun i hi => by omega⟩, by simp [tabT]⟩
  | v + 1, h => by
    obtain ⟨h1, h2⟩ := tab_ok hl v (by omega)
    have go : ∀ (T g : List (Nat × α)), (∀ k ∈ keysA T, KeyOk v n k) → (∀ k ∈ keysA g, KeyOk (v + 1) n k) → (T ≠ [] ∨ g ≠ []) → (∀ k ∈ keysA (T.foldl (fun g p => fill S p.2 g (chs S alone v p.1 (lks.getD v []))) g), KeyOk (v + 1) n k) ∧ T.foldl (fun g p => fill S p.2 g (chs S alone v p.1 (lks.getD v []))) g ≠ [] := by
      intro T
      induction T with
      | nil => exact fun g _ hg hne => ⟨hg, hne.resolve_left fun z => z rfl⟩
      | cons p T ih =>
        intro g hT hg _
        rw [List.foldl_cons]
        exact ih _ (fun k hk => hT k (List.mem_cons_of_mem _ hk)) (keys_fill S p.2 _ _ _ (chs_ok S (by omega) (hT p.1 (List.mem_cons_self ..)) (hl v (by omega))) hg) (.inr (fill_ne S p.2 _ _ (.inl (chs_ne S alone v p.1 _))))
    exact go _ [] h1 (fun k hk => by cases hk) (.inl h2)
/-- the last table has one sum -/
theorem tab_last {alone : α} {lks : List (List (Nat × α))} (hl : ∀ v < lks.length, LkOk v lks.length (lks.getD v [])) : tabT S alone lks lks.length = [(0, Fr S alone lks 0 0)] := by
  obtain ⟨h1, h2⟩ := tab_dot S alone lks lks.length (Nat.le_refl _)
  obtain ⟨k1, k2⟩ := tab_ok S (alone := alone) hl lks.length (Nat.le_refl _)
  have hz : ∀ k ∈ keysA (tabT S alone lks lks.length), k = 0 := fun k hk => by
    obtain ⟨a, b⟩ := k1 k hk
    refine Nat.eq_of_testBit_eq fun i => ?_
    rw [Nat.zero_testBit]
    by_cases hi : i < lks.length
    · exact b i hi
    · exact Nat.testBit_lt_two_pow (Nat.lt_of_lt_of_le a (Nat.pow_le_pow_right (by decide) (by omega)))
  generalize tabT S alone lks lks.length = T at *
  match T, k2 with
  | [p], _ =>
    have hp : p.1 = 0 := hz p.1 (List.mem_cons_self ..)
    rw [List.drop_length] at h2
    have h3 : S.add (S.mul p.2 (if p.1 = 0 then S.one else S.zero)) S.zero = Fr S alone lks 0 0 := h2
    rw [if_pos hp, S.mul_one, S.add_zero] at h3
    rw [← h3, ← hp]
  | p :: r :: t, _ =>
    have e1 := hz p.1 (List.mem_cons_self ..)
    have e2 := hz r.1 (List.mem_cons_of_mem _ (List.mem_cons_self ..))
    have := (List.nodup_cons.mp (show (p.1 :: r.1 :: keysA t).Nodup from h1)).1
    exact absurd (by rw [e1, e2]; exact List.mem_cons_self ..) this
end
end MT
namespace MT
section
variable {α : Type} (S : Sr α)
def sumF {β : Type} (f : β → α) : List β → α
  | [] => S.zero
  | x :: l => S.add (f x) (sumF f l)
section
variable {β : Type} {f g : β → α}
theorem sumF_app : ∀ l k : List β, sumF S f (l ++ k) = S.add (sumF S f l) (sumF S f k)
  | [], k => (S.zero_add _).symm
  | x :: l, k => by
    show S.add _ (sumF S f (l ++ k)) = S.add (S.add _ _) _
    rw [sumF_app l k, S.add_assoc]
theorem sumF_rev : ∀ l : List β, sumF S f l.reverse = sumF S f l
  | [] => rfl
  | x :: l => by
    rw [List.reverse_cons, sumF_app, sumF_rev l]
    show S.add _ (S.add (f x) S.zero) = S.add _ _
    rw [S.add_zero, S.add_comm]
theorem sumF_congr {l : List β} (h : ∀ x ∈ l, f x = g x) : sumF S f l = sumF S g l := by
  induction l with
  | nil => rfl
  | cons x l ih =>
    show S.add _ _ = S.add _ _
    rw [h x (List.mem_cons_self ..), ih fun y m => h y (List.mem_cons_of_mem _ m)]
theorem sumF_add (l : List β) : sumF S (fun x => S.add (f x) (g x)) l = S.add (sumF S f l) (sumF S g l) := by
  induction l with
  | nil => exact (S.add_zero _).symm
  | cons x l ih =>
    show S.add _ _ = S.add (S.add _ _) (S.add _ _)
    rw [ih]
    simp only [S.add_assoc]
    congr 1
    rw [← S.add_assoc, S.add_comm (g x), S.add_assoc]
theorem sumF_mul (a : α) (l : List β) : sumF S (fun x => S.mul a (f x)) l = S.mul a (sumF S f l) := by
  induction l with
  | nil => exact (S.mul_zero _).symm
  | cons x l ih =>
    show S.add _ _ = S.mul _ (S.add _ _)
    rw [ih, S.mul_add]
theorem sumF_zero (l : List β) : sumF S (fun _ => S.zero) l = S.zero := by
  induction l with
  | nil => rfl
  | cons x l ih =>
    show S.add _ _ = _
    rw [ih, S.add_zero]
end
abbrev Ed := Nat × Nat
/-- an edge that can be taken beside a mask -/
def usE (U : Nat) (e : Ed) : Bool := decide (e.1 ≠ e.2) && !U.testBit e.1 && !U.testBit e.2
def orE (U : Nat) (e : Ed) : Nat := U ||| 2 ^ e.1 ||| 2 ^ e.2
theorem tb_or2 (U a i : Nat) : (U ||| 2 ^ a).testBit i = (U.testBit i || decide (a = i)) := by
  rw [Nat.testBit_or, Nat.testBit_two_pow]
theorem tb_orE (U : Nat) (e : Ed) (i : Nat) : (orE U e).testBit i = (U.testBit i || decide (e.1 = i) || decide (e.2 = i)) := by
  unfold orE
  rw [tb_or2, tb_or2]
theorem orE_comm (U : Nat) (e f : Ed) : orE (orE U e) f = orE (orE U f) e := by
  refine Nat.eq_of_testBit_eq fun i => ?_
  rw [tb_orE, tb_orE, tb_orE, tb_orE]
  cases U.testBit i <;> cases decide (e.1 = i) <;> cases decide (e.2 = i) <;> cases decide (f.1 = i) <;> cases decide (f.2 = i) <;> rfl
theorem us_comm (U : Nat) (e f : Ed) : (usE U e && usE (orE U e) f) = (usE U f && usE (orE U f) e) := by
  unfold usE
  rw [tb_orE, tb_orE, tb_orE, tb_orE]
  have h1 : decide (e.1 = f.1) = decide (f.1 = e.1) := decide_eq_decide.mpr eq_comm
  have h2 : decide (e.2 = f.1) = decide (f.1 = e.2) := decide_eq_decide.mpr eq_comm
  have h3 : decide (e.1 = f.2) = decide (f.2 = e.1) := decide_eq_decide.mpr eq_comm
  have h4 : decide (e.2 = f.2) = decide (f.2 = e.2) := decide_eq_decide.mpr eq_comm
  rw [h1, h2, h3, h4]
  cases decide (e.1 ≠ e.2) <;> cases decide (f.1 ≠ f.2) <;> cases U.testBit e.1 <;> cases U.testBit e.2 <;> cases U.testBit f.1 <;> cases U.testBit f.2 <;> cases decide (f.1 = e.1) <;> cases decide (f.1 = e.2) <;> cases decide (f.2 = e.1) <;> cases decide (f.2 = e.2) <;> rfl
variable (X : α)
/-- the sum over all matchings beside a mask, each edge gives X -/
def Pl : List Ed → Nat → α
  | [], _ => S.one
  | e :: r, U => if usE U e = true then S.add (Pl r U) (S.mul X (Pl r (orE U e))) else Pl r U
def atV (v : Nat) (e : Ed) : Bool := decide (e.1 = v) || decide (e.2 = v)
theorem us_at {U v : Nat} {e : Ed} (h : atV v e = true) (hU : U.testBit v = true) : usE U e = false := by
  unfold atV at h
  unfold usE
  rcases Bool.or_eq_true_iff.mp h with h | h
  · rw [of_decide_eq_true h, hU]
    cases decide (v ≠ e.2) <;> rfl
  · rw [of_decide_eq_true h, hU]
    cases decide (e.1 ≠ v) <;> cases U.testBit e.1 <;> rfl
theorem or_at {U v : Nat} {e : Ed} (h : atV v e = true) : (orE U e).testBit v = true := by
  rw [tb_orE]
  unfold atV at h
  rw [Bool.or_assoc, h, Bool.or_true]
theorem us_not {U v : Nat} {e : Ed} (h : atV v e = false) : usE (U ||| 2 ^ v) e = usE U e := by
  unfold atV at h
  obtain ⟨h1, h2⟩ := Bool.or_eq_false_iff.mp h
  have h1' : decide (v = e.1) = false := by rw [← h1]; exact decide_eq_decide.mpr eq_comm
  have h2' : decide (v = e.2) = false := by rw [← h2]; exact decide_eq_decide.mpr eq_comm
  unfold usE
  rw [tb_or2, tb_or2, h1', h2', Bool.or_false, Bool.or_false]
theorem or_not (U v : Nat) (e : Ed) : orE (U ||| 2 ^ v) e = orE U e ||| 2 ^ v := by
  refine Nat.eq_of_testBit_eq fun i => ?_
  rw [tb_orE, tb_or2, tb_or2, tb_orE]
  cases U.testBit i <;> cases decide (e.1 = i) <;> cases decide (e.2 = i) <;> cases decide (v = i) <;> rfl
/-- the vertex stays alone, or one edge at it is taken -/
theorem Pl_at {v : Nat} : ∀ (r : List Ed) (U : Nat), U.testBit v = false → Pl S X r U = S.add (Pl S X r (U ||| 2 ^ v)) (sumF S (fun e => if (atV v e && usE U e) = true then S.mul X (Pl S X r (orE U e)) else S.zero) r)
  | [], U, _ => (S.add_zero _).symm
  | e0 :: r, U, hU => by
    have hv : (U ||| 2 ^ v).testBit v = true := by
      rw [tb_or2, decide_eq_true rfl, Bool.or_true]
    have ih := Pl_at r U hU
    show Pl S X (e0 :: r) U = S.add _ (S.add (if (atV v e0 && usE U e0) = true then S.mul X (Pl S X (e0 :: r) (orE U e0)) else S.zero) (sumF S _ r))
    by_cases ha : atV v e0 = true
    · have h1 : Pl S X (e0 :: r) (U ||| 2 ^ v) = Pl S X r (U ||| 2 ^ v) := by
        rw [Pl, us_at ha hv]
        rfl
      have h2 : sumF S (fun e => if (atV v e && usE U e) = true then S.mul X (Pl S X (e0 :: r) (orE U e)) else S.zero) r = sumF S (fun e => if (atV v e && usE U e) = true then S.mul X (Pl S X r (orE U e)) else S.zero) r := sumF_congr S fun e _ => by
        by_cases z : (atV v e && usE U e) = true
        · have hz := or_at (U := U) (Bool.and_eq_true_iff.mp z).1
          rw [if_pos z, if_pos z, Pl, us_at ha hz]
          rfl
        · rw [if_neg z, if_neg z]
      rw [h1, h2]
      by_cases hu : usE U e0 = true
      · rw [if_pos (by rw [ha, hu]; rfl)]
        have h3 : Pl S X (e0 :: r) (orE U e0) = Pl S X r (orE U e0) := by
          rw [Pl, us_at ha (or_at ha)]
          rfl
        rw [h3, Pl, if_pos hu, ih, S.add_assoc]
        congr 1
        rw [S.add_comm]
      · rw [if_neg (by rw [ha, Bool.true_and]; exact hu), Pl, if_neg hu, S.zero_add]
        exact ih
    · have ha := Bool.eq_false_iff.mpr ha
      rw [if_neg (by rw [ha]; simp), S.zero_add]
      by_cases hu : usE U e0 = true
      · have hO : (orE U e0).testBit v = false := by
          unfold atV at ha
          obtain ⟨a1, a2⟩ := Bool.or_eq_false_iff.mp ha
          rw [tb_orE, hU, a1, a2]
          rfl
        have ih2 := Pl_at r (orE U e0) hO
        have h1 : Pl S X (e0 :: r) (U ||| 2 ^ v) = S.add (Pl S X r (U ||| 2 ^ v)) (S.mul X (Pl S X r (orE U e0 ||| 2 ^ v))) := by
          rw [Pl, us_not ha, if_pos hu, or_not]
        have h2 : sumF S (fun e => if (atV v e && usE U e) = true then S.mul X (Pl S X (e0 :: r) (orE U e)) else S.zero) r = S.add (sumF S (fun e => if (atV v e && usE U e) = true then S.mul X (Pl S X r (orE U e)) else S.zero) r) (S.mul X (sumF S (fun e => if (atV v e && usE (orE U e0) e) = true then S.mul X (Pl S X r (orE (orE U e0) e)) else S.zero) r)) := by
          rw [← sumF_mul, ← sumF_add]
          refine sumF_congr S fun e _ => ?_
          have hc := us_comm U e e0
          rw [hu, Bool.true_and] at hc
          cases z1 : atV v e with
          | false => simp only [Bool.false_and, Bool.false_eq_true, if_false, S.mul_zero, S.add_zero]
          | true =>
            simp only [Bool.true_and]
            cases z2 : usE U e with
            | false =>
              rw [z2, Bool.false_and] at hc
              simp only [← hc, Bool.false_eq_true, if_false, S.mul_zero, S.add_zero]
            | true =>
              rw [z2, Bool.true_and] at hc
              rw [if_pos rfl, if_pos rfl, Pl, hc, orE_comm]
              split
              · rw [S.mul_add]
              · rw [S.mul_zero, S.add_zero]
        rw [h1, h2, Pl, if_pos hu, ih, ih2, S.mul_add]
        simp only [S.add_assoc]
        congr 1
        rw [← S.add_assoc, S.add_comm (sumF S _ r), S.add_assoc]
      · have h1 : Pl S X (e0 :: r) (U ||| 2 ^ v) = Pl S X r (U ||| 2 ^ v) := by
          rw [Pl, us_not ha, if_neg hu]
        have hu := Bool.eq_false_iff.mpr hu
        have h2 : sumF S (fun e => if (atV v e && usE U e) = true then S.mul X (Pl S X (e0 :: r) (orE U e)) else S.zero) r = sumF S (fun e => if (atV v e && usE U e) = true then S.mul X (Pl S X r (orE U e)) else S.zero) r := sumF_congr S fun e _ => by
          have hc := us_comm U e e0
          rw [hu, Bool.false_and] at hc
          by_cases z : (atV v e && usE U e) = true
          · rw [if_pos z, if_pos z, Pl]
            rw [(Bool.and_eq_true_iff.mp z).2, Bool.true_and] at hc
            rw [hc]
            rfl
          · rw [if_neg z, if_neg z]
        rw [h1, h2, Pl, hu]
        exact ih
/-! ### rows and edges -/
theorem dot_filter (F : Nat → α) (m : Nat) : ∀ lk : List (Nat × α), dot S F ((lk.filter fun e => !m.testBit e.1).map fun e => (m ||| 2 ^ e.1, e.2)) = dot S (fun k => if m.testBit k = true then S.zero else F (m ||| 2 ^ k)) lk
  | [] => rfl
  | e :: lk => by
    cases z : m.testBit e.1 with
    | true =>
      rw [List.filter_cons_of_neg (by rw [z]; decide), dot_filter F m lk]
      show _ = S.add (S.mul e.2 (if m.testBit e.1 = true then S.zero else _)) _
      rw [z, if_pos rfl, S.mul_zero, S.zero_add]
    | false =>
      rw [List.filter_cons_of_pos (by rw [z]; rfl), List.map_cons]
      show S.add (S.mul e.2 (F (m ||| 2 ^ e.1))) (dot S F _) = S.add (S.mul e.2 (if m.testBit e.1 = true then S.zero else _)) _
      rw [dot_filter F m lk, z]
      rfl
theorem fr_step (alone : α) (lks : List (List (Nat × α))) {v : Nat} (hv : v < lks.length) (m : Nat) : Fr S alone (lks.drop v) v m = if m.testBit v = true then Fr S alone (lks.drop (v + 1)) (v + 1) (m ^^^ 2 ^ v) else S.add (S.mul alone (Fr S alone (lks.drop (v + 1)) (v + 1) m)) (dot S (fun k => if m.testBit k = true then S.zero else Fr S alone (lks.drop (v + 1)) (v + 1) (m ||| 2 ^ k)) (lks.getD v [])) := by
  rw [drop_getD hv [], Fr, chs]
  split
  · show S.add (S.mul S.one _) S.zero = _
    rw [S.add_zero, S.one_mul]
  · show S.add (S.mul alone _) (dot S _ _) = _
    rw [dot_filter]
end
end MT
namespace MT
section
variable {α : Type} (S : Sr α)
/-- a further edge, merged into its row -/
def lnE (lks : List (List (Nat × α))) (e : Nat × Nat × α) : List (List (Nat × α)) := if e.1 = e.2.1 then lks else lks.set (min e.1 e.2.1) (addA S (lks.getD (min e.1 e.2.1) []) (max e.1 e.2.1) e.2.2)
theorem lnE_len (lks : List (List (Nat × α))) (e : Nat × Nat × α) : (lnE S lks e).length = lks.length := by
  unfold lnE
  split
  · rfl
  · rw [List.length_set]
theorem fold_nd (es : List (Nat × Nat × α)) : ∀ lks : List (List (Nat × α)), (∀ v, (keysA (lks.getD v [])).Nodup) → ∀ v, (keysA ((es.foldl (lnE S) lks).getD v [])).Nodup := by
  induction es with
  | nil => exact fun _ h => h
  | cons e es ih =>
    intro lks h
    refine ih _ fun v => ?_
    unfold lnE
    split
    · exact h v
    · by_cases z : min e.1 e.2.1 = v
      · subst z
        by_cases hl : min e.1 e.2.1 < lks.length
        · rw [List.getD_eq_getElem?_getD, List.getElem?_set_self hl]
          exact nodup_put (h _) _ _
        · rw [List.getD_eq_getElem?_getD, List.getElem?_set, if_pos rfl, if_neg hl]
          exact List.nodup_nil
      · rw [List.getD_eq_getElem?_getD, List.getElem?_set_ne z, ← List.getD_eq_getElem?_getD]
        exact h v
/-- a row's sum goes over the edges -/
theorem row_dot (F : Nat → α) {v : Nat} : ∀ (es : List (Nat × Nat × α)) (lks : List (List (Nat × α))), v < lks.length → (∀ w, (keysA (lks.getD w [])).Nodup) →
    dot S F ((es.foldl (lnE S) lks).getD v []) = S.add (dot S F (lks.getD v [])) (sumF S (fun e => if e.1 ≠ e.2.1 ∧ min e.1 e.2.1 = v then S.mul e.2.2 (F (max e.1 e.2.1)) else S.zero) es)
  | [], lks, _, _ => (S.add_zero _).symm
  | e :: es, lks, hv, h => by
    have hn := fold_nd S [e] lks h
    have hl : v < (lnE S lks e).length := by rw [lnE_len]; exact hv
    rw [List.foldl_cons, row_dot F es (lnE S lks e) hl hn]
    show _ = S.add _ (S.add (if e.1 ≠ e.2.1 ∧ min e.1 e.2.1 = v then S.mul e.2.2 (F (max e.1 e.2.1)) else S.zero) _)
    rw [← S.add_assoc]
    congr 1
    unfold lnE
    by_cases z : e.1 = e.2.1
    · rw [if_pos z, if_neg (fun q => q.1 z), S.add_zero]
    · rw [if_neg z]
      by_cases y : min e.1 e.2.1 = v
      · rw [if_pos ⟨z, y⟩, y, List.getD_eq_getElem?_getD, List.getElem?_set_self hv]
        exact dot_add S F (h v) _ _
      · rw [if_neg (fun q => y q.2), S.add_zero, List.getD_eq_getElem?_getD, List.getElem?_set_ne y, ← List.getD_eq_getElem?_getD]
def lnS (count : Nat) (es : List (Nat × Nat × α)) : List (List (Nat × α)) := es.foldl (lnE S) (List.replicate count [])
theorem lnS_len (count : Nat) (es : List (Nat × Nat × α)) : (lnS S count es).length = count := by
  have : ∀ (l : List (Nat × Nat × α)) (s : List (List (Nat × α))), (l.foldl (lnE S) s).length = s.length := fun l => by
    induction l with
    | nil => exact fun s => rfl
    | cons x l ih2 => exact fun s => (ih2 _).trans (lnE_len S s x)
  unfold lnS
  rw [this, List.length_replicate]
theorem lnS_dot (F : Nat → α) {count v : Nat} (hv : v < count) (es : List (Nat × Nat × α)) : dot S F ((lnS S count es).getD v []) = sumF S (fun e => if e.1 ≠ e.2.1 ∧ min e.1 e.2.1 = v then S.mul e.2.2 (F (max e.1 e.2.1)) else S.zero) es := by
  have e0 : ∀ w, (List.replicate count ([] : List (Nat × α))).getD w [] = [] := fun w => by
    rw [List.getD_eq_getElem?_getD, List.getElem?_replicate]
    split <;> rfl
  unfold lnS
  rw [row_dot S F es _ (by rw [List.length_replicate]; exact hv) (fun w => by rw [e0]; exact List.nodup_nil), e0]
  exact S.zero_add _
theorem sumF_map {β γ : Type} (f : γ → α) (g : β → γ) : ∀ l : List β, sumF S f (l.map g) = sumF S (fun x => f (g x)) l
  | [] => rfl
  | x :: l => by
    show S.add _ _ = S.add _ _
    rw [sumF_map f g l]
/-- all bits below v -/
def low (v : Nat) : Nat := 2 ^ v - 1
theorem low_tb (v i : Nat) : (low v).testBit i = decide (i < v) := Nat.testBit_two_pow_sub_one v i
variable (X : α)
/-- the program's sum over matchings goes over all sets of edges -/
theorem fr_pl {count : Nat} {es : List Ed} (hin : ∀ e ∈ es, e.1 < count ∧ e.2 < count) : ∀ (k v m : Nat), v + k = count → KeyOk v count m →
    Fr S S.one ((lnS S count (es.map fun e => (e.1, e.2, X))).drop v) v m = Pl S X es (low v ||| m)
  | 0, v, m, hv, hm => by
    have hv : v = count := by omega
    subst hv
    have m0 : m = 0 := Nat.eq_of_testBit_eq fun i => by
      rw [Nat.zero_testBit]
      by_cases hi : i < v
      · exact hm.2 i hi
      · exact Nat.testBit_lt_two_pow (Nat.lt_of_lt_of_le hm.1 (Nat.pow_le_pow_right (by decide) (by omega)))
    subst m0
    rw [List.drop_eq_nil_of_le (by rw [lnS_len]; exact Nat.le_refl _), Nat.or_zero]
    show S.one = _
    have : ∀ l : List Ed, (∀ e ∈ l, e.1 < v ∧ e.2 < v) → Pl S X l (low v) = S.one := fun l => by
      induction l with
      | nil => exact fun _ => rfl
      | cons e l ih =>
        intro h
        have hu : usE (low v) e = false := by
          unfold usE
          rw [low_tb, decide_eq_true (h e (List.mem_cons_self ..)).1]
          cases decide (e.1 ≠ e.2) <;> rfl
        rw [Pl, hu]
        exact ih fun f m => h f (List.mem_cons_of_mem _ m)
    exact (this es hin).symm
  | k + 1, v, m, hv, hm => by
    have hvc : v < count := by omega
    have ll := lnS_len S count (es.map fun e => (e.1, e.2, X))
    rw [fr_step S S.one _ (by omega) m]
    have ih := fr_pl hin k (v + 1)
    by_cases hb : m.testBit v = true
    · rw [if_pos hb]
      have hm2 : KeyOk (v + 1) count (m ^^^ 2 ^ v) := chs_ok S (alone := S.one) (lk := []) hvc hm (fun e h => by cases h) (m ^^^ 2 ^ v, S.one) (by unfold chs; rw [if_pos hb]; exact List.mem_cons_self ..)
      rw [ih _ (by omega) hm2]
      congr 1
      refine Nat.eq_of_testBit_eq fun i => ?_
      rw [Nat.testBit_or, Nat.testBit_or, Nat.testBit_xor, Nat.testBit_two_pow, low_tb, low_tb]
      by_cases e : v = i
      · subst e
        rw [hb, decide_eq_true (Nat.lt_succ_self v)]
        simp
      · rw [decide_eq_false e, Bool.xor_false]
        congr 1
        exact decide_eq_decide.mpr ⟨fun h => by omega, fun h => by omega⟩
    · rw [if_neg hb, S.one_mul]
      have hb := Bool.eq_false_iff.mpr hb
      have hU : (low v ||| m).testBit v = false := by
        rw [Nat.testBit_or, low_tb, hb, decide_eq_false (Nat.lt_irrefl v)]
        rfl
      rw [Pl_at S X es _ hU]
      have hm2 : KeyOk (v + 1) count m := ⟨hm.1, fun i hi => by
        by_cases e : i = v
        · rw [e]
          exact hb
        · exact hm.2 i (by omega)⟩
      have e1 : low v ||| m ||| 2 ^ v = low (v + 1) ||| m := by
        refine Nat.eq_of_testBit_eq fun i => ?_
        rw [tb_or2, Nat.testBit_or, Nat.testBit_or, low_tb, low_tb]
        by_cases e : v = i
        · subst e
          rw [decide_eq_true rfl, decide_eq_true (Nat.lt_succ_self v)]
          simp
        · rw [decide_eq_false e, Bool.or_false]
          congr 1
          exact decide_eq_decide.mpr ⟨fun h => by omega, fun h => by omega⟩
      rw [ih m (by omega) hm2, e1]
      congr 1
      rw [lnS_dot S _ hvc, sumF_map]
      refine sumF_congr S fun e he => ?_
      obtain ⟨b1, b2⟩ := hin e he
      have hmx : max e.1 e.2 < count := by omega
      by_cases c : e.1 ≠ e.2 ∧ min e.1 e.2 = v
      · obtain ⟨c1, c2⟩ := c
        rw [if_pos ⟨c1, c2⟩]
        have hat : atV v e = true := by
          unfold atV
          by_cases z : e.1 = v
          · rw [decide_eq_true z]
            rfl
          · rw [decide_eq_true (show e.2 = v by omega), Bool.or_true]
        have hus : usE (low v ||| m) e = !m.testBit (max e.1 e.2) := by
          unfold usE
          rw [Nat.testBit_or, Nat.testBit_or, low_tb, low_tb, decide_eq_true c1, decide_eq_false (show ¬ e.1 < v by omega), decide_eq_false (show ¬ e.2 < v by omega), Bool.true_and, Bool.false_or, Bool.false_or]
          by_cases z : e.1 = v
          · rw [z, hb, show max v e.2 = e.2 by omega]
            rfl
          · rw [show e.2 = v by omega, hb, show max e.1 v = e.1 by omega]
            cases m.testBit e.1 <;> rfl
        rw [hat, hus, Bool.true_and]
        cases z : m.testBit (max e.1 e.2) with
        | true => 
          simp only [if_true, Bool.not_true, Bool.false_eq_true, if_false]
          exact S.mul_zero _
        | false =>
          simp only [Bool.false_eq_true, if_false, Bool.not_false, if_true]
          congr 1
          have hm3 : KeyOk (v + 1) count (m ||| 2 ^ max e.1 e.2) := ⟨Nat.or_lt_two_pow hm.1 (Nat.pow_lt_pow_right (by decide) hmx), fun i hi => by
            rw [tb_or2, hm2.2 i hi, decide_eq_false (show ¬ max e.1 e.2 = i by omega)]
            rfl⟩
          rw [ih _ (by omega) hm3]
          congr 1
          refine Nat.eq_of_testBit_eq fun i => ?_
          rw [Nat.testBit_or, Nat.testBit_or, Nat.testBit_two_pow, tb_orE, Nat.testBit_or, low_tb, low_tb]
          have h5 : (i < v + 1 ∨ max e.1 e.2 = i) ↔ (i < v ∨ e.1 = i ∨ e.2 = i) := by omega
          cases m.testBit i with
          | true => simp
          | false =>
            simp only [Bool.false_or, Bool.or_false]
            rw [Bool.eq_iff_iff]
            simp only [Bool.or_eq_true, decide_eq_true_eq, or_assoc]
            exact h5
      · rw [if_neg c]
        have : (atV v e && usE (low v ||| m) e) = false := by
          cases z : atV v e && usE (low v ||| m) e with
          | false => rfl
          | true =>
            exfalso
            obtain ⟨z1, z2⟩ := Bool.and_eq_true_iff.mp z
            unfold atV at z1
            unfold usE at z2
            rw [Nat.testBit_or, Nat.testBit_or, low_tb, low_tb] at z2
            obtain ⟨z2, z4⟩ := Bool.and_eq_true_iff.mp z2
            obtain ⟨z2, z3⟩ := Bool.and_eq_true_iff.mp z2
            have h1 := of_decide_eq_true z2
            have h3 : ¬ e.1 < v := fun q => by rw [decide_eq_true q] at z3; simp at z3
            have h4 : ¬ e.2 < v := fun q => by rw [decide_eq_true q] at z4; simp at z4
            refine c ⟨h1, ?_⟩
            rcases Bool.or_eq_true_iff.mp z1 with q | q
            · have := of_decide_eq_true q
              omega
            · have := of_decide_eq_true q
              omega
        rw [this]
        rfl
end
end MT
/-! ### perfect matchings, by the least free vertex -/
namespace MT
section
variable {α : Type} (S : Sr α)
theorem step_go2 (F : Nat → α) (c : Nat → List (Nat × α)) : ∀ (T g : List (Nat × α)), (keysA g).Nodup → (keysA (T.foldl (fun g p => fill S p.2 g (c p.1)) g)).Nodup ∧ dot S F (T.foldl (fun g p => fill S p.2 g (c p.1)) g) = S.add (dot S F g) (dot S (fun m => dot S F (c m)) T)
  | [], g, h => ⟨h, (S.add_zero _).symm⟩
  | p :: T, g, h => by
    obtain ⟨h1, h2⟩ := step_go2 F c T (fill S p.2 g (c p.1)) (fill_nodup S p.2 _ _ h)
    refine ⟨h1, ?_⟩
    rw [List.foldl_cons, h2, fill_dot S F p.2 _ _ h, S.add_assoc]
    rfl
variable (n : Nat) (es : List (Nat × Nat × α))
/-- what is due for a set of taken vertices -/
def Rd (U : Nat) : α := Fr S S.zero (lnS S n es) 0 U
theorem skip {U : Nat} (hU : U < 2 ^ n) : ∀ v, v ≤ n → (∀ i < v, U.testBit i = true) → Rd S n es U = Fr S S.zero ((lnS S n es).drop v) v (U ^^^ low v)
  | 0, _, _ => by
    have : U ^^^ low 0 = U := by
      unfold low
      rw [Nat.pow_zero, Nat.sub_self, Nat.xor_zero]
    rw [this]
    rfl
  | v + 1, h, hb => by
    rw [skip hU v (by omega) (fun i hi => hb i (by omega)), fr_step S S.zero _ (by rw [lnS_len]; omega), if_pos (by rw [Nat.testBit_xor, low_tb, hb v (by omega), decide_eq_false (Nat.lt_irrefl v)]; rfl)]
    congr 1
    refine Nat.eq_of_testBit_eq fun i => ?_
    rw [Nat.testBit_xor, Nat.testBit_xor, Nat.testBit_xor, Nat.testBit_two_pow, low_tb, low_tb]
    by_cases e : v = i
    · subst e
      rw [decide_eq_true rfl, decide_eq_false (Nat.lt_irrefl v), decide_eq_true (Nat.lt_succ_self v)]
      cases U.testBit v <;> rfl
    · rw [decide_eq_false e, Bool.xor_false]
      congr 1
      exact decide_eq_decide.mpr ⟨fun h => by omega, fun h => by omega⟩
theorem Rd_full {U : Nat} (hU : U < 2 ^ n) (hb : ∀ i < n, U.testBit i = true) : Rd S n es U = S.one := by
  rw [skip S n es hU n (Nat.le_refl n) hb, List.drop_eq_nil_of_le (by rw [lnS_len]; exact Nat.le_refl _)]
  have : U ^^^ low n = 0 := Nat.eq_of_testBit_eq fun i => by
    rw [Nat.testBit_xor, low_tb, Nat.zero_testBit]
    by_cases h : i < n
    · rw [hb i h, decide_eq_true h]
      rfl
    · rw [decide_eq_false h, Nat.testBit_lt_two_pow (Nat.lt_of_lt_of_le hU (Nat.pow_le_pow_right (by decide) (by omega)))]
      rfl
  rw [Fr, if_pos this]
/-- an edge from the least free vertex to a free one -/
def cnd (v U : Nat) (e : Nat × Nat × α) : Bool := decide (e.1 ≠ e.2.1) && decide (min e.1 e.2.1 = v) && !U.testBit (max e.1 e.2.1)
def orD (U : Nat) (e : Nat × Nat × α) : Nat := U ||| 2 ^ e.1 ||| 2 ^ e.2.1
def cD (v U : Nat) : List (Nat × α) := (es.filter (cnd v U)).map fun e => (orD U e, e.2.2)
theorem dot_cD (F : Nat → α) (v U : Nat) : ∀ es : List (Nat × Nat × α), dot S F (cD es v U) = sumF S (fun e => if cnd v U e = true then S.mul e.2.2 (F (orD U e)) else S.zero) es
  | [] => rfl
  | e :: es => by
    have ih := dot_cD F v U es
    unfold cD at ih ⊢
    by_cases h : cnd v U e = true
    · rw [List.filter_cons_of_pos h, List.map_cons]
      show S.add _ (dot S F _) = S.add (if cnd v U e = true then _ else _) _
      rw [ih, if_pos h]
    · rw [List.filter_cons_of_neg h, ih]
      show _ = S.add (if cnd v U e = true then _ else _) _
      rw [if_neg h, S.zero_add]
theorem Rd_step (hin : ∀ e ∈ es, e.1 < n ∧ e.2.1 < n) {U v : Nat} (hU : U < 2 ^ n) (hv : v < n) (hb : ∀ i < v, U.testBit i = true) (hf : U.testBit v = false) : Rd S n es U = dot S (Rd S n es) (cD es v U) := by
  have hm : (U ^^^ low v).testBit v = false := by
    rw [Nat.testBit_xor, low_tb, hf, decide_eq_false (Nat.lt_irrefl v)]
    rfl
  rw [skip S n es hU v (by omega) hb, fr_step S S.zero _ (by rw [lnS_len]; exact hv), if_neg (by rw [hm]; decide), S.zero_mul, S.zero_add, lnS_dot S _ hv, dot_cD]
  refine sumF_congr S fun e he => ?_
  obtain ⟨h1, h2⟩ := hin e he
  unfold cnd
  by_cases z1 : e.1 = e.2.1
  · rw [if_neg (fun q => q.1 z1), decide_eq_false (fun q => q z1)]
    rfl
  · by_cases z2 : min e.1 e.2.1 = v
    · rw [if_pos ⟨z1, z2⟩, decide_eq_true z1, decide_eq_true z2]
      have hk : v < max e.1 e.2.1 := by omega
      have hkn : max e.1 e.2.1 < n := by omega
      have hmk : (U ^^^ low v).testBit (max e.1 e.2.1) = U.testBit (max e.1 e.2.1) := by
        rw [Nat.testBit_xor, low_tb, decide_eq_false (by omega), Bool.xor_false]
      rw [hmk]
      cases z3 : U.testBit (max e.1 e.2.1) with
      | true =>
        rw [if_pos rfl]
        show S.mul _ S.zero = _
        rw [S.mul_zero]
        rfl
      | false =>
        rw [if_neg (by decide)]
        show _ = S.mul e.2.2 _
        congr 1
        have eo : orD U e = U ||| 2 ^ v ||| 2 ^ (max e.1 e.2.1) := by
          refine Nat.eq_of_testBit_eq fun i => ?_
          unfold orD
          rw [Nat.testBit_or, Nat.testBit_or, Nat.testBit_or, Nat.testBit_or, Nat.testBit_two_pow, Nat.testBit_two_pow, Nat.testBit_two_pow, Nat.testBit_two_pow]
          by_cases hl : e.1 < e.2.1
          · have a1 : v = e.1 := by omega
            have a2 : max e.1 e.2.1 = e.2.1 := by omega
            rw [a1, a2]
          · have a1 : v = e.2.1 := by omega
            have a2 : max e.1 e.2.1 = e.1 := by omega
            rw [a1, a2, Bool.or_assoc, Bool.or_assoc, Bool.or_comm (decide (e.1 = i))]
        have p1 : 2 ^ v < 2 ^ n := Nat.pow_lt_pow_right (by decide) hv
        have p2 : 2 ^ (max e.1 e.2.1) < 2 ^ n := Nat.pow_lt_pow_right (by decide) hkn
        rw [eo, skip S n es (Nat.or_lt_two_pow (Nat.or_lt_two_pow hU p1) p2) (v + 1) hv (fun i hi => by
          rw [Nat.testBit_or, Nat.testBit_or, Nat.testBit_two_pow]
          by_cases q : v = i
          · rw [decide_eq_true q]
            simp
          · rw [hb i (by omega)]
            simp)]
        congr 1
        refine Nat.eq_of_testBit_eq fun i => ?_
        rw [Nat.testBit_xor, Nat.testBit_or, Nat.testBit_or, Nat.testBit_or, Nat.testBit_xor, Nat.testBit_two_pow, Nat.testBit_two_pow, low_tb, low_tb]
        rcases Nat.lt_trichotomy i v with q | q | q
        · rw [hb i q, decide_eq_true q, decide_eq_true (show i < v + 1 by omega), decide_eq_false (show ¬ max e.1 e.2.1 = i by omega)]
          cases decide (v = i) <;> rfl
        · subst q
          rw [hf, decide_eq_true rfl, decide_eq_false (Nat.lt_irrefl i), decide_eq_true (Nat.lt_succ_self i), decide_eq_false (show ¬ max e.1 e.2.1 = i by omega)]
          rfl
        · rw [decide_eq_false (show ¬ i < v by omega), decide_eq_false (show ¬ i < v + 1 by omega), decide_eq_false (show ¬ v = i by omega)]
          cases U.testBit i <;> cases decide (max e.1 e.2.1 = i) <;> rfl
    · rw [if_neg (fun q => z2 q.2), decide_eq_false z2, Bool.and_false]
      rfl
/-! bits of a set, and the least free vertex -/
def bitsM (n U : Nat) : List Nat := (List.range n).filter fun k => U.testBit k
def freeM (n U : Nat) : List Nat := (List.range n).filter fun k => !U.testBit k
theorem bits_succ (n U : Nat) : (bitsM (n + 1) U).length = (bitsM n U).length + if U.testBit n = true then 1 else 0 := by
  unfold bitsM
  rw [List.range_succ, List.filter_append, List.length_append]
  congr 1
  by_cases h : U.testBit n = true
  · rw [if_pos h, List.filter_cons_of_pos h]
    rfl
  · rw [if_neg h, List.filter_cons_of_neg h]
    rfl
theorem bits_le (n U : Nat) : (bitsM n U).length ≤ n := by
  have := List.length_filter_le (fun k => U.testBit k) (List.range n)
  rwa [List.length_range] at this
theorem bits_or {a U : Nat} (hf : U.testBit a = false) : ∀ n, (bitsM n (U ||| 2 ^ a)).length = (bitsM n U).length + if a < n then 1 else 0
  | 0 => by simp [bitsM]
  | n + 1 => by
    rw [bits_succ, bits_succ, bits_or hf n, Nat.testBit_or, Nat.testBit_two_pow]
    rcases Nat.lt_trichotomy a n with q | q | q
    · rw [if_pos q, if_pos (show a < n + 1 by omega), decide_eq_false (by omega), Bool.or_false]
      omega
    · subst q
      rw [if_neg (Nat.lt_irrefl a), if_pos (Nat.lt_succ_self a), hf, decide_eq_true rfl]
      simp
    · rw [decide_eq_false (show ¬ a = n by omega), Bool.or_false, if_neg (show ¬ a < n by omega), if_neg (show ¬ a < n + 1 by omega)]
      omega
theorem bits_all {U : Nat} : ∀ n, (bitsM n U).length = n → ∀ i < n, U.testBit i = true
  | 0, _, i, h => by omega
  | n + 1, h, i, hi => by
    rw [bits_succ] at h
    have := bits_le n U
    by_cases z : U.testBit n = true
    · rw [if_pos z] at h
      by_cases e : i = n
      · rw [e]
        exact z
      · exact bits_all n (by omega) i (by omega)
    · rw [if_neg z] at h
      omega
theorem free_ne {n U : Nat} (h : (bitsM n U).length < n) : freeM n U ≠ [] := fun z => by
  have : ∀ k ∈ List.range n, U.testBit k = true := fun k hk => by
    cases q : U.testBit k with
    | true => rfl
    | false =>
      have : k ∈ freeM n U := List.mem_filter.mpr ⟨hk, by rw [q]; rfl⟩
      rw [z] at this
      cases this
  have e : bitsM n U = List.range n := List.filter_eq_self.mpr this
  rw [e, List.length_range] at h
  omega
theorem free_head {n U a : Nat} {t : List Nat} (h : freeM n U = a :: t) : a < n ∧ U.testBit a = false ∧ ∀ i < a, U.testBit i = true := by
  have ha : a ∈ freeM n U := by rw [h]; exact List.mem_cons_self ..
  obtain ⟨h1, h2⟩ := List.mem_filter.mp ha
  have h1 := List.mem_range.mp h1
  have h3 : U.testBit a = false := by
    cases z : U.testBit a with
    | false => rfl
    | true =>
      rw [z] at h2
      cases h2
  refine ⟨h1, h3, fun i hi => ?_⟩
  cases z : U.testBit i with
  | true => rfl
  | false =>
    have hm : i ∈ freeM n U := List.mem_filter.mpr ⟨List.mem_range.mpr (by omega), by rw [z]; rfl⟩
    have hp : (freeM n U).Pairwise (· < ·) := List.Pairwise.filter _ List.pairwise_lt_range
    rw [h] at hm hp
    rcases List.mem_cons.mp hm with q | q
    · omega
    · have := (List.pairwise_cons.mp hp).1 i q
      omega
def lowF (n U : Nat) : Nat := (freeM n U).headD 0
def stepD (T : List (Nat × α)) : List (Nat × α) := T.foldl (fun g p => fill S p.2 g (cD es (lowF n p.1) p.1)) []
def tabD : Nat → List (Nat × α)
  | 0 => [(0, S.one)]
  | k + 1 => stepD S n es (tabD k)
theorem dot_congr {F G : Nat → α} : ∀ {T : List (Nat × α)}, (∀ p ∈ T, F p.1 = G p.1) → dot S F T = dot S G T
  | [], _ => rfl
  | p :: T, h => by
    show S.add _ _ = S.add _ _
    rw [h p (List.mem_cons_self ..), dot_congr fun q m => h q (List.mem_cons_of_mem _ m)]
theorem low_spec {n U : Nat} (h : (bitsM n U).length < n) : lowF n U < n ∧ U.testBit (lowF n U) = false ∧ ∀ i < lowF n U, U.testBit i = true := by
  match e : freeM n U, free_ne h with
  | a :: t, _ =>
    have : lowF n U = a := by
      unfold lowF
      rw [e]
      rfl
    rw [this]
    exact free_head e
theorem cD_ok (hin : ∀ e ∈ es, e.1 < n ∧ e.2.1 < n) {U : Nat} (hU : U < 2 ^ n) (h : (bitsM n U).length < n) : ∀ c ∈ cD es (lowF n U) U, c.1 < 2 ^ n ∧ (bitsM n c.1).length = (bitsM n U).length + 2 := fun c hc => by
  obtain ⟨l1, l2, l3⟩ := low_spec h
  obtain ⟨e, he, rfl⟩ := List.mem_map.mp hc
  obtain ⟨m1, m2⟩ := List.mem_filter.mp he
  obtain ⟨h1, h2⟩ := hin e m1
  unfold cnd at m2
  simp only [Bool.and_eq_true, decide_eq_true_eq, Bool.not_eq_true'] at m2
  obtain ⟨⟨k1, k2⟩, k3⟩ := m2
  have f1 : U.testBit e.1 = false := by
    by_cases q : e.1 < e.2.1
    · rw [show e.1 = lowF n U by omega]
      exact l2
    · rw [show e.1 = max e.1 e.2.1 by omega]
      exact k3
  have f2 : U.testBit e.2.1 = false := by
    by_cases q : e.1 < e.2.1
    · rw [show e.2.1 = max e.1 e.2.1 by omega]
      exact k3
    · rw [show e.2.1 = lowF n U by omega]
      exact l2
  have f3 : (U ||| 2 ^ e.1).testBit e.2.1 = false := by
    rw [Nat.testBit_or, f2, Nat.testBit_two_pow, decide_eq_false (by omega)]
    rfl
  refine ⟨Nat.or_lt_two_pow (Nat.or_lt_two_pow hU (Nat.pow_lt_pow_right (by decide) h1)) (Nat.pow_lt_pow_right (by decide) h2), ?_⟩
  show (bitsM n (U ||| 2 ^ e.1 ||| 2 ^ e.2.1)).length = _
  rw [bits_or f3, bits_or f1, if_pos h1, if_pos h2]
/-- the table behind k turns -/
theorem tabD_ok (hin : ∀ e ∈ es, e.1 < n ∧ e.2.1 < n) : ∀ k, 2 * k ≤ n → (keysA (tabD S n es k)).Nodup ∧ (∀ U ∈ keysA (tabD S n es k), U < 2 ^ n ∧ (bitsM n U).length = 2 * k) ∧ dot S (Rd S n es) (tabD S n es k) = Rd S n es 0
  | 0, _ => ⟨by simp [keysA, tabD], fun U hU => by
      rw [List.mem_singleton.mp hU]
      refine ⟨Nat.two_pow_pos n, ?_⟩
      have : bitsM n 0 = [] := List.filter_eq_nil_iff.mpr fun k _ => by
        rw [Nat.zero_testBit]
        decide
      rw [this]
      rfl, by
      show S.add (S.mul S.one (Rd S n es 0)) S.zero = _
      rw [S.add_zero, S.one_mul]⟩
  | k + 1, h => by
    obtain ⟨h1, h2, h3⟩ := tabD_ok hin k (by omega)
    obtain ⟨k1, k2⟩ := step_go2 S (Rd S n es) (fun U => cD es (lowF n U) U) (tabD S n es k) [] List.nodup_nil
    refine ⟨k1, ?_, ?_⟩
    · have go : ∀ (T g : List (Nat × α)), (∀ U ∈ keysA T, U < 2 ^ n ∧ (bitsM n U).length = 2 * k) → (∀ U ∈ keysA g, U < 2 ^ n ∧ (bitsM n U).length = 2 * (k + 1)) → ∀ U ∈ keysA (T.foldl (fun g p => fill S p.2 g (cD es (lowF n p.1) p.1)) g), U < 2 ^ n ∧ (bitsM n U).length = 2 * (k + 1) := by
        intro T
        induction T with
        | nil => exact fun g _ hg => hg
        | cons p T ih =>
          intro g hT hg
          rw [List.foldl_cons]
          refine ih _ (fun U hU => hT U (List.mem_cons_of_mem _ hU)) (keys_fill S p.2 (fun U => U < 2 ^ n ∧ (bitsM n U).length = 2 * (k + 1)) _ _ (fun c hc => ?_) hg)
          obtain ⟨a, b⟩ := hT p.1 (List.mem_cons_self ..)
          obtain ⟨c1, c2⟩ := cD_ok n es hin a (by omega) c hc
          exact ⟨c1, by omega⟩
      exact go _ [] h2 (fun U hU => by cases hU)
    · show dot S _ (stepD S n es _) = _
      unfold stepD
      rw [k2, ← h3, show dot S (Rd S n es) [] = S.zero from rfl, S.zero_add]
      refine dot_congr S fun p hp => ?_
      obtain ⟨a, b⟩ := h2 p.1 (List.mem_map.mpr ⟨p, hp, rfl⟩)
      obtain ⟨l1, l2, l3⟩ := low_spec (n := n) (U := p.1) (by omega)
      exact (Rd_step S n es hin a l1 l3 l2).symm
/-- the end, for an odd number of vertices: nothing -/
theorem tabD_odd (hin : ∀ e ∈ es, e.1 < n ∧ e.2.1 < n) (ho : n % 2 = 1) : Rd S n es 0 = S.zero := by
  obtain ⟨h1, h2, h3⟩ := tabD_ok S n es hin (n / 2) (by omega)
  rw [← h3]
  have : ∀ T : List (Nat × α), (∀ U ∈ keysA T, U < 2 ^ n ∧ (bitsM n U).length = 2 * (n / 2)) → dot S (Rd S n es) T = S.zero := fun T => by
    induction T with
    | nil => exact fun _ => rfl
    | cons p T ih =>
      intro h
      obtain ⟨a, b⟩ := h p.1 (List.mem_cons_self ..)
      obtain ⟨l1, l2, l3⟩ := low_spec (n := n) (U := p.1) (by omega)
      have hc : cD es (lowF n p.1) p.1 = [] := by
        match e : cD es (lowF n p.1) p.1 with
        | [] => rfl
        | c :: t =>
          obtain ⟨_, c2⟩ := cD_ok n es hin a (by omega) c (by rw [e]; exact List.mem_cons_self ..)
          have := bits_le n c.1
          omega
      show S.add (S.mul p.2 (Rd S n es p.1)) (dot S _ T) = _
      rw [ih fun U hU => h U (List.mem_cons_of_mem _ hU), Rd_step S n es hin a l1 l3 l2, hc]
      show S.add (S.mul p.2 S.zero) S.zero = _
      rw [S.mul_zero, S.add_zero]
  exact this _ h2
/-- the end, for an even number: one sum, or nothing -/
theorem tabD_even (hin : ∀ e ∈ es, e.1 < n ∧ e.2.1 < n) (he : n % 2 = 0) : (tabD S n es (n / 2) = [] ∧ Rd S n es 0 = S.zero) ∨ tabD S n es (n / 2) = [(low n, Rd S n es 0)] := by
  obtain ⟨h1, h2, h3⟩ := tabD_ok S n es hin (n / 2) (by omega)
  have hk : ∀ U ∈ keysA (tabD S n es (n / 2)), U = low n := fun U hU => by
    obtain ⟨a, b⟩ := h2 U hU
    refine Nat.eq_of_testBit_eq fun i => ?_
    rw [low_tb]
    by_cases hi : i < n
    · rw [bits_all n (by omega) i hi, decide_eq_true hi]
    · rw [decide_eq_false hi]
      exact Nat.testBit_lt_two_pow (Nat.lt_of_lt_of_le a (Nat.pow_le_pow_right (by decide) (by omega)))
  generalize tabD S n es (n / 2) = T at *
  match T with
  | [] => exact .inl ⟨rfl, h3.symm⟩
  | [p] =>
    refine .inr ?_
    have hp := hk p.1 (List.mem_cons_self ..)
    obtain ⟨a, b⟩ := h2 p.1 (List.mem_cons_self ..)
    have h3 : S.add (S.mul p.2 (Rd S n es p.1)) S.zero = Rd S n es 0 := h3
    rw [Rd_full S n es a (bits_all n (by omega)), S.mul_one, S.add_zero] at h3
    rw [← h3, ← hp]
  | p :: r :: t =>
    have e1 := hk p.1 (List.mem_cons_self ..)
    have e2 := hk r.1 (List.mem_cons_of_mem _ (List.mem_cons_self ..))
    have := (List.nodup_cons.mp (show (p.1 :: r.1 :: keysA t).Nodup from h1)).1
    exact absurd (by rw [e1, e2]; exact List.mem_cons_self ..) this
end
end MT
namespace K04
def gs (n d : Int) : Int := if d < 0 then -((Nat.gcd n.natAbs d.natAbs : Nat) : Int) else ((Nat.gcd n.natAbs d.natAbs : Nat) : Int)
def F (n d : Int) : Int × Int := (n.fdiv (gs n d), d.fdiv (gs n d))
theorem gs_ne {n d : Int} (h : d ≠ 0) : gs n d ≠ 0 := by
  have h1 : Nat.gcd n.natAbs d.natAbs ≠ 0 := fun e => by
    have := (Nat.gcd_eq_zero_iff.mp e).2
    omega
  unfold gs
  split <;> omega
theorem gs_abs (n d : Int) : (gs n d).natAbs = Nat.gcd n.natAbs d.natAbs := by
  unfold gs
  split <;> omega
theorem gs_dvd1 (n d : Int) : gs n d ∣ n := by
  rw [← Int.natAbs_dvd_natAbs, gs_abs]
  exact Nat.gcd_dvd_left _ _
theorem gs_dvd2 (n d : Int) : gs n d ∣ d := by
  rw [← Int.natAbs_dvd_natAbs, gs_abs]
  exact Nat.gcd_dvd_right _ _
theorem gs_le (n : Int) {d : Int} (h : d ≠ 0) : (gs n d).natAbs ≤ d.natAbs := by
  rw [gs_abs]
  exact Nat.gcd_le_right _ (by omega)
theorem fdiv_of {n g m : Int} (hg : g ≠ 0) (h : n = g * m) : n.fdiv g = m := by
  rw [h, Int.mul_fdiv_cancel_left _ hg]
theorem gs_sign (n : Int) {d : Int} (h : d ≠ 0) : (0 < gs n d ∧ 0 < d) ∨ (gs n d < 0 ∧ d < 0) := by
  have h0 := gs_ne (n := n) h
  unfold gs at *
  split
  · rename_i hd
    rw [if_pos hd] at h0
    omega
  · rename_i hd
    rw [if_neg hd] at h0
    omega
theorem F_parts (n : Int) {d : Int} (h : d ≠ 0) : ∃ a b : Int, F n d = (a, b) ∧ n = gs n d * a ∧ d = gs n d * b ∧ 0 < b := by
  obtain ⟨a, ha⟩ := gs_dvd1 n d
  obtain ⟨b, hb⟩ := gs_dvd2 n d
  have hg := gs_ne (n := n) h
  refine ⟨a, b, ?_, ha, hb, ?_⟩
  · unfold F
    rw [fdiv_of hg ha, fdiv_of hg hb]
  · rcases gs_sign n h with ⟨h1, h2⟩ | ⟨h1, h2⟩
    · rw [hb] at h2
      exact Int.pos_of_mul_pos_right h2 h1
    · rw [hb] at h2
      rcases Int.lt_trichotomy b 0 with hx | hx | hx
      · have := Int.mul_pos_of_neg_of_neg h1 hx
        omega
      · subst hx
        omega
      · exact hx
theorem gs_scale {k n d : Int} (hk : k ≠ 0) (hd : d ≠ 0) : gs (k * n) (k * d) = k * gs n d := by
  have e : Nat.gcd (k * n).natAbs (k * d).natAbs = k.natAbs * Nat.gcd n.natAbs d.natAbs := by
    rw [Int.natAbs_mul, Int.natAbs_mul, Nat.gcd_mul_left]
  have hkd : k * d ≠ 0 := Int.mul_ne_zero hk hd
  have a1 := gs_abs (k * n) (k * d)
  rw [e, ← gs_abs n d, ← Int.natAbs_mul] at a1
  rcases Int.natAbs_eq_natAbs_iff.mp a1 with h | h
  · exact h
  · exfalso
    have s1 := gs_sign (k * n) hkd
    have s2 := gs_sign n hd
    rw [h] at s1
    rcases Int.lt_or_gt_of_ne hk with hk | hk
    · rcases s2 with ⟨x, y⟩ | ⟨x, y⟩
      · have := Int.mul_neg_of_neg_of_pos hk x
        have := Int.mul_neg_of_neg_of_pos hk y
        omega
      · have := Int.mul_pos_of_neg_of_neg hk x
        have := Int.mul_pos_of_neg_of_neg hk y
        omega
    · rcases s2 with ⟨x, y⟩ | ⟨x, y⟩
      · have := Int.mul_pos hk x
        have := Int.mul_pos hk y
        omega
      · have := Int.mul_neg_of_pos_of_neg hk x
        have := Int.mul_neg_of_pos_of_neg hk y
        omega
theorem F_scale {k n d : Int} (hk : k ≠ 0) (hd : d ≠ 0) : F (k * n) (k * d) = F n d := by
  obtain ⟨a, b, e, ha, hb, _⟩ := F_parts n hd
  rw [e]
  have hg := gs_ne (n := n) hd
  have hkg : k * gs n d ≠ 0 := Int.mul_ne_zero hk hg
  unfold F
  rw [gs_scale hk hd, fdiv_of hkg (show k * n = k * gs n d * a by rw [Int.mul_assoc, ← ha]), fdiv_of hkg (show k * d = k * gs n d * b by rw [Int.mul_assoc, ← hb])]
theorem F_eq {n d n' d' : Int} (hd : d ≠ 0) (hd' : d' ≠ 0) (h : n * d' = n' * d) : F n d = F n' d' := by
  rw [← F_scale (k := d') hd' hd, ← F_scale (k := d) (n := n') (d := d') hd hd']
  rw [show d' * n = d * n' by rw [Int.mul_comm d' n, h, Int.mul_comm], Int.mul_comm d' d]
theorem F_cross (n : Int) {d : Int} (h : d ≠ 0) : (F n d).1 * d = n * (F n d).2 := by
  obtain ⟨a, b, e, ha, hb, _⟩ := F_parts n h
  rw [e]
  show a * d = n * b
  calc a * d = a * (gs n d * b) := by rw [← hb]
    _ = (gs n d * a) * b := by grind
    _ = n * b := by rw [← ha]
theorem F_pos (n : Int) {d : Int} (h : d ≠ 0) : 0 < (F n d).2 := by
  obtain ⟨a, b, e, ha, hb, p⟩ := F_parts n h
  rw [e]
  exact p
theorem F_le1 (n : Int) {d : Int} (h : d ≠ 0) : (F n d).1.natAbs ≤ n.natAbs := by
  obtain ⟨a, b, e, ha, hb, p⟩ := F_parts n h
  rw [e]
  have hg := gs_ne (n := n) h
  have h1 : 1 ≤ (gs n d).natAbs := by omega
  have h2 : n.natAbs = (gs n d).natAbs * a.natAbs := by
    rw [← Int.natAbs_mul, ← ha]
  rw [h2]
  exact Nat.le_mul_of_pos_left _ h1
theorem F_le2 (n : Int) {d : Int} (h : d ≠ 0) : (F n d).2.natAbs ≤ d.natAbs := by
  obtain ⟨a, b, e, ha, hb, p⟩ := F_parts n h
  rw [e]
  have hg := gs_ne (n := n) h
  have h1 : 1 ≤ (gs n d).natAbs := by omega
  have h2 : d.natAbs = (gs n d).natAbs * b.natAbs := by
    rw [← Int.natAbs_mul, ← hb]
  rw [h2]
  exact Nat.le_mul_of_pos_left _ h1
theorem F_zero (n : Int) {d : Int} (h : d ≠ 0) : (F n d).1 = 0 ↔ n = 0 := by
  have c := F_cross n h
  have p := F_pos n h
  constructor
  · intro e
    rw [e, Int.zero_mul] at c
    rcases Int.mul_eq_zero.mp c.symm with z | z
    · exact z
    · omega
  · intro e
    subst e
    rw [Int.zero_mul] at c
    rcases Int.mul_eq_zero.mp c with z | z
    · exact z
    · omega
/-! what the operations give -/
def addF (p q : Int × Int) : Int × Int := F (p.1 * q.2 + q.1 * p.2) (p.2 * q.2)
def subF (p q : Int × Int) : Int × Int := F (p.1 * q.2 - q.1 * p.2) (p.2 * q.2)
def mulF (p q : Int × Int) : Int × Int := F (p.1 * q.1) (p.2 * q.2)
def divF (p q : Int × Int) : Int × Int := F (p.1 * q.2) (p.2 * q.1)
theorem addF_F {a b c d : Int} (hb : b ≠ 0) (hd : d ≠ 0) : addF (F a b) (F c d) = F (a * d + c * b) (b * d) := by
  have c1 := F_cross a hb
  have c2 := F_cross c hd
  have p1 := F_pos a hb
  have p2 := F_pos c hd
  unfold addF
  refine F_eq (Int.ne_of_gt (Int.mul_pos p1 p2)) (Int.mul_ne_zero hb hd) ?_
  generalize F a b = p at *
  generalize F c d = q at *
  grind
theorem subF_F {a b c d : Int} (hb : b ≠ 0) (hd : d ≠ 0) : subF (F a b) (F c d) = F (a * d - c * b) (b * d) := by
  have c1 := F_cross a hb
  have c2 := F_cross c hd
  have p1 := F_pos a hb
  have p2 := F_pos c hd
  unfold subF
  refine F_eq (Int.ne_of_gt (Int.mul_pos p1 p2)) (Int.mul_ne_zero hb hd) ?_
  generalize F a b = p at *
  generalize F c d = q at *
  grind
theorem mulF_F {a b c d : Int} (hb : b ≠ 0) (hd : d ≠ 0) : mulF (F a b) (F c d) = F (a * c) (b * d) := by
  have c1 := F_cross a hb
  have c2 := F_cross c hd
  have p1 := F_pos a hb
  have p2 := F_pos c hd
  unfold mulF
  refine F_eq (Int.ne_of_gt (Int.mul_pos p1 p2)) (Int.mul_ne_zero hb hd) ?_
  generalize F a b = p at *
  generalize F c d = q at *
  grind
theorem divF_F {a b c d : Int} (hb : b ≠ 0) (hd : d ≠ 0) (hc : c ≠ 0) : divF (F a b) (F c d) = F (a * d) (b * c) := by
  have c1 := F_cross a hb
  have c2 := F_cross c hd
  have p1 := F_pos a hb
  have p2 := F_pos c hd
  have z := F_zero c hd
  unfold divF
  refine F_eq (Int.mul_ne_zero (Int.ne_of_gt p1) (fun e => hc (z.mp e))) (Int.mul_ne_zero hb hc) ?_
  generalize F a b = p at *
  generalize F c d = q at *
  grind
theorem F_one : F 1 1 = (1, 1) := by decide
theorem cmp_F {a b c d : Int} (hb : 0 < b) (hd : 0 < d) : ((F a b).1 * (F c d).2 < (F c d).1 * (F a b).2 ↔ a * d < c * b) := by
  have c1 := F_cross a (Int.ne_of_gt hb)
  have c2 := F_cross c (Int.ne_of_gt hd)
  have p1 := F_pos a (Int.ne_of_gt hb)
  have p2 := F_pos c (Int.ne_of_gt hd)
  generalize F a b = p at *
  generalize F c d = q at *
  have e : (p.1 * q.2 - q.1 * p.2) * (b * d) = (a * d - c * b) * (p.2 * q.2) := by grind
  have h1 : 0 < b * d := Int.mul_pos hb hd
  have h2 : 0 < p.2 * q.2 := Int.mul_pos p1 p2
  constructor
  · intro h
    have h3 : p.1 * q.2 - q.1 * p.2 < 0 := by omega
    have h4 := Int.mul_neg_of_neg_of_pos h3 h1
    rw [e] at h4
    rcases Int.lt_or_le (a * d - c * b) 0 with x | x
    · omega
    · have := Int.mul_nonneg x (Int.le_of_lt h2)
      omega
  · intro h
    have h3 : a * d - c * b < 0 := by omega
    have h4 := Int.mul_neg_of_neg_of_pos h3 h2
    rw [← e] at h4
    rcases Int.lt_or_le (p.1 * q.2 - q.1 * p.2) 0 with x | x
    · omega
    · have := Int.mul_nonneg x (Int.le_of_lt h1)
      omega
/-! powers -/
def pwF (n d : Int) (k : Nat) : Int × Int := F (n ^ k) (d ^ k)
theorem pow_ne {d : Int} (h : d ≠ 0) (k : Nat) : d ^ k ≠ 0 := Int.pow_ne_zero h
theorem pwF_mul {n d : Int} (h : d ≠ 0) (i j : Nat) : mulF (pwF n d i) (pwF n d j) = pwF n d (i + j) := by
  unfold pwF
  rw [mulF_F (pow_ne h i) (pow_ne h j), Int.pow_add, Int.pow_add]
theorem pwF_zero (n d : Int) : pwF n d 0 = (1, 1) := by
  unfold pwF
  rw [Int.pow_zero, Int.pow_zero]
  exact F_one
theorem pwF_one (n d : Int) : pwF n d 1 = F n d := by
  unfold pwF
  rw [Int.pow_succ, Int.pow_zero, Int.one_mul, Int.pow_succ, Int.pow_zero, Int.one_mul]
theorem pow_lt {n : Int} {b : Nat} (h : n.natAbs < 2 ^ b) : ∀ k : Nat, (n ^ k).natAbs < 2 ^ (b * k + 1)
  | 0 => by simp
  | k + 1 => by
    have ih := pow_lt h k
    rw [Int.pow_succ, Int.natAbs_mul]
    have h2 : (n ^ k).natAbs * n.natAbs < 2 ^ (b * k + 1) * 2 ^ b := Nat.mul_lt_mul'' ih h
    rw [← Nat.pow_add] at h2
    have e : b * (k + 1) + 1 = b * k + 1 + b := by
      rw [Nat.mul_add]
      omega
    rw [e]
    exact h2
theorem pwF_lt1 {n d : Int} (h : d ≠ 0) {b : Nat} (hn : n.natAbs < 2 ^ b) (k : Nat) : (pwF n d k).1.natAbs < 2 ^ (b * k + 1) :=
  Nat.lt_of_le_of_lt (F_le1 _ (pow_ne h k)) (pow_lt hn k)
theorem pwF_lt2 {n d : Int} (h : d ≠ 0) {b : Nat} (hd : d.natAbs < 2 ^ b) (k : Nat) : (pwF n d k).2.natAbs < 2 ^ (b * k + 1) :=
  Nat.lt_of_le_of_lt (F_le2 _ (pow_ne h k)) (pow_lt hd k)
/-- 1 / x of a power -/
theorem F_flip {a b : Int} (ha : a ≠ 0) (hb : b ≠ 0) : F (F a b).2 (F a b).1 = F b a := by
  have c := F_cross a hb
  have z := F_zero a hb
  have p := F_pos a hb
  refine F_eq (fun e => ha (z.mp e)) ha ?_
  rw [Int.mul_comm, ← c, Int.mul_comm]
/-! gcd by remainders -/
theorem gcd_step (a b : Int) : Nat.gcd b.natAbs (a.fmod b).natAbs = Nat.gcd a.natAbs b.natAbs := by
  have e : a = a.fmod b + b * a.fdiv b := by
    have := Int.mul_fdiv_add_fmod a b
    omega
  have h : Int.gcd b (a.fmod b) = Int.gcd a b := by
    rw [Int.gcd_comm a b]
    conv => rhs; rw [e]
    rw [Int.gcd_add_mul_left_right]
  exact h
theorem fmod_small {a b : Int} (h : b ≠ 0) : (a.fmod b).natAbs < b.natAbs := by
  rcases Int.lt_or_gt_of_ne h with h | h
  · have e := Int.neg_fmod_neg a b
    have h1 := Int.fmod_nonneg_of_pos (-a) (show 0 < -b by omega)
    have h2 := Int.fmod_lt_of_pos (-a) (show 0 < -b by omega)
    omega
  · have h1 := Int.fmod_nonneg_of_pos a h
    have h2 := Int.fmod_lt_of_pos a h
    omega
end K04
/-! ### series of rationals -/
namespace SM
/-- the first j products of a and b that give to the power n -/
def ps (a b : Nat → Rat) (n : Nat) : Nat → Rat
  | 0 => 0
  | j + 1 => ps a b n j + a j * b (n - j)
def cv (a b : Nat → Rat) (n : Nat) : Rat := ps a b n (n + 1)
def sh (a : Nat → Rat) : Nat → Rat := fun k => a (k + 1)
/-- the derivative -/
def dv (a : Nat → Rat) : Nat → Rat := fun k => ((k + 1 : Nat) : Rat) * a (k + 1)
theorem ps_congr {a b c d : Nat → Rat} {n : Nat} : ∀ j, (∀ k < j, a k = c k) → (∀ k < j, b (n - k) = d (n - k)) → ps a b n j = ps c d n j
  | 0, _, _ => rfl
  | j + 1, h, k => by rw [ps, ps, ps_congr j (fun i hi => h i (by omega)) (fun i hi => k i (by omega)), h j (by omega), k j (by omega)]
theorem cv_congr {a b c d : Nat → Rat} {n : Nat} (h : ∀ k ≤ n, a k = c k) (g : ∀ k ≤ n, b k = d k) : cv a b n = cv c d n := ps_congr _ (fun k hk => h k (by omega)) (fun k hk => g _ (by omega))
theorem ps_head (a b : Nat → Rat) (n : Nat) : ∀ j, ps a b (n + 1) (j + 1) = a 0 * b (n + 1) + ps (sh a) b n j
  | 0 => by
    show 0 + a 0 * b (n + 1 - 0) = a 0 * b (n + 1) + 0
    grind
  | j + 1 => by
    rw [ps, ps_head a b n j, ps]
    have : n + 1 - (j + 1) = n - j := by omega
    rw [this]
    show _ + a (j + 1) * b (n - j) = _ + (_ + a (j + 1) * b (n - j))
    grind
theorem cv_zero (a b : Nat → Rat) : cv a b 0 = a 0 * b 0 := by
  show 0 + a 0 * b 0 = a 0 * b 0
  grind
theorem cv_head (a b : Nat → Rat) (n : Nat) : cv a b (n + 1) = a 0 * b (n + 1) + cv (sh a) b n := ps_head a b n (n + 1)
theorem cv_last (a b : Nat → Rat) (n : Nat) : cv a b (n + 1) = cv a (sh b) n + a (n + 1) * b 0 := by
  have e : ps a b (n + 1) (n + 1) = ps a (sh b) n (n + 1) := by
    suffices h : ∀ j, j ≤ n + 1 → ps a b (n + 1) j = ps a (sh b) n j from h _ (Nat.le_refl _)
    intro j
    induction j with
    | zero => exact fun _ => rfl
    | succ j ih =>
      intro hj
      rw [ps, ps, ih (by omega)]
      have : n + 1 - j = (n - j) + 1 := by omega
      rw [this]
      rfl
  show ps a b (n + 1) (n + 1) + a (n + 1) * b (n + 1 - (n + 1)) = _
  rw [e, Nat.sub_self]
  rfl
theorem cv_comm : ∀ (n : Nat) (a b : Nat → Rat), cv a b n = cv b a n
  | 0, a, b => by rw [cv_zero, cv_zero, Rat.mul_comm]
  | n + 1, a, b => by
    rw [cv_last a b, cv_head b a, cv_comm n (sh b) a]
    grind
theorem cv_lin (a b c : Nat → Rat) (x : Rat) (n : Nat) : cv (fun k => x * a k + b k) c n = x * cv a c n + cv b c n := by
  suffices h : ∀ j, ps (fun k => x * a k + b k) c n j = x * ps a c n j + ps b c n j from h _
  intro j
  induction j with
  | zero => 
    show (0 : Rat) = x * 0 + 0
    grind
  | succ j ih =>
    rw [ps, ps, ps, ih]
    grind
theorem cv_smul (a b : Nat → Rat) (x : Rat) (n : Nat) : cv (fun k => x * a k) b n = x * cv a b n := by
  suffices h : ∀ j, ps (fun k => x * a k) b n j = x * ps a b n j from h _
  intro j
  induction j with
  | zero =>
    show (0 : Rat) = x * 0
    grind
  | succ j ih =>
    rw [ps, ps, ih]
    grind
theorem cv_add (a b c : Nat → Rat) (n : Nat) : cv (fun k => a k + b k) c n = cv a c n + cv b c n := by
  suffices h : ∀ j, ps (fun k => a k + b k) c n j = ps a c n j + ps b c n j from h _
  intro j
  induction j with
  | zero =>
    show (0 : Rat) = 0 + 0
    grind
  | succ j ih =>
    rw [ps, ps, ps, ih]
    grind
theorem cv_assoc : ∀ (n : Nat) (a b c : Nat → Rat), cv (cv a b) c n = cv a (cv b c) n
  | 0, a, b, c => by
    rw [cv_zero, cv_zero, cv_zero, cv_zero, Rat.mul_assoc]
  | n + 1, a, b, c => by
    rw [cv_head, cv_head a, cv_zero]
    have e : sh (cv a b) = fun k => a 0 * sh b k + cv (sh a) b k := funext fun k => cv_head a b k
    rw [e, cv_lin, cv_assoc n, cv_head b c]
    grind
theorem cv_smul2 (a b : Nat → Rat) (x : Rat) (n : Nat) : cv a (fun k => x * b k) n = x * cv a b n := by
  rw [cv_comm, cv_smul, cv_comm]
theorem cv_add2 (a b c : Nat → Rat) (n : Nat) : cv a (fun k => b k + c k) n = cv a b n + cv a c n := by
  rw [cv_comm, cv_add, cv_comm n b a, cv_comm n c a]
/-- the derivative of a product -/
theorem dv_cv : ∀ (n : Nat) (a b : Nat → Rat), dv (cv a b) n = cv (dv a) b n + cv a (dv b) n
  | 0, a, b => by
    show ((1 : Nat) : Rat) * cv a b 1 = _
    rw [cv_head, cv_zero, cv_zero, cv_zero]
    show ((1 : Nat) : Rat) * (a 0 * b 1 + a 1 * b 0) = ((1 : Nat) : Rat) * a 1 * b 0 + a 0 * (((1 : Nat) : Rat) * b 1)
    grind
  | n + 1, a, b => by
    have ih := dv_cv n (sh a) b
    show ((n + 1 + 1 : Nat) : Rat) * cv a b (n + 1 + 1) = _
    rw [cv_head a b, cv_head (dv a) b, cv_head a (dv b)]
    have e1 : ((n + 1 + 1 : Nat) : Rat) = ((n + 1 : Nat) : Rat) + 1 := by
      have : ((n + 1 + 1 : Nat) : Rat) = ((n + 1 : Nat) : Rat) + ((1 : Nat) : Rat) := Rat.natCast_add (n + 1) 1
      rw [this]
      rfl
    have e2 : sh (dv a) = fun k => dv (sh a) k + sh (sh a) k := funext fun k => by
      show ((k + 1 + 1 : Nat) : Rat) * a (k + 1 + 1) = ((k + 1 : Nat) : Rat) * a (k + 1 + 1) + a (k + 1 + 1)
      have : ((k + 1 + 1 : Nat) : Rat) = ((k + 1 : Nat) : Rat) + ((1 : Nat) : Rat) := Rat.natCast_add (k + 1) 1
      rw [this]
      have : ((1 : Nat) : Rat) = 1 := rfl
      rw [this]
      grind
    rw [e2, cv_add]
    have e3 : dv (cv (sh a) b) n = ((n + 1 : Nat) : Rat) * cv (sh a) b (n + 1) := rfl
    rw [e3] at ih
    have e4 : dv b (n + 1) = ((n + 1 + 1 : Nat) : Rat) * b (n + 1 + 1) := rfl
    have e5 : dv a 0 = a 1 := by
      show ((1 : Nat) : Rat) * a 1 = a 1
      have : ((1 : Nat) : Rat) = 1 := rfl
      rw [this]
      grind
    have e6 : cv (sh a) b (n + 1) = a 1 * b (n + 1) + cv (sh (sh a)) b n := cv_head (sh a) b n
    rw [e4, e5, e1]
    generalize ((n + 1 : Nat) : Rat) = N at *
    grind
/-! ### the exponential -/
def dl : Nat → Rat := fun k => if k = 0 then 1 else 0
theorem cv_dl (a : Nat → Rat) : ∀ n, cv dl a n = a n
  | 0 => by
    rw [cv_zero]
    show (1 : Rat) * a 0 = a 0
    grind
  | n + 1 => by
    rw [cv_head]
    have : sh dl = fun k => (0 : Rat) * dl k := funext fun k => by
      show (if k + 1 = 0 then (1 : Rat) else 0) = 0 * dl k
      rw [if_neg (by omega)]
      grind
    rw [this, cv_smul]
    show (1 : Rat) * a (n + 1) + 0 * _ = a (n + 1)
    grind
/-- f^k / k! -/
def tm (f : Nat → Rat) : Nat → Nat → Rat
  | 0 => dl
  | k + 1 => fun n => cv (tm f k) f n * (1 / ((k + 1 : Nat) : Rat))
theorem natc_ne (k : Nat) : ((k + 1 : Nat) : Rat) ≠ 0 := by
  intro h
  have : ((k + 1 : Nat) : Rat) = ((0 : Nat) : Rat) := h
  have := Rat.natCast_inj.mp this
  omega
theorem natc_succ (k : Nat) : ((k + 1 : Nat) : Rat) = (k : Rat) + 1 := by
  have : ((k + 1 : Nat) : Rat) = (k : Rat) + ((1 : Nat) : Rat) := Rat.natCast_add k 1
  rw [this]
  rfl
theorem tm_dv (f : Nat → Rat) : ∀ (k n : Nat), dv (tm f (k + 1)) n = cv (dv f) (tm f k) n
  | 0, n => by
    have h1 : tm f 1 = f := funext fun m => by
      show cv dl f m * (1 / ((1 : Nat) : Rat)) = f m
      rw [cv_dl]
      have : ((1 : Nat) : Rat) = 1 := rfl
      rw [this]
      grind
    rw [h1, cv_comm]
    show _ = cv dl (dv f) n
    rw [cv_dl]
  | k + 1, n => by
    have ih : dv (tm f (k + 1)) = cv (dv f) (tm f k) := funext fun m => tm_dv f k m
    have h0 := natc_ne (k + 1)
    have h1 : dv (tm f (k + 1 + 1)) n = dv (cv (tm f (k + 1)) f) n * (1 / ((k + 1 + 1 : Nat) : Rat)) := by
      show _ * (cv (tm f (k + 1)) f (n + 1) * _) = _ * cv (tm f (k + 1)) f (n + 1) * _
      grind
    rw [h1, dv_cv, ih, cv_assoc]
    have h2 : cv (tm f k) f = fun m => ((k + 1 : Nat) : Rat) * tm f (k + 1) m := funext fun m => by
      have := natc_ne k
      show cv (tm f k) f m = ((k + 1 : Nat) : Rat) * (cv (tm f k) f m * (1 / ((k + 1 : Nat) : Rat)))
      generalize ((k + 1 : Nat) : Rat) = N at *
      grind
    rw [h2, cv_smul2, cv_comm n (tm f (k + 1)) (dv f), natc_succ (k + 1)]
    rw [natc_succ (k + 1)] at h0
    generalize ((k + 1 : Nat) : Rat) = N at *
    grind
theorem tm_low {f : Nat → Rat} (h : f 0 = 0) : ∀ k n, n < k → tm f k n = 0
  | 0, n, hn => by omega
  | k + 1, n, hn => by
    show cv (tm f k) f n * _ = 0
    have : cv (tm f k) f n = 0 := by
      cases n with
      | zero =>
        rw [cv_zero, h]
        grind
      | succ n =>
        rw [cv_last, h]
        have e : cv (tm f k) (sh f) n = cv (fun m => (0 : Rat) * tm f k m) (sh f) n := cv_congr (fun m hm => by rw [tm_low h k m (by omega)]; grind) (fun _ _ => rfl)
        rw [e, cv_smul]
        grind
    rw [this]
    grind
/-- the sum of the first terms -/
def tot (f : Nat → Rat) : Nat → Nat → Rat
  | 0 => tm f 0
  | k + 1 => fun n => tot f k n + tm f (k + 1) n
theorem tot_dv (f : Nat → Rat) : ∀ (k n : Nat), dv (tot f (k + 1)) n = cv (dv f) (tot f k) n
  | 0, n => by
    have h0 : dv (tm f 0) n = 0 := by
      show _ * (if n + 1 = 0 then (1 : Rat) else 0) = 0
      rw [if_neg (by omega)]
      grind
    have h1 : dv (tot f 1) n = dv (tm f 0) n + dv (tm f 1) n := by
      show _ * (tm f 0 (n + 1) + tm f 1 (n + 1)) = _
      rw [Rat.mul_add]
      rfl
    rw [h1, h0, tm_dv]
    show 0 + cv (dv f) (tm f 0) n = cv (dv f) (tm f 0) n
    grind
  | k + 1, n => by
    have h1 : dv (tot f (k + 1 + 1)) n = dv (tot f (k + 1)) n + dv (tm f (k + 1 + 1)) n := by
      show _ * (tot f (k + 1) (n + 1) + tm f (k + 1 + 1) (n + 1)) = _
      rw [Rat.mul_add]
      rfl
    rw [h1, tot_dv f k, tm_dv]
    have h2 : tot f (k + 1) = fun m => tot f k m + tm f (k + 1) m := rfl
    rw [h2, cv_add2]
/-- e goes on by g: (n + 1) e (n + 1) is the n-th coefficient of g times e, below N -/
def Goes (g e : Nat → Rat) (N : Nat) : Prop := e 0 = 1 ∧ ∀ n < N, ((n + 1 : Nat) : Rat) * e (n + 1) = cv g e n
theorem goes_uniq {g e d : Nat → Rat} {N : Nat} (h : Goes g e N) (k : Goes g d N) : ∀ n ≤ N, e n = d n := by
  intro n
  induction n using Nat.strongRecOn with
  | _ n ih =>
    intro hn
    cases n with
    | zero => rw [h.1, k.1]
    | succ n =>
      have h1 := h.2 n (by omega)
      have k1 := k.2 n (by omega)
      have e1 : cv g e n = cv g d n := cv_congr (fun _ _ => rfl) fun m hm => ih m (by omega) (by omega)
      have := natc_ne n
      rw [e1, ← k1] at h1
      generalize ((n + 1 : Nat) : Rat) = X at *
      grind
theorem tot_goes {f : Nat → Rat} (h : f 0 = 0) (N : Nat) : Goes (dv f) (tot f N) N := by
  constructor
  · have : ∀ k, tot f k 0 = 1 := fun k => by
      induction k with
      | zero => rfl
      | succ k ih =>
        show tot f k 0 + tm f (k + 1) 0 = 1
        rw [ih, tm_low h (k + 1) 0 (by omega)]
        grind
    exact this N
  · intro n hn
    cases N with
    | zero => omega
    | succ N =>
      have h1 := tot_dv f N n
      have h2 : cv (dv f) (tot f N) n = cv (dv f) (tot f (N + 1)) n := cv_congr (fun _ _ => rfl) fun m hm => by
        show tot f N m = tot f N m + tm f (N + 1) m
        rw [tm_low h (N + 1) m (by omega)]
        grind
      rw [← h2, ← h1]
      rfl
/-- the slopes are told -/
theorem goes_slopes {g s e : Nat → Rat} {N : Nat} (h : Goes g e N) (k : Goes s e N) : ∀ n < N, g n = s n := by
  intro n
  induction n using Nat.strongRecOn with
  | _ n ih =>
    intro hn
    have h1 := h.2 n hn
    have k1 := k.2 n hn
    rw [h1] at k1
    have e1 : ps g e n n = ps s e n n := ps_congr _ (fun m hm => ih m hm (by omega)) fun _ _ => rfl
    have k2 : ps g e n n + g n * e (n - n) = ps s e n n + s n * e (n - n) := k1
    rw [e1, Nat.sub_self, h.1] at k2
    grind
end SM
/-! ### fractions as rationals, their sizes -/
namespace SM
open K04
def fq (r : Rat) : Int × Int := (r.num, (r.den : Int))
theorem den_ne (r : Rat) : (r.den : Int) ≠ 0 := by
  have := r.den_nz
  omega
theorem F_red (r : Rat) : F r.num (r.den : Int) = fq r := by
  have hg : gs r.num (r.den : Int) = 1 := by
    unfold gs
    rw [if_neg (by omega), Int.natAbs_natCast, r.reduced]
    rfl
  unfold F fq
  rw [hg, Int.fdiv_one, Int.fdiv_one]
theorem F_fq (n : Int) {d : Int} (h : d ≠ 0) : F n d = fq (Rat.divInt n d) := by
  rw [← F_red]
  refine F_eq h (den_ne _) ?_
  have := Rat.num_divInt_den (Rat.divInt n d)
  exact ((Rat.divInt_eq_divInt_iff (den_ne _) h).mp this).symm
theorem addF_fq (a b : Rat) : addF (fq a) (fq b) = fq (a + b) := by
  unfold addF fq
  rw [F_fq _ (Int.mul_ne_zero (den_ne a) (den_ne b)), ← Rat.divInt_add_divInt _ _ (den_ne a) (den_ne b), Rat.num_divInt_den, Rat.num_divInt_den]
  rfl
theorem subF_fq (a b : Rat) : subF (fq a) (fq b) = fq (a - b) := by
  unfold subF fq
  rw [F_fq _ (Int.mul_ne_zero (den_ne a) (den_ne b)), ← Rat.divInt_sub_divInt _ _ (den_ne a) (den_ne b), Rat.num_divInt_den, Rat.num_divInt_den]
  rfl
theorem mulF_fq (a b : Rat) : mulF (fq a) (fq b) = fq (a * b) := by
  unfold mulF fq
  rw [F_fq _ (Int.mul_ne_zero (den_ne a) (den_ne b)), ← Rat.divInt_mul_divInt, Rat.num_divInt_den, Rat.num_divInt_den]
  rfl
theorem num_ne {b : Rat} (h : b ≠ 0) : b.num ≠ 0 := fun e => h (Rat.num_eq_zero.mp e)
theorem divF_fq (a : Rat) {b : Rat} (h : b ≠ 0) : divF (fq a) (fq b) = fq (a / b) := by
  unfold divF fq
  rw [F_fq _ (Int.mul_ne_zero (den_ne a) (num_ne h)), ← Rat.divInt_mul_divInt, Rat.num_divInt_den]
  have e : Rat.divInt (b.den : Int) b.num = b⁻¹ := by
    rw [← Rat.inv_divInt, Rat.num_divInt_den]
  rw [e, ← Rat.div_def]
  rfl
theorem fq_one : fq 1 = (1, 1) := rfl
theorem fq_zero : fq 0 = (0, 1) := rfl
theorem fq_nat (k : Nat) : fq (k : Rat) = ((k : Int), 1) := rfl
theorem fq_inv (k : Nat) : fq (1 / ((k + 1 : Nat) : Rat)) = (1, ((k + 1 : Nat) : Int)) := by
  have h := divF_fq 1 (natc_ne k)
  rw [← h, fq_one, fq_nat]
  unfold divF
  show F (1 * 1) (1 * ((k + 1 : Nat) : Int)) = _
  rw [Int.one_mul, Int.one_mul]
  have hg : gs 1 ((k + 1 : Nat) : Int) = 1 := by
    unfold gs
    rw [if_neg (by omega)]
    simp
  unfold F
  rw [hg, Int.fdiv_one, Int.fdiv_one]
/-- r times m is an integer, at most X -/
def Iz (m X : Nat) (r : Rat) : Prop := ∃ N : Int, r * (m : Rat) = (N : Rat) ∧ N.natAbs ≤ X
section
variable {m n X Y c : Nat} {a b r : Rat}
theorem Iz.le (h : Iz m X r) (k : X ≤ Y) : Iz m Y r := by
  obtain ⟨N, e, l⟩ := h
  exact ⟨N, e, Nat.le_trans l k⟩
theorem Iz.mul (h : Iz m X a) (k : Iz n Y b) : Iz (m * n) (X * Y) (a * b) := by
  obtain ⟨N, e, l⟩ := h
  obtain ⟨M, f, g⟩ := k
  refine ⟨N * M, ?_, by rw [Int.natAbs_mul]; exact Nat.mul_le_mul l g⟩
  rw [Rat.natCast_mul, Rat.intCast_mul, ← e, ← f]
  grind
theorem Iz.add (h : Iz m X a) (k : Iz m Y b) : Iz m (X + Y) (a + b) := by
  obtain ⟨N, e, l⟩ := h
  obtain ⟨M, f, g⟩ := k
  refine ⟨N + M, ?_, Nat.le_trans (Int.natAbs_add_le N M) (Nat.add_le_add l g)⟩
  rw [Rat.intCast_add, ← e, ← f]
  grind
theorem Iz.sub (h : Iz m X a) (k : Iz m Y b) : Iz m (X + Y) (a - b) := by
  obtain ⟨N, e, l⟩ := h
  obtain ⟨M, f, g⟩ := k
  refine ⟨N - M, ?_, by omega⟩
  rw [Rat.intCast_sub, ← e, ← f]
  grind
theorem Iz.up (h : Iz m X r) (c : Nat) : Iz (m * c) (X * c) r := by
  obtain ⟨N, e, l⟩ := h
  refine ⟨N * c, ?_, by rw [Int.natAbs_mul, Int.natAbs_natCast]; exact Nat.mul_le_mul_right c l⟩
  rw [Rat.natCast_mul, Rat.intCast_mul, ← e, Rat.intCast_natCast]
  grind
theorem Iz.zero : Iz m 0 0 := ⟨0, by show (0 : Rat) * _ = 0; grind, Nat.le_refl _⟩
theorem Iz.inv (k : Nat) : Iz (k + 1) 1 (1 / ((k + 1 : Nat) : Rat)) := ⟨1, by
  have := natc_ne k
  show 1 / ((k + 1 : Nat) : Rat) * ((k + 1 : Nat) : Rat) = 1
  generalize ((k + 1 : Nat) : Rat) = N at *
  grind, Nat.le_refl _⟩
theorem Iz.nat (k : Nat) : Iz 1 k (k : Rat) := ⟨k, by
  show (k : Rat) * 1 = ((k : Int) : Rat)
  rw [Rat.intCast_natCast]
  grind, by omega⟩
theorem Iz.sizes (h : Iz m X r) (hm : m ≠ 0) : (fq r).1.natAbs ≤ X ∧ (fq r).2.natAbs ≤ m := by
  obtain ⟨N, e, l⟩ := h
  have hm' : (m : Int) ≠ 0 := by omega
  have h2 : r = Rat.divInt N (m : Int) := by
    have h3 : ((m : Nat) : Rat) ≠ 0 := fun z => hm (Rat.natCast_inj.mp (z : (m : Rat) = ((0 : Nat) : Rat)))
    rw [Rat.divInt_eq_div, ← e, Rat.intCast_natCast]
    grind
  rw [h2, ← F_fq N hm']
  refine ⟨Nat.le_trans (F_le1 N hm') l, ?_⟩
  have := F_le2 N hm'
  omega
theorem ps_iz {f g : Nat → Rat} {n : Nat} : ∀ j, (∀ k < j, Iz m X (f k * g (n - k))) → Iz m (j * X) (ps f g n j)
  | 0, _ => by
    rw [Nat.zero_mul]
    exact Iz.zero
  | j + 1, h => by
    rw [Nat.succ_mul]
    exact (ps_iz j fun k hk => h k (by omega)).add (h j (by omega))
end
def fact : Nat → Nat
  | 0 => 1
  | n + 1 => fact n * (n + 1)
theorem fact_pos : ∀ n, 0 < fact n
  | 0 => by decide
  | n + 1 => Nat.mul_pos (fact_pos n) (Nat.succ_pos n)
theorem fact_desc : ∀ k n, k ≤ n → n ≤ 12 → ∃ q, fact n = fact (n - k) * q ∧ q ≤ 12 ^ k
  | 0, n, _, _ => ⟨1, by rw [Nat.sub_zero, Nat.mul_one], Nat.le_refl _⟩
  | k + 1, n, h, h12 => by
    obtain ⟨q, e, l⟩ := fact_desc k n (by omega) h12
    refine ⟨(n - k) * q, ?_, ?_⟩
    · have e2 : n - k = (n - (k + 1)) + 1 := by omega
      have e3 : fact (n - k) = fact (n - (k + 1)) * (n - k) := by
        conv => lhs; rw [e2, fact]
        rw [← e2]
      rw [e, e3, Nat.mul_assoc]
    · rw [Nat.pow_succ, Nat.mul_comm (12 ^ k)]
      exact Nat.mul_le_mul (by omega) l
theorem fact_dvd : ∀ k n, fact n ∣ fact (n + k)
  | 0, n => Nat.dvd_refl _
  | k + 1, n => Nat.dvd_trans (fact_dvd k n) (by rw [← Nat.add_assoc, fact]; exact Nat.dvd_mul_right _ _)
def M1 : Nat := 12 ^ 13 * fact 12
/-- small enough to be multiplied and added up -/
def Sm (r : Rat) : Prop := (fq r).1.natAbs < 2 ^ 1900 ∧ (fq r).2.natAbs < 2 ^ 1900
def Gd (r : Rat) : Prop := Iz M1 (2 ^ 300) r
theorem M1_lt : M1 < 2 ^ 80 := by decide +kernel
theorem M1_ne : M1 ≠ 0 := by decide +kernel
theorem sm_of {m X : Nat} {r : Rat} (h : Iz m X r) (hm : m ≠ 0) (h1 : m < 2 ^ 1900) (h2 : X < 2 ^ 1900) : Sm r := by
  obtain ⟨a, b⟩ := h.sizes hm
  exact ⟨Nat.lt_of_le_of_lt a h2, Nat.lt_of_le_of_lt b h1⟩
theorem two_le {a b : Nat} (h : a ≤ b) : 2 ^ a ≤ 2 ^ b := Nat.pow_le_pow_right (by decide) h
theorem Gd.sm {r : Rat} (h : Gd r) : Sm r := sm_of h M1_ne (Nat.lt_of_lt_of_le M1_lt (two_le (by decide))) (Nat.pow_lt_pow_right (by decide) (by decide))
theorem gd_of {m X : Nat} {r : Rat} (h : Iz m X r) (hm : m ∣ M1) (hX : X ≤ 2 ^ 200) : Gd r := by
  obtain ⟨c, hc⟩ := hm
  have h1 := h.up c
  rw [← hc] at h1
  refine h1.le ?_
  have hc1 : c ≤ M1 := by
    have h0 : m ≠ 0 := fun z => M1_ne (by rw [hc, z, Nat.zero_mul])
    rw [hc]
    exact Nat.le_mul_of_pos_left c (by omega)
  have h2 : X * c ≤ 2 ^ 200 * 2 ^ 80 := Nat.mul_le_mul hX (Nat.le_of_lt (Nat.lt_of_le_of_lt hc1 M1_lt))
  rw [← Nat.pow_add] at h2
  exact Nat.le_trans h2 (two_le (by decide))
theorem MM_ne : M1 * M1 ≠ 0 := Nat.mul_ne_zero M1_ne M1_ne
theorem MM_lt : M1 * M1 < 2 ^ 1900 := by
  have := Nat.mul_lt_mul'' M1_lt M1_lt
  rw [← Nat.pow_add] at this
  exact Nat.lt_of_lt_of_le this (two_le (by decide))
theorem Gd.mul {a b : Rat} (h : Gd a) (k : Gd b) : Iz (M1 * M1) (2 ^ 600) (a * b) := by
  have := Iz.mul h k
  rw [← Nat.pow_add] at this
  exact this
theorem Gd.mul_sm {a b : Rat} (h : Gd a) (k : Gd b) : Sm (a * b) := sm_of (h.mul k) MM_ne MM_lt (Nat.pow_lt_pow_right (by decide) (by decide))
/-- sums of at most a thousand products -/
theorem ps_sm {a b : Nat → Rat} {n j : Nat} (hj : j ≤ 1000) (h : ∀ k < j, Gd (a k) ∧ Gd (b (n - k))) : Sm (ps a b n j) := by
  refine sm_of (ps_iz (m := M1 * M1) (X := 2 ^ 600) j fun k hk => (h k hk).1.mul (h k hk).2) MM_ne MM_lt ?_
  have : j * 2 ^ 600 ≤ 2 ^ 10 * 2 ^ 600 := Nat.mul_le_mul_right _ (Nat.le_trans hj (by decide))
  rw [← Nat.pow_add] at this
  exact Nat.lt_of_le_of_lt this (Nat.pow_lt_pow_right (by decide) (by decide))
theorem pf_dvd {n : Nat} (h : n ≤ 12) : 12 ^ n * fact n ∣ M1 := Nat.mul_dvd_mul (Nat.pow_dvd_pow 12 (by omega)) (by
  have := fact_dvd (12 - n) n
  rw [show n + (12 - n) = 12 by omega] at this
  exact this)
section
variable {f g s e : Nat → Rat} {N : Nat}
theorem dv_iz (hf : ∀ k ≤ N, Iz 12 36 (f k)) {k : Nat} (hk : k < N) (hN : N ≤ 12) : Iz 12 432 (dv f k) := by
  have h := (Iz.nat (k + 1)).mul (hf (k + 1) (by omega))
  rw [Nat.one_mul] at h
  exact h.le (by omega)
/-- the entries of the exponential -/
theorem exp_iz (hf : ∀ k ≤ N, Iz 12 36 (f k)) (hN : N ≤ 12) (h : Goes (dv f) e N) : ∀ n ≤ N, Iz (12 ^ n * fact n) (2 ^ (13 * n)) (e n) := by
  intro n
  induction n using Nat.strongRecOn with
  | _ n ih =>
    intro hn
    cases n with
    | zero =>
      rw [h.1]
      exact ⟨1, by show (1 : Rat) * ((1 : Nat) : Rat) = 1; have : ((1 : Nat) : Rat) = 1 := rfl; rw [this]; grind, Nat.le_refl _⟩
    | succ n =>
      have h1 := h.2 n (by omega)
      have h2 : Iz (12 ^ (n + 1) * fact n) ((n + 1) * (432 * 2 ^ (13 * n))) (cv (dv f) e n) := ps_iz (n + 1) fun k hk => by
        obtain ⟨q, hq, lq⟩ := fact_desc k n (by omega) (by omega)
        have a := (dv_iz hf (show k < N by omega) hN).mul (ih (n - k) (by omega) (by omega))
        have b := a.up (12 ^ k * q)
        have em : 12 * (12 ^ (n - k) * fact (n - k)) * (12 ^ k * q) = 12 ^ (n + 1) * fact n := by
          rw [hq, Nat.pow_succ]
          have : 12 ^ n = 12 ^ (n - k) * 12 ^ k := by rw [← Nat.pow_add]; congr 1; omega
          rw [this]
          ac_rfl
        rw [em] at b
        refine b.le ?_
        have l1 : 12 ^ k * q ≤ 2 ^ (13 * k) := by
          refine Nat.le_trans (Nat.mul_le_mul_left _ lq) ?_
          rw [← Nat.mul_pow, Nat.pow_mul]
          exact Nat.pow_le_pow_left (by decide) k
        rw [Nat.mul_assoc]
        refine Nat.mul_le_mul_left _ ?_
        refine Nat.le_trans (Nat.mul_le_mul_left _ l1) ?_
        rw [← Nat.pow_add]
        exact two_le (by omega)
      have h3 := h2.mul (Iz.inv n)
      have e3 : cv (dv f) e n * (1 / ((n + 1 : Nat) : Rat)) = e (n + 1) := by
        have := natc_ne n
        rw [← h1]
        generalize ((n + 1 : Nat) : Rat) = X at *
        grind
      rw [e3, Nat.mul_one, Nat.mul_assoc] at h3
      refine h3.le ?_
      rw [show 13 * (n + 1) = 13 + 13 * n by omega, Nat.pow_add, ← Nat.mul_assoc]
      exact Nat.mul_le_mul_right _ (Nat.le_trans (Nat.mul_le_mul_right 432 (show n + 1 ≤ 12 by omega)) (by decide))
theorem exp_gd (hf : ∀ k ≤ N, Iz 12 36 (f k)) (hN : N ≤ 12) (h : Goes (dv f) e N) {n : Nat} (hn : n ≤ N) : Gd (e n) := gd_of (exp_iz hf hN h n hn) (pf_dvd (by omega)) (two_le (by omega))
theorem tm_iz (hf : ∀ k ≤ N, Iz 12 36 (f k)) (hN : N ≤ 12) : ∀ k n, n ≤ N → Iz (12 ^ k * fact k) (468 ^ k) (tm f k n)
  | 0, n, _ => by
    show Iz 1 1 (if n = 0 then (1 : Rat) else 0)
    split
    · exact (Iz.nat 1)
    · exact Iz.zero.le (Nat.zero_le _)
  | k + 1, n, hn => by
    have h2 : Iz (12 ^ k * fact k * 12) ((n + 1) * (468 ^ k * 36)) (cv (tm f k) f n) := ps_iz (n + 1) fun j hj => (tm_iz hf hN k j (by omega)).mul (hf (n - j) (by omega))
    have h3 := h2.mul (Iz.inv k)
    have em : 12 ^ k * fact k * 12 * (k + 1) = 12 ^ (k + 1) * fact (k + 1) := by
      rw [fact, Nat.pow_succ]
      ac_rfl
    rw [em, Nat.mul_one] at h3
    refine h3.le ?_
    rw [Nat.pow_succ, show (468 : Nat) = 13 * 36 from rfl, ← Nat.mul_assoc, Nat.mul_comm (n + 1), Nat.mul_assoc]
    exact Nat.mul_le_mul_left _ (Nat.mul_le_mul_right _ (by omega))
theorem tm_gd (hf : ∀ k ≤ N, Iz 12 36 (f k)) (hN : N ≤ 12) {k n : Nat} (hk : k ≤ 12) (hn : n ≤ N) : Gd (tm f k n) := gd_of (tm_iz hf hN k n hn) (pf_dvd hk) (by
  refine Nat.le_trans (Nat.pow_le_pow_right (by decide) hk) ?_
  decide +kernel)
theorem slope_iz (he : ∀ k ≤ N, Iz 12 36 (e k)) (hN : N ≤ 12) (h : Goes s e N) : ∀ n < N, Iz (12 ^ (n + 1)) (1024 ^ (n + 1)) (s n) := by
  intro n
  induction n using Nat.strongRecOn with
  | _ n ih =>
    intro hn
    have h1 := h.2 n hn
    have h2 : s n = ((n + 1 : Nat) : Rat) * e (n + 1) - ps s e n n := by
      have k2 : ((n + 1 : Nat) : Rat) * e (n + 1) = ps s e n n + s n * e (n - n) := h1
      rw [Nat.sub_self, h.1] at k2
      rw [k2]
      grind
    rw [h2]
    have a1 := (dv_iz he hn hN).up (12 ^ n)
    have a2 : Iz (12 ^ (n + 1)) (n * (36 * 1024 ^ n)) (ps s e n n) := ps_iz n fun k hk => by
      have b := ((ih k hk (by omega)).mul (he (n - k) (by omega))).up (12 ^ (n - 1 - k))
      have em : 12 ^ (k + 1) * 12 * 12 ^ (n - 1 - k) = 12 ^ (n + 1) := by
        rw [← Nat.pow_succ, ← Nat.pow_add]
        congr 1
        omega
      rw [em] at b
      refine b.le ?_
      have l1 : 12 ^ (n - 1 - k) ≤ 1024 ^ (n - 1 - k) := Nat.pow_le_pow_left (by decide) _
      have l2 : 1024 ^ (k + 1) * 36 * 12 ^ (n - 1 - k) ≤ 1024 ^ (k + 1) * 36 * 1024 ^ (n - 1 - k) := Nat.mul_le_mul_left _ l1
      refine Nat.le_trans l2 (Nat.le_of_eq ?_)
      have e2 : (1024 : Nat) ^ n = 1024 ^ (k + 1) * 1024 ^ (n - 1 - k) := by
        rw [← Nat.pow_add]
        congr 1
        omega
      rw [e2]
      ac_rfl
    rw [show 12 * 12 ^ n = 12 ^ (n + 1) by rw [Nat.pow_succ, Nat.mul_comm]] at a1
    refine (a1.sub a2).le ?_
    have l1 : (12 : Nat) ^ n ≤ 1024 ^ n := Nat.pow_le_pow_left (by decide) n
    have l2 : n * (36 * 1024 ^ n) ≤ 12 * (36 * 1024 ^ n) := Nat.mul_le_mul_right _ (by omega)
    rw [Nat.pow_succ]
    omega
theorem slope_gd (he : ∀ k ≤ N, Iz 12 36 (e k)) (hN : N ≤ 12) (h : Goes s e N) {n : Nat} (hn : n < N) : Gd (s n) := gd_of (slope_iz he hN h n hn) (Nat.dvd_trans (Nat.pow_dvd_pow 12 (show n + 1 ≤ 13 by omega)) (Nat.dvd_mul_right _ _)) (by
  rw [show (1024 : Nat) = 2 ^ 10 from rfl, ← Nat.pow_mul]
  exact two_le (by omega))
end
end SM
namespace SM
theorem goes_congr {g h e d : Nat → Rat} {N : Nat} (G : Goes g e N) (k1 : ∀ k < N, h k = g k) (k2 : ∀ k ≤ N, d k = e k) : Goes h d N := by
  refine ⟨by rw [k2 0 (Nat.zero_le _)]; exact G.1, fun n hn => ?_⟩
  have e1 : cv h d n = cv g e n := cv_congr (fun k hk => k1 k (by omega)) (fun k hk => k2 k (by omega))
  rw [e1, k2 (n + 1) hn]
  exact G.2 n hn
theorem slopes_ex {e : Nat → Rat} (h0 : e 0 = 1) : ∀ N, ∃ s, Goes s e N
  | 0 => ⟨fun _ => 0, h0, fun n hn => by omega⟩
  | N + 1 => by
    obtain ⟨s, _, hs⟩ := slopes_ex h0 N
    refine ⟨fun k => if k = N then ((N + 1 : Nat) : Rat) * e (N + 1) - ps s e N N else s k, h0, fun n hn => ?_⟩
    by_cases hN : n = N
    · subst hN
      have e1 : ps (fun k => if k = n then ((n + 1 : Nat) : Rat) * e (n + 1) - ps s e n n else s k) e n n = ps s e n n := ps_congr _ (fun k hk => if_neg (by omega)) fun _ _ => rfl
      show _ = ps _ e n n + (if n = n then ((n + 1 : Nat) : Rat) * e (n + 1) - ps s e n n else s n) * e (n - n)
      rw [e1, if_pos rfl, Nat.sub_self, h0]
      grind
    · rw [hs n (by omega)]
      exact cv_congr (fun k hk => (if_neg (by omega)).symm) fun _ _ => rfl
theorem nat_sm {r : Rat} (h : Gd r) {k : Nat} (hk : k ≤ 1000) : Sm ((k : Rat) * r) := by
  have h1 := (Iz.nat k).mul h
  rw [Nat.one_mul] at h1
  refine sm_of h1 M1_ne (Nat.lt_of_lt_of_le M1_lt (two_le (by decide))) ?_
  have : k * 2 ^ 300 ≤ 2 ^ 10 * 2 ^ 300 := Nat.mul_le_mul_right _ (Nat.le_trans hk (by decide))
  rw [← Nat.pow_add] at this
  exact Nat.lt_of_le_of_lt this (Nat.pow_lt_pow_right (by decide) (by decide))
theorem div_sm {r : Rat} (h : Gd r) {k : Nat} (hk : k ≤ 1000) : Sm (r / ((k + 1 : Nat) : Rat)) := by
  have h1 := Iz.mul h (Iz.inv k)
  have e : r * (1 / ((k + 1 : Nat) : Rat)) = r / ((k + 1 : Nat) : Rat) := by
    have := natc_ne k
    generalize ((k + 1 : Nat) : Rat) = X at *
    grind
  rw [e, Nat.mul_one] at h1
  refine sm_of h1 (Nat.mul_ne_zero M1_ne (by omega)) ?_ (Nat.pow_lt_pow_right (by decide) (by decide))
  have : M1 * (k + 1) ≤ 2 ^ 80 * 2 ^ 10 := Nat.mul_le_mul (Nat.le_of_lt M1_lt) (by omega)
  rw [← Nat.pow_add] at this
  exact Nat.lt_of_le_of_lt this (Nat.pow_lt_pow_right (by decide) (by decide))
theorem gd12 {r : Rat} (h : Iz 12 36 r) : Gd r := gd_of h (Nat.dvd_trans (by decide : 12 ∣ 12 ^ 13) (Nat.dvd_mul_right _ _)) (Nat.le_trans (by decide : 36 ≤ 2 ^ 10) (two_le (by decide)))
theorem tot_sm {f : Nat → Rat} {N n : Nat} (hf : ∀ k ≤ N, Iz 12 36 (f k)) (hN : N ≤ 12) (hn : n ≤ N) : ∀ k, k ≤ 12 → Sm (tot f k n) := fun k hk => by
  have h : ∀ k, k ≤ 12 → Iz M1 ((k + 1) * 2 ^ 300) (tot f k n) := fun k => by
    induction k with
    | zero =>
      intro _
      rw [Nat.one_mul]
      exact tm_gd hf hN (Nat.zero_le _) hn
    | succ k ih =>
      intro hk
      have := (ih (by omega)).add (tm_gd hf hN hk hn)
      rw [Nat.succ_mul]
      exact this
  refine sm_of (h k hk) M1_ne (Nat.lt_of_lt_of_le M1_lt (two_le (by decide))) ?_
  have : (k + 1) * 2 ^ 300 ≤ 2 ^ 10 * 2 ^ 300 := Nat.mul_le_mul_right _ (by omega)
  rw [← Nat.pow_add] at this
  exact Nat.lt_of_le_of_lt this (Nat.pow_lt_pow_right (by decide) (by decide))
end SM
namespace KP
open PySem PySem.Spec PyProof.Rows L2 EXT SDT GXP AUG
open SM (fq Iz Sm)
def veB : List Value := [.type "ValueError", .type "Exception", .type "BaseException", .type "object"]
def topS (i : Nat) : Stmt := PySem.Challenge.pw_spinfield_k21_matching_sums.main.body.getD i (.Pass ⟨0, 0, 0, 0⟩)
abbrev s_fraction : Stmt := topS 6
abbrev n_fraction : List Str := ["numerator", "denominator", "divisor"]
theorem sc_fraction : FnScope n_fraction ["numerator", "denominator"] (defScope s_fraction) := ⟨rfl, rfl, rfl, by decide +kernel, rfl, by decide +kernel, by decide +kernel⟩
abbrev s_add : Stmt := topS 7
abbrev n_add : List Str := ["a", "b"]
theorem sc_add : FnScope n_add ["a", "b"] (defScope s_add) := ⟨rfl, rfl, rfl, by decide +kernel, rfl, by decide +kernel, by decide +kernel⟩
abbrev s_multiply : Stmt := topS 8
abbrev n_multiply : List Str := ["a", "b"]
theorem sc_multiply : FnScope n_multiply ["a", "b"] (defScope s_multiply) := ⟨rfl, rfl, rfl, by decide +kernel, rfl, by decide +kernel, by decide +kernel⟩
abbrev s_matching_sum : Stmt := topS 11
abbrev n_matching_sum : List Str := ["count", "edges", "links"]
theorem sc_matching_sum : FnScope n_matching_sum ["count", "edges"] (defScope s_matching_sum) := ⟨rfl, rfl, rfl, by decide +kernel, rfl, by decide +kernel, by decide +kernel⟩
abbrev s_check_graph : Stmt := topS 12
abbrev n_check_graph : List Str := ["count", "edges", "u", "v", "_"]
theorem sc_check_graph : FnScope n_check_graph ["count", "edges"] (defScope s_check_graph) := ⟨rfl, rfl, rfl, by decide +kernel, rfl, by decide +kernel, by decide +kernel⟩
abbrev s_links : Stmt := topS 13
abbrev n_links : List Str := ["count", "edges", "zero", "summed", "links", "_", "u", "v", "weight", "later"]
theorem sc_links : FnScope n_links ["count", "edges", "zero", "summed"] (defScope s_links) := ⟨rfl, rfl, rfl, by decide +kernel, rfl, by decide +kernel, by decide +kernel⟩
abbrev s_sum_over_matchings : Stmt := topS 14
abbrev n_sum_over_matchings : List Str := ["links", "alone", "zero", "one", "summed", "multiplied", "table", "vertex", "later", "grown", "taken", "choices", "other", "mask", "factor"]
theorem sc_sum_over_matchings : FnScope n_sum_over_matchings ["links", "alone", "zero", "one", "summed", "multiplied"] (defScope s_sum_over_matchings) := ⟨rfl, rfl, rfl, by decide +kernel, rfl, by decide +kernel, by decide +kernel⟩
abbrev s_law_cell : Stmt := topS 16
abbrev n_law_cell : List Str := ["script", "k"]
theorem sc_law_cell : FnScope n_law_cell ["script", "k"] (defScope s_law_cell) := ⟨rfl, rfl, rfl, by decide +kernel, rfl, by decide +kernel, by decide +kernel⟩
abbrev s_law_mix : Stmt := topS 17
abbrev n_law_mix : List Str := ["cell", "k", "number"]
theorem sc_law_mix : FnScope n_law_mix ["cell", "k"] (defScope s_law_mix) := ⟨rfl, rfl, rfl, by decide +kernel, rfl, by decide +kernel, by decide +kernel⟩
abbrev s_law_row : Stmt := topS 18
abbrev n_law_row : List Str := ["cell", "count", "bound", "found", "rest", "k"]
theorem sc_law_row : FnScope n_law_row ["cell", "count", "bound"] (defScope s_law_row) := ⟨rfl, rfl, rfl, by decide +kernel, rfl, by decide +kernel, by decide +kernel⟩
abbrev s_law_tuples : Stmt := topS 19
abbrev n_law_tuples : List Str := ["thing", "part"]
theorem sc_law_tuples : FnScope n_law_tuples ["thing"] (defScope s_law_tuples) := ⟨rfl, rfl, rfl, by decide +kernel, rfl, by decide +kernel, by decide +kernel⟩
abbrev s_law_gcd : Stmt := topS 20
abbrev n_law_gcd : List Str := ["a", "b"]
theorem sc_law_gcd : FnScope n_law_gcd ["a", "b"] (defScope s_law_gcd) := ⟨rfl, rfl, rfl, by decide +kernel, rfl, by decide +kernel, by decide +kernel⟩
abbrev s_law_frac : Stmt := topS 21
abbrev n_law_frac : List Str := ["a", "b", "common"]
theorem sc_law_frac : FnScope n_law_frac ["a", "b"] (defScope s_law_frac) := ⟨rfl, rfl, rfl, by decide +kernel, rfl, by decide +kernel, by decide +kernel⟩
abbrev s_law_add : Stmt := topS 22
abbrev n_law_add : List Str := ["p", "q"]
theorem sc_law_add : FnScope n_law_add ["p", "q"] (defScope s_law_add) := ⟨rfl, rfl, rfl, by decide +kernel, rfl, by decide +kernel, by decide +kernel⟩
abbrev s_law_mul : Stmt := topS 23
abbrev n_law_mul : List Str := ["p", "q"]
theorem sc_law_mul : FnScope n_law_mul ["p", "q"] (defScope s_law_mul) := ⟨rfl, rfl, rfl, by decide +kernel, rfl, by decide +kernel, by decide +kernel⟩
abbrev s_law_dimers : Stmt := topS 26
abbrev n_law_dimers : List Str := ["count", "edges", "totals", "step", "later", "used", "low", "k", "u", "v", "weight", "other", "key"]
theorem sc_law_dimers : FnScope n_law_dimers ["count", "edges"] (defScope s_law_dimers) := ⟨rfl, rfl, rfl, by decide +kernel, rfl, by decide +kernel, by decide +kernel⟩
abbrev s_law_weighted : Stmt := topS 27
abbrev n_law_weighted : List Str := ["cell", "count", "most", "edges", "digits", "k", "weight"]
theorem sc_law_weighted : FnScope n_law_weighted ["cell", "count", "most"] (defScope s_law_weighted) := ⟨rfl, rfl, rfl, by decide +kernel, rfl, by decide +kernel, by decide +kernel⟩
abbrev s_law : Stmt := topS 28
abbrev n_law : List Str := ["script", "cell", "count", "edges", "k", "u", "v", "weight", "good", "copy", "told", "e"]
theorem sc_law : FnScope n_law ["script"] (defScope s_law) := ⟨rfl, rfl, rfl, by decide +kernel, rfl, by decide +kernel, by decide +kernel⟩
structure Top (K : PySem.W.Frag) (mg : Str → Option Value) : Type where
  f_fraction : Addr
  d_fraction : FuncData
  F_fraction : Fun K "fraction" "fraction" s_fraction f_fraction d_fraction
  b_fraction : Binds K d_fraction ["numerator", "denominator"] []
  g_fraction : mg "fraction" = some (.ref f_fraction)
  f_add : Addr
  d_add : FuncData
  F_add : Fun K "add" "add" s_add f_add d_add
  b_add : Binds K d_add ["a", "b"] []
  g_add : mg "add" = some (.ref f_add)
  f_multiply : Addr
  d_multiply : FuncData
  F_multiply : Fun K "multiply" "multiply" s_multiply f_multiply d_multiply
  b_multiply : Binds K d_multiply ["a", "b"] []
  g_multiply : mg "multiply" = some (.ref f_multiply)
  f_matching_sum : Addr
  d_matching_sum : FuncData
  F_matching_sum : Fun K "matching_sum" "matching_sum" s_matching_sum f_matching_sum d_matching_sum
  b_matching_sum : Binds K d_matching_sum ["count", "edges"] []
  g_matching_sum : mg "matching_sum" = some (.ref f_matching_sum)
  f_check_graph : Addr
  d_check_graph : FuncData
  F_check_graph : Fun K "_check_graph" "_check_graph" s_check_graph f_check_graph d_check_graph
  b_check_graph : Binds K d_check_graph ["count", "edges"] []
  g_check_graph : mg "_check_graph" = some (.ref f_check_graph)
  f_links : Addr
  d_links : FuncData
  F_links : Fun K "_links" "_links" s_links f_links d_links
  b_links : Binds K d_links ["count", "edges", "zero", "summed"] []
  g_links : mg "_links" = some (.ref f_links)
  f_sum_over_matchings : Addr
  d_sum_over_matchings : FuncData
  F_sum_over_matchings : Fun K "_sum_over_matchings" "_sum_over_matchings" s_sum_over_matchings f_sum_over_matchings d_sum_over_matchings
  b_sum_over_matchings : Binds K d_sum_over_matchings ["links", "alone", "zero", "one", "summed", "multiplied"] []
  g_sum_over_matchings : mg "_sum_over_matchings" = some (.ref f_sum_over_matchings)
  f_law_cell : Addr
  d_law_cell : FuncData
  F_law_cell : Fun K "_law_cell" "_law_cell" s_law_cell f_law_cell d_law_cell
  b_law_cell : Binds K d_law_cell ["script", "k"] []
  g_law_cell : mg "_law_cell" = some (.ref f_law_cell)
  f_law_mix : Addr
  d_law_mix : FuncData
  F_law_mix : Fun K "_law_mix" "_law_mix" s_law_mix f_law_mix d_law_mix
  b_law_mix : Binds K d_law_mix ["cell", "k"] []
  g_law_mix : mg "_law_mix" = some (.ref f_law_mix)
  f_law_row : Addr
  d_law_row : FuncData
  F_law_row : Fun K "_law_row" "_law_row" s_law_row f_law_row d_law_row
  b_law_row : Binds K d_law_row ["cell", "count", "bound"] []
  g_law_row : mg "_law_row" = some (.ref f_law_row)
  f_law_tuples : Addr
  d_law_tuples : FuncData
  F_law_tuples : Fun K "_law_tuples" "_law_tuples" s_law_tuples f_law_tuples d_law_tuples
  b_law_tuples : Binds K d_law_tuples ["thing"] []
  g_law_tuples : mg "_law_tuples" = some (.ref f_law_tuples)
  f_law_gcd : Addr
  d_law_gcd : FuncData
  F_law_gcd : Fun K "_law_gcd" "_law_gcd" s_law_gcd f_law_gcd d_law_gcd
  b_law_gcd : Binds K d_law_gcd ["a", "b"] []
  g_law_gcd : mg "_law_gcd" = some (.ref f_law_gcd)
  f_law_frac : Addr
  d_law_frac : FuncData
  F_law_frac : Fun K "_law_frac" "_law_frac" s_law_frac f_law_frac d_law_frac
  b_law_frac : Binds K d_law_frac ["a", "b"] []
  g_law_frac : mg "_law_frac" = some (.ref f_law_frac)
  f_law_add : Addr
  d_law_add : FuncData
  F_law_add : Fun K "_law_add" "_law_add" s_law_add f_law_add d_law_add
  b_law_add : Binds K d_law_add ["p", "q"] []
  g_law_add : mg "_law_add" = some (.ref f_law_add)
  f_law_mul : Addr
  d_law_mul : FuncData
  F_law_mul : Fun K "_law_mul" "_law_mul" s_law_mul f_law_mul d_law_mul
  b_law_mul : Binds K d_law_mul ["p", "q"] []
  g_law_mul : mg "_law_mul" = some (.ref f_law_mul)
  f_law_dimers : Addr
  d_law_dimers : FuncData
  F_law_dimers : Fun K "_law_dimers" "_law_dimers" s_law_dimers f_law_dimers d_law_dimers
  b_law_dimers : Binds K d_law_dimers ["count", "edges"] []
  g_law_dimers : mg "_law_dimers" = some (.ref f_law_dimers)
  f_law_weighted : Addr
  d_law_weighted : FuncData
  F_law_weighted : Fun K "_law_weighted" "_law_weighted" s_law_weighted f_law_weighted d_law_weighted
  b_law_weighted : Binds K d_law_weighted ["cell", "count", "most"] []
  g_law_weighted : mg "_law_weighted" = some (.ref f_law_weighted)
  t_MOST_VERTICES : Tok
  g_MOST_VERTICES : mg "MOST_VERTICES" = some (.int 16 t_MOST_VERTICES)
  f_FieldError : Addr
  g_FieldError : mg "FieldError" = some (.ref f_FieldError)
  q_FieldError : PySem.W.excIn K f_FieldError veB "ValueError.__new__" = true
  k_FieldError : PySem.W.keepIn K (.ref f_FieldError) = true
  b_FieldError : PySem.W.subIn K (.ref f_FieldError) (.type "BaseException") = some true
  y_FieldError : PySem.W.typeIn K (.ref f_FieldError) = some (.type "type")
  f_InvalidWeight : Addr
  g_InvalidWeight : mg "InvalidWeight" = some (.ref f_InvalidWeight)
  q_InvalidWeight : PySem.W.excIn K f_InvalidWeight veB "ValueError.__new__" = true
  k_InvalidWeight : PySem.W.keepIn K (.ref f_InvalidWeight) = true
  b_InvalidWeight : PySem.W.subIn K (.ref f_InvalidWeight) (.type "BaseException") = some true
  y_InvalidWeight : PySem.W.typeIn K (.ref f_InvalidWeight) = some (.type "type")
  f_TooLarge : Addr
  g_TooLarge : mg "TooLarge" = some (.ref f_TooLarge)
  q_TooLarge : PySem.W.excIn K f_TooLarge veB "ValueError.__new__" = true
  k_TooLarge : PySem.W.keepIn K (.ref f_TooLarge) = true
  b_TooLarge : PySem.W.subIn K (.ref f_TooLarge) (.type "BaseException") = some true
  y_TooLarge : PySem.W.typeIn K (.ref f_TooLarge) = some (.type "type")
  g_gcd : mg "gcd" = some (.builtin "math.gcd")
  m_abs : mg "abs" = none
  m_all : mg "all" = none
  m_bool : mg "bool" = none
  m_enumerate : mg "enumerate" = none
  m_int : mg "int" = none
  m_isinstance : mg "isinstance" = none
  m_len : mg "len" = none
  m_list : mg "list" = none
  m_max : mg "max" = none
  m_min : mg "min" = none
  m_range : mg "range" = none
  m_sorted : mg "sorted" = none
  m_tuple : mg "tuple" = none
  xm_InvalidWeight : PySem.W.exmOne K (.ref f_InvalidWeight) (.ref f_FieldError) = some true
  ki_InvalidWeight : PySem.W.kitOne K (.ref f_InvalidWeight) (.ref f_InvalidWeight) = some true
  ec_InvalidWeight : ExcC K f_InvalidWeight
  xm_TooLarge : PySem.W.exmOne K (.ref f_TooLarge) (.ref f_FieldError) = some true
  ki_TooLarge : PySem.W.kitOne K (.ref f_TooLarge) (.ref f_TooLarge) = some true
  kn_TooLarge : PySem.W.kitOne K (.ref f_TooLarge) (.ref f_InvalidWeight) = some false
  ec_TooLarge : ExcC K f_TooLarge
theorem sl2 : (2 : Nat) ≤ sizeLine := by rw [sizeLine_eq]; decide
theorem sl_of {n : Nat} (h : n ≤ 1000000) : n ≤ sizeLine := by rw [sizeLine_eq]; omega
theorem sl_lt {n : Nat} (h : n < 1000000) : n < sizeLine := by rw [sizeLine_eq]; omega
end KP
namespace KP
open PySem PySem.Spec PyProof.Rows L2 EXT SDT GXP AUG
open SM (fq Iz Sm)
section
variable {P : Program} {w : World} {K : PySem.W.Frag} {mg : Str → Option Value} {base : Heap}
/-! ### small rules -/
/-- // by a divisor that is not 0, below 2 ^ 9000 -/
def CDivZ (_ j : Int) : Prop := j ≠ 0 ∧ j.natAbs.log2 < 9000
theorem op_fdivZ {X : Cx} : OpR X (binaryOp .FloorDiv) (rI CDivZ fun i j => .int (i.fdiv j)) := opI fun i j _ _ _ _ _ hc q =>
  floordiv_int hc.1 q (.inl (PyProof.noPylong_of_log2 hc.2))
theorem log_lt {j : Int} {b : Nat} (hb : j.natAbs < 2 ^ b) (h0 : 0 < b) (h9 : b ≤ 9000) : j.natAbs.log2 < 9000 := Nat.lt_of_lt_of_le (PySem.Flt.log2_lt_of h0 hb) h9
theorem same_upd {H : Hp} {p : Addr} {o : HO} (h : H p = none) : Same H (upd H p o) := fun b x e => by
  rw [upd_ne (ne_of_none e h)]
  exact e
theorem _root_.L2.Same.new {H H1 : Hp} {p : Addr} {o : HO} (s : Same H H1) (h : H1 p = none) : Same H (upd H1 p o) := s.trans (same_upd h)
theorem _root_.L2.Same.tup {K : PySem.W.Frag} {H H' : Hp} {a : Addr} {xs : List V} (e : Same H H') (h : SqT K H a xs) : SqT K H' a xs := e.ext.tup h
theorem iteB {c : Bool} {A B : Prop} (h1 : c = true → A) (h2 : c = false → B) : if c = true then A else B := by
  cases c
  · exact iteF (h2 rfl)
  · exact iteT (h1 rfl)
theorem take_snoc {α : Type} {l : List α} {i : Nat} {x : α} (h : l[i]? = some x) : l.take (i + 1) = l.take i ++ [x] := by
  rw [List.take_add_one, h]
  rfl
open K04
/-- the pair p stands as a tuple at a -/
def Fr (K : PySem.W.Frag) (H : Hp) (a : Addr) (p : Int × Int) : Prop := SqT K H a [.int p.1, .int p.2]
theorem _root_.L2.Same.fr {H H' : Hp} {a : Addr} {p : Int × Int} (e : Same H H') (h : Fr K H a p) : Fr K H' a p := Same.tup e h
/-- hands back a new tuple of p -/
def NewF (H : Hp) (Q : VK) (p : Int × Int) : Prop := ∀ a H', Same H H' → H a = none → H' a = some (.tup [.int p.1, .int p.2]) → Q (.ref a) H'
def small (z : Int) : Prop := z.natAbs < 2 ^ 4000
theorem small_log {z : Int} (h : small z) : z.natAbs.log2 < 9000 := log_lt h (by decide) (by decide)
def spFrac : Sp := fun vs H Q _ => ∃ n d : Int, vs = [.int n, .int d] ∧ d ≠ 0 ∧ small d ∧ NewF H Q (F n d)
theorem gs_small {n d : Int} (h : d ≠ 0) (hs : small d) : CDivZ 0 (gs n d) := ⟨gs_ne h, small_log (Nat.lt_of_le_of_lt (gs_le n h) hs)⟩
theorem ok_fraction (T : Top K mg) : FnOk P w K mg base CX0 1 T.f_fraction T.d_fraction ["numerator", "denominator"] spFrac := by
  refine T.F_fraction.ok sc_fraction (fun vs H Q E h => ?_) (fun cdv A outer s H vs Q E hr h => ?_)
  · obtain ⟨n, d, rfl, _⟩ := h
    rfl
  · obtain ⟨n, d, rfl, hd, hs, q⟩ := h
    refine ⟨_, (pss_cons (ps_set (i := 2) sc_fraction.nd rfl (by first | exact .inl rfl | exact .inr rfl) (pe_callBfun cr_gcd (by rfl) T.g_gcd (pa_cons (pv 0) (pa_cons (pv 1) pa_nil))))
      (pss_cons (ps_if (pt_cmpR op_lt (pv 1) pe_int (nomark _)) (pss_one (ps_set (i := 2) sc_fraction.nd rfl (by first | exact .inl rfl | exact .inr rfl) (pe_un un_neg (pv 2)))) pss_nil)
      (pss_one (ps_ret (pe_tup (pa_cons (pe_op op_fdivZ (pv 0) (pv 2)) (pa_cons (pe_op op_fdivZ (pv 1) (pv 2)) pa_nil))))))), ?_⟩
    refine ⟨_, rfl, _, rfl, n, d, rfl, ?_⟩
    refine ⟨_, rfl, _, _, rfl, rfl, _, rfl, ?_⟩
    have g0 := gs_small (n := n) hd hs
    refine ite2 (fun e => ?_) (fun e => ?_)
    · have e := of_decide_eq_true e
      have eg : gs n d = -((Nat.gcd n.natAbs d.natAbs : Nat) : Int) := by
        unfold gs
        rw [if_pos e]
      have q : NewF H Q (n.fdiv (gs n d), d.fdiv (gs n d)) := q
      rw [eg] at q g0
      refine ⟨_, rfl, _, rfl, ?_⟩
      refine ⟨_, rfl, _, rfl, _, _, rfl, rfl, g0, _, rfl, _, rfl, _, _, rfl, rfl, g0, sl2, fun p hp => ?_⟩
      exact q p _ (same_upd hp) hp upd_same
    · have e : ¬ d < 0 := fun z => e (decide_eq_true z)
      have eg : gs n d = ((Nat.gcd n.natAbs d.natAbs : Nat) : Int) := by
        unfold gs
        rw [if_neg e]
      have q : NewF H Q (n.fdiv (gs n d), d.fdiv (gs n d)) := q
      rw [eg] at q g0
      refine ⟨_, rfl, _, rfl, _, _, rfl, rfl, g0, _, rfl, _, rfl, _, _, rfl, rfl, g0, sl2, fun p hp => ?_⟩
      exact q p _ (same_upd hp) hp upd_same
/-- two fractions come in, a new one goes out -/
def spOp2 (K : PySem.W.Frag) (ok : (Int × Int) → (Int × Int) → Prop) (f : (Int × Int) → (Int × Int) → (Int × Int)) : Sp := fun vs H Q _ => ∃ (a b : Addr) (p q : Int × Int), vs = [.ref a, .ref b] ∧ Fr K H a p ∧ Fr K H b q ∧ ok p q ∧ NewF H Q (f p q)
def mid (z : Int) : Prop := z.natAbs < 2 ^ 1900
theorem mid_mul {x y : Int} (hx : mid x) (hy : mid y) : CMulW x y := wide_mul hx hy (by decide) (by decide) (by decide)
theorem mid_small {x y : Int} (hx : mid x) (hy : mid y) : small (x * y) := Nat.lt_of_lt_of_le (wide_lt hx hy) (Nat.pow_le_pow_right (by decide) (by decide))
def okA (p q : Int × Int) : Prop := mid p.1 ∧ mid p.2 ∧ mid q.1 ∧ mid q.2 ∧ p.2 ≠ 0 ∧ q.2 ≠ 0
def okD (p q : Int × Int) : Prop := mid p.1 ∧ mid p.2 ∧ mid q.1 ∧ mid q.2 ∧ p.2 ≠ 0 ∧ q.1 ≠ 0
theorem ok_add (T : Top K mg) : FnOk P w K mg base CX0 2 T.f_add T.d_add ["a", "b"] (spOp2 K okA addF) := by
  refine T.F_add.ok sc_add (fun vs H Q E h => ?_) (fun cdv A outer s H vs Q E hr h => ?_)
  · obtain ⟨a, b, p, q, rfl, _⟩ := h
    rfl
  · obtain ⟨a, b, p, q, rfl, hp, hq, ⟨m1, m2, m3, m4, n1, n2⟩, k⟩ := h
    refine ⟨_, (pss_one (ps_ret (pe_call (ok_fraction T) (hr.mono (by decide)) (by rfl) T.g_fraction T.F_fraction.kp T.b_fraction .nil pass0 (pa_cons (pe_op op_add (pe_op op_mulW (pe_ix ix_tup (pv 0) pe_int (fun _ _ => rfl)) (pe_ix ix_tup (pv 1) pe_int (fun _ _ => rfl))) (pe_op op_mulW (pe_ix ix_tup (pv 1) pe_int (fun _ _ => rfl)) (pe_ix ix_tup (pv 0) pe_int (fun _ _ => rfl)))) (pa_cons (pe_op op_mulW (pe_ix ix_tup (pv 0) pe_int (fun _ _ => rfl)) (pe_ix ix_tup (pv 1) pe_int (fun _ _ => rfl))) pa_nil))))), ?_⟩
    refine ⟨_, rfl, a, _, _, _, rfl, rfl, hp, atI_nat (j := 0) rfl, _, rfl, b, _, _, _, rfl, rfl, hq, atI_nat (j := 1) rfl, _, _, rfl, rfl, mid_mul m1 m4, ?_⟩
    refine ⟨_, rfl, b, _, _, _, rfl, rfl, hq, atI_nat (j := 0) rfl, _, rfl, a, _, _, _, rfl, rfl, hp, atI_nat (j := 1) rfl, _, _, rfl, rfl, mid_mul m3 m2, ?_⟩
    refine ⟨_, _, rfl, rfl, ?_⟩
    refine ⟨_, rfl, a, _, _, _, rfl, rfl, hp, atI_nat (j := 1) rfl, _, rfl, b, _, _, _, rfl, rfl, hq, atI_nat (j := 1) rfl, _, _, rfl, rfl, mid_mul m2 m4, ?_⟩
    exact ⟨_, _, rfl, Int.mul_ne_zero n1 n2, mid_small m2 m4, k⟩
theorem ok_multiply (T : Top K mg) : FnOk P w K mg base CX0 2 T.f_multiply T.d_multiply ["a", "b"] (spOp2 K okA mulF) := by
  refine T.F_multiply.ok sc_multiply (fun vs H Q E h => ?_) (fun cdv A outer s H vs Q E hr h => ?_)
  · obtain ⟨a, b, p, q, rfl, _⟩ := h
    rfl
  · obtain ⟨a, b, p, q, rfl, hp, hq, ⟨m1, m2, m3, m4, n1, n2⟩, k⟩ := h
    refine ⟨_, (pss_one (ps_ret (pe_call (ok_fraction T) (hr.mono (by decide)) (by rfl) T.g_fraction T.F_fraction.kp T.b_fraction .nil pass0 (pa_cons (pe_op op_mulW (pe_ix ix_tup (pv 0) pe_int (fun _ _ => rfl)) (pe_ix ix_tup (pv 1) pe_int (fun _ _ => rfl))) (pa_cons (pe_op op_mulW (pe_ix ix_tup (pv 0) pe_int (fun _ _ => rfl)) (pe_ix ix_tup (pv 1) pe_int (fun _ _ => rfl))) pa_nil))))), ?_⟩
    refine ⟨_, rfl, a, _, _, _, rfl, rfl, hp, atI_nat (j := 0) rfl, _, rfl, b, _, _, _, rfl, rfl, hq, atI_nat (j := 0) rfl, _, _, rfl, rfl, mid_mul m1 m3, ?_⟩
    refine ⟨_, rfl, a, _, _, _, rfl, rfl, hp, atI_nat (j := 1) rfl, _, rfl, b, _, _, _, rfl, rfl, hq, atI_nat (j := 1) rfl, _, _, rfl, rfl, mid_mul m2 m4, ?_⟩
    exact ⟨_, _, rfl, Int.mul_ne_zero n1 n2, mid_small m2 m4, k⟩
/-! ### the law's own reckoning -/
def spGcd : Sp := fun vs H Q _ => ∃ a b : Int, vs = [.int a, .int b] ∧ Q (.int ((Nat.gcd a.natAbs b.natAbs : Nat) : Int)) H
theorem ok_law_gcd (T : Top K mg) : FnOk P w K mg base CX0 1 T.f_law_gcd T.d_law_gcd ["a", "b"] spGcd := by
  refine T.F_law_gcd.ok sc_law_gcd (fun vs H Q E h => ?_) (fun cdv A outer s H vs Q E hr h => ?_)
  · obtain ⟨a, b, rfl, _⟩ := h
    rfl
  · obtain ⟨a, b, rfl, q⟩ := h
    refine ⟨_, (pss_cons (ps_while PassesOwn.never (pt_truth (pv 1) (by intro _; rfl)) (pss_one (ps_par (i := 0) (j := 1) rfl sc_law_gcd.nd rfl rfl (by decide) rfl rfl (pa_cons (pv 1) (pa_cons (pe_op op_modN (pv 0) (pv 1)) pa_nil)) (by rfl))))
      (pss_one (ps_ret (pe_callB call_abs (by rfl) T.m_abs (by decide +kernel) (pa_cons (pv 0) pa_nil))))), ?_⟩
    refine while_by (fun σ H1 => H1 = H ∧ ∃ x y : Int, σ = [some (.int x), some (.int y)] ∧ Nat.gcd x.natAbs y.natAbs = Nat.gcd a.natAbs b.natAbs) (fun σ _ => match σ with | [_, some (.int y)] => y.natAbs | _ => 0)
      ⟨rfl, a, b, rfl, rfl⟩ ?_ ?_
    · rintro σ H1 ⟨rfl, x, y, rfl, e⟩
      refine ⟨_, rfl, _, rfl, iteB (fun ey => ?_) (fun ey => ?_)⟩
      · have ey : y ≠ 0 := by simpa using ey
        refine ⟨_, rfl, _, rfl, _, rfl, _, _, rfl, rfl, ey, _, _, rfl, ⟨rfl, y, x.fmod y, rfl, ?_⟩, ?_⟩
        · rw [gcd_step]
          exact e
        · exact fmod_small ey
      · have ey : y = 0 := by simpa using ey
        subst ey
        refine ⟨_, rfl, x, rfl, ?_⟩
        have e2 : (if x < 0 then -x else x) = ((Nat.gcd a.natAbs b.natAbs : Nat) : Int) := by
          rw [← e, Int.natAbs_zero, Nat.gcd_zero_right]
          split <;> omega
        rw [e2]
        exact q
    · rintro σ H1 Q1 Q2 hq ⟨v, hv, k, hk, h⟩
      exact ⟨v, hv, k, hk, hq _ _ h⟩
theorem ok_law_frac (T : Top K mg) : FnOk P w K mg base CX0 2 T.f_law_frac T.d_law_frac ["a", "b"] spFrac := by
  refine T.F_law_frac.ok sc_law_frac (fun vs H Q E h => ?_) (fun cdv A outer s H vs Q E hr h => ?_)
  · obtain ⟨n, d, rfl, _⟩ := h
    rfl
  · obtain ⟨n, d, rfl, hd, hs, q⟩ := h
    refine ⟨_, (pss_cons (ps_set (i := 2) sc_law_frac.nd rfl (by first | exact .inl rfl | exact .inr rfl) (pe_call (ok_law_gcd T) (hr.mono (by decide)) (by rfl) T.g_law_gcd T.F_law_gcd.kp T.b_law_gcd .nil pass0 (pa_cons (pv 0) (pa_cons (pv 1) pa_nil))))
      (pss_cons (ps_if (pt_cmpR op_lt (pv 1) pe_int (nomark _)) (pss_one (ps_set (i := 2) sc_law_frac.nd rfl (by first | exact .inl rfl | exact .inr rfl) (pe_un un_neg (pv 2)))) pss_nil)
      (pss_one (ps_ret (pe_tup (pa_cons (pe_op op_fdivZ (pv 0) (pv 2)) (pa_cons (pe_op op_fdivZ (pv 1) (pv 2)) pa_nil))))))), ?_⟩
    refine ⟨_, rfl, _, rfl, n, d, rfl, ?_⟩
    refine ⟨_, rfl, _, _, rfl, rfl, _, rfl, ?_⟩
    have g0 := gs_small (n := n) hd hs
    refine ite2 (fun e => ?_) (fun e => ?_)
    · have e := of_decide_eq_true e
      have eg : gs n d = -((Nat.gcd n.natAbs d.natAbs : Nat) : Int) := by
        unfold gs
        rw [if_pos e]
      have q : NewF H Q (n.fdiv (gs n d), d.fdiv (gs n d)) := q
      rw [eg] at q g0
      refine ⟨_, rfl, _, rfl, ?_⟩
      refine ⟨_, rfl, _, rfl, _, _, rfl, rfl, g0, _, rfl, _, rfl, _, _, rfl, rfl, g0, sl2, fun p hp => ?_⟩
      exact q p _ (same_upd hp) hp upd_same
    · have e : ¬ d < 0 := fun z => e (decide_eq_true z)
      have eg : gs n d = ((Nat.gcd n.natAbs d.natAbs : Nat) : Int) := by
        unfold gs
        rw [if_neg e]
      have q : NewF H Q (n.fdiv (gs n d), d.fdiv (gs n d)) := q
      rw [eg] at q g0
      refine ⟨_, rfl, _, rfl, _, _, rfl, rfl, g0, _, rfl, _, rfl, _, _, rfl, rfl, g0, sl2, fun p hp => ?_⟩
      exact q p _ (same_upd hp) hp upd_same
theorem ok_law_mul (T : Top K mg) : FnOk P w K mg base CX0 3 T.f_law_mul T.d_law_mul ["p", "q"] (spOp2 K okA mulF) := by
  refine T.F_law_mul.ok sc_law_mul (fun vs H Q E h => ?_) (fun cdv A outer s H vs Q E hr h => ?_)
  · obtain ⟨a, b, p, q, rfl, _⟩ := h
    rfl
  · obtain ⟨a, b, p, q, rfl, hp, hq, ⟨m1, m2, m3, m4, n1, n2⟩, k⟩ := h
    refine ⟨_, (pss_one (ps_ret (pe_call (ok_law_frac T) (hr.mono (by decide)) (by rfl) T.g_law_frac T.F_law_frac.kp T.b_law_frac .nil pass0 (pa_cons (pe_op op_mulW (pe_ix ix_tup (pv 0) pe_int (fun _ _ => rfl)) (pe_ix ix_tup (pv 1) pe_int (fun _ _ => rfl))) (pa_cons (pe_op op_mulW (pe_ix ix_tup (pv 0) pe_int (fun _ _ => rfl)) (pe_ix ix_tup (pv 1) pe_int (fun _ _ => rfl))) pa_nil))))), ?_⟩
    refine ⟨_, rfl, a, _, _, _, rfl, rfl, hp, atI_nat (j := 0) rfl, _, rfl, b, _, _, _, rfl, rfl, hq, atI_nat (j := 0) rfl, _, _, rfl, rfl, mid_mul m1 m3, ?_⟩
    refine ⟨_, rfl, a, _, _, _, rfl, rfl, hp, atI_nat (j := 1) rfl, _, rfl, b, _, _, _, rfl, rfl, hq, atI_nat (j := 1) rfl, _, _, rfl, rfl, mid_mul m2 m4, ?_⟩
    exact ⟨_, _, rfl, Int.mul_ne_zero n1 n2, mid_small m2 m4, k⟩
/-! ### the law's cell of the script -/
def cellZ (ns : List Int) (k : Nat) : Int := ns.getD k 0
def spCellZ (K : PySem.W.Frag) : Sp := fun vs H Q _ => ∃ (l : Addr) (ns : List Int) (k : Nat), vs = [.ref l, .int (k : Int)] ∧ SqL K H l (ns.map V.int) ∧ Q (.int (cellZ ns k)) H
theorem ok_law_cell (T : Top K mg) : FnOk P w K mg base CX0 1 T.f_law_cell T.d_law_cell ["script", "k"] (spCellZ K) := by
  refine T.F_law_cell.ok sc_law_cell (fun vs H Q E h => ?_) (fun cdv A outer s H vs Q E hr h => ?_)
  · obtain ⟨l, ns, k, rfl, _⟩ := h
    rfl
  · obtain ⟨l, ns, k, rfl, hS, q⟩ := h
    refine ⟨_, (pss_cons (ps_if (pt_cmpR op_lt (pv 1) (pe_callB call_len_seq (by rfl) T.m_len (by decide +kernel) (pa_cons (pv 0) pa_nil)) (nomark _)) (pss_one (ps_ret (pe_callTy call_int1 (by rfl) T.m_int (by decide +kernel) (pa_cons (pe_ix ix_list (pv 0) (pv 1) (fun _ _ => rfl)) pa_nil)))) pss_nil)
      (pss_one (ps_ret pe_int))), ?_⟩
    refine ⟨_, rfl, _, rfl, l, _, rfl, .inl hS, _, _, rfl, rfl, _, rfl, ?_⟩
    refine ite2 (fun e => ?_) (fun e => ?_)
    · have hk : k < ns.length := by
        have := of_decide_eq_true e
        rw [List.length_map] at this
        omega
      refine ⟨_, rfl, _, rfl, l, _, _, .int ns[k], rfl, rfl, hS, ?_, .inl ⟨_, rfl, ?_⟩⟩
      · refine atI_nat ?_
        rw [List.getElem?_map, List.getElem?_eq_getElem hk]
        rfl
      · have : cellZ ns k = ns[k] := by
          unfold cellZ
          rw [List.getD_eq_getElem?_getD, List.getElem?_eq_getElem hk]
          rfl
        rw [← this]
        exact q
    · have hk : ¬ k < ns.length := fun z => e (by
        refine decide_eq_true ?_
        rw [List.length_map]
        omega)
      have : cellZ ns k = 0 := by
        unfold cellZ
        rw [List.getD_eq_getElem?_getD, List.getElem?_eq_none (by omega)]
        rfl
      show Q (.int 0) H
      rw [← this]
      exact q
/-! ### data that stands in the heap -/
mutual
theorem dp_same {K : PySem.W.Frag} {H H' : Hp} (s : Same H H') : ∀ {v : V} {d : PyData}, Dp K H v d → Dp K H' v d
  | _, _, .non => .non
  | _, _, .bl b => .bl b
  | _, _, .int i => .int i
  | _, _, .str x => .str x
  | _, _, .lst h t => .lst (s.seq h) (dpAll_same s t)
  | _, _, .tup h t => .tup (s.tup h) (dpAll_same s t)
theorem dpAll_same {K : PySem.W.Frag} {H H' : Hp} (s : Same H H') : ∀ {vs : List V} {ds : List PyData}, DpAll K H vs ds → DpAll K H' vs ds
  | _, _, .nil => .nil
  | _, _, .cons h t => .cons (dp_same s h) (dpAll_same s t)
end
theorem dpAll_len {K : PySem.W.Frag} {H : Hp} : ∀ {vs : List V} {ds : List PyData}, DpAll K H vs ds → vs.length = ds.length
  | _, _, .nil => rfl
  | _, _, .cons _ t => congrArg (· + 1) (dpAll_len t)
theorem dpAll_get {K : PySem.W.Frag} {H : Hp} : ∀ {vs : List V} {ds : List PyData} {i : Nat} {v : V}, DpAll K H vs ds → vs[i]? = some v → ∃ d, ds[i]? = some d ∧ d ∈ ds ∧ Dp K H v d
  | _, _, i, v, .nil, h => by simp at h
  | _, d :: ds, 0, v, .cons a t, h => by
    simp only [List.getElem?_cons_zero, Option.some.injEq] at h
    subst h
    exact ⟨d, rfl, List.mem_cons_self, a⟩
  | _, d :: ds, i + 1, v, .cons a t, h => by
    simp only [List.getElem?_cons_succ] at h
    obtain ⟨e, h1, h2, h3⟩ := dpAll_get t h
    exact ⟨e, by simpa using h1, List.mem_cons_of_mem _ h2, h3⟩
theorem dpAll_of {α : Type} {K : PySem.W.Frag} {H : Hp} {f : α → PyData} {R : V → α → Prop} (hR : ∀ v x, R v x → Dp K H v (f x)) : ∀ {vs : List V} {xs : List α}, Paired R vs xs → DpAll K H vs (xs.map f)
  | _, _, .nil => .nil
  | _, _, .cons h t => .cons (hR _ _ h) (dpAll_of hR t)
theorem sqt_ty {K : PySem.W.Frag} {H : Hp} {a : Addr} {xs : List V} (h : SqT K H a xs) : TyX K H (.ref a) (.type "tuple") := by
  rcases h with (h | ⟨o, h⟩) | ⟨o, its, n, h, hc, _⟩
  · exact .base (.tup h)
  · exact .fTuple h
  · exact .kTuple h hc
theorem sql_ty {K : PySem.W.Frag} {H : Hp} {a : Addr} {xs : List V} (h : SqL K H a xs) : TyX K H (.ref a) (.type "list") := by
  rcases h with (h | ⟨o, h⟩) | ⟨o, its, n, h, hc, _⟩
  · exact .base (.lst h)
  · exact .base (.frz h)
  · exact .kList h hc
/-- nested tuples of ints, at most n - 1 deep -/
def tupD : Nat → PyData → Prop
  | 0, _ => False
  | _ + 1, .int _ => True
  | n + 1, .tuple ds => ds.length < 1000000 ∧ ∀ x ∈ ds, tupD n x
  | _ + 1, _ => False
def spTup (K : PySem.W.Frag) (n : Nat) : Sp := fun vs H Q _ => ∃ v d, vs = [v] ∧ Dp K H v d ∧ tupD n d ∧ ∀ H', Same H H' → Q (.bl true) H'
theorem ok_law_tuples (T : Top K mg) : ∀ n, FnOk P w K mg base CX0 (n + 1) T.f_law_tuples T.d_law_tuples ["thing"] (spTup K n)
  | 0 => T.F_law_tuples.ok sc_law_tuples (fun vs H Q E h => by obtain ⟨v, d, _, _, h, _⟩ := h; exact h.elim) (fun cdv A outer s H vs Q E hr h => by obtain ⟨v, d, _, _, h, _⟩ := h; exact h.elim)
  | n + 1 => by
    have ih := ok_law_tuples T n
    refine T.F_law_tuples.ok sc_law_tuples (fun vs H Q E h => ?_) (fun cdv A outer s H vs Q E hr h => ?_)
    · obtain ⟨v, d, rfl, _⟩ := h
      rfl
    · obtain ⟨v, d, rfl, hd, ht, q⟩ := h
      refine ⟨_, (pss_cons (ps_if (pt_val (pe_callB call_isi (by rfl) T.m_isinstance (by decide +kernel) (pa_cons (pv 0) (pa_cons (pe_bltn (v := .ty "tuple") (by rfl) T.m_tuple boot_tuple rfl) pa_nil)))) (pss_one (ps_ret (pe_callB (cr_all rfl) (by rfl) T.m_all (by decide +kernel) (pa_cons (pe_lc (own := [("part", 1)]) (g := gName 1) (tt := tYes) rfl sc_law_tuples.nd (pi_tup (pv 0)) (blkOk_by (own := [("part", 1)]) (N := n_law_tuples) (sc := defScope s_law_tuples) (by decide +kernel)) (fun _ _ _ _ _ => (pg_name (i := 1) sc_law_tuples.nd rfl (by first | exact .inl rfl | exact .inr rfl))) (fun _ _ _ _ _ => pts_nil) (fun _ _ _ _ _ => (pe_call ih hr (by rfl) T.g_law_tuples T.F_law_tuples.kp T.b_law_tuples .nil pass0 (pa_cons (pv 1) pa_nil)))) pa_nil)))) pss_nil)
      (pss_one (ps_ret (pe_and (pe_callB call_isi (by rfl) T.m_isinstance (by decide +kernel) (pa_cons (pv 0) (pa_cons (pe_bltn (v := .ty "int") (by rfl) T.m_int boot_int rfl) pa_nil))) (pe_one (pe_not (pe_callB call_isi (by rfl) T.m_isinstance (by decide +kernel) (pa_cons (pv 0) (pa_cons (pe_bltn (v := .ty "bool") (by rfl) T.m_bool boot_bool rfl) pa_nil))))))))), ?_⟩
      cases d with
      | int i =>
        cases hd
        refine ⟨_, rfl, _, _, _, _, _, rfl, .ty _, .base (.int i), kit_ty (r := false) (by decide +kernel), _, rfl, iteF ?_⟩
        refine ⟨_, rfl, _, _, _, _, _, rfl, .ty _, .base (.int i), kit_ty (r := true) (by decide +kernel), _, rfl, iteT ?_⟩
        exact ⟨_, rfl, _, _, _, _, _, rfl, .ty _, .base (.int i), kit_ty (r := false) (by decide +kernel), _, rfl, q H (Same.refl H)⟩
      | tuple ds =>
        cases hd with
        | @tup a xs _ hx hds =>
        refine ⟨_, rfl, _, _, _, _, _, rfl, .ty _, sqt_ty hx, kit_ty (r := true) (by decide +kernel), _, rfl, iteT ?_⟩
        refine ⟨_, rfl, a, rfl, ⟨_, hx⟩, fun D hD => lc_tup (xs := xs) (fun i H' => Same H H' ∧ H' D = some (.lst ((List.replicate i true).map V.bl)) ∧ i ≤ xs.length) ⟨same_upd hD, upd_same, Nat.zero_le _⟩ (fun i H' _ h => h.1.tup hx) (fun i x H' hi hP => ?_) (fun H' hP => ?_)⟩
        · obtain ⟨s1, hl, hix⟩ := hP
          obtain ⟨d, _, hm, hdx⟩ := dpAll_get hds hi
          have hil : i < xs.length := (List.getElem?_eq_some_iff.mp hi).1
          have hlen := dpAll_len hds
          have hz := ht.1
          refine ⟨rfl, _, rfl, x, d, rfl, dp_same s1 hdx, ht.2 d hm, fun H2 s2 => ⟨_, s2 _ _ hl, ?_, fun b o e => ?_, ?_, hil⟩⟩
          · rw [List.length_map, List.length_replicate]
            exact sl_lt (by omega)
          · rw [upd_ne (ne_of_none e hD)]
            exact s2 _ _ (s1 _ _ e)
          · rw [upd_same, List.replicate_succ', List.map_append]
            rfl
        · obtain ⟨s1, hl, _⟩ := hP
          refine ⟨D, List.replicate xs.length true, rfl, SqL.of hl, ?_⟩
          have e : (List.replicate xs.length true).all id = true := by
            rw [List.all_eq_true]
            intro x hx
            rw [List.eq_of_mem_replicate hx]
            rfl
          rw [e]
          exact q H' s1
      | none => exact ht.elim
      | bool b => exact ht.elim
      | str x => exact ht.elim
      | list x => exact ht.elim
      | dict x => exact ht.elim
theorem pos_lit {z : Int} {n : Nat} (h : z = ((n + 1 : Nat) : Int)) : 0 < z := by omega
def spMix : Sp := fun vs H Q _ => ∃ c k : Int, vs = [.int c, .int k] ∧ ∀ m : Int, 0 ≤ m → Q (.int m) H
theorem ok_law_mix (T : Top K mg) : FnOk P w K mg base CX0 1 T.f_law_mix T.d_law_mix ["cell", "k"] spMix := by
  refine T.F_law_mix.ok sc_law_mix (fun vs H Q E h => ?_) (fun cdv A outer s H vs Q E hr h => ?_)
  · obtain ⟨c, k, rfl, _⟩ := h
    rfl
  · obtain ⟨c, k, rfl, q⟩ := h
    refine ⟨_, (pss_cons (ps_set (i := 2) sc_law_mix.nd rfl (by first | exact .inl rfl | exact .inr rfl) (pe_op op_mod (pe_callTy call_int1 (by rfl) T.m_int (by decide +kernel) (pa_cons (pe_op op_add (pe_op op_add (pe_op op_mul (pv 0) pe_int) (pe_op op_mul (pv 1) pe_int)) pe_int) pa_nil)) pe_int))
      (pss_cons (ps_set (i := 2) sc_law_mix.nd rfl (by first | exact .inl rfl | exact .inr rfl) (pe_op op_mod (pe_callTy call_int1 (by rfl) T.m_int (by decide +kernel) (pa_cons (pe_op op_add (pe_op op_add (pe_op op_mul (pv 2) pe_int) (pe_op op_mul (pv 1) pe_int)) pe_int) pa_nil)) pe_int))
      (pss_one (ps_ret (pe_op op_fdiv (pv 2) pe_int))))), ?_⟩
    refine ⟨_, rfl, _, _, rfl, rfl, .inr ⟨by decide, by decide⟩, _, rfl, _, _, rfl, rfl, .inr ⟨by decide, by decide⟩, _, _, rfl, rfl, _, _, rfl, rfl, .inl ⟨_, rfl, _, _, rfl, rfl, pos_lit rfl, ?_⟩⟩
    refine ⟨_, rfl, _, _, rfl, rfl, .inr ⟨by decide, by decide⟩, _, rfl, _, _, rfl, rfl, .inr ⟨by decide, by decide⟩, _, _, rfl, rfl, _, _, rfl, rfl, .inl ⟨_, rfl, _, _, rfl, rfl, pos_lit rfl, ?_⟩⟩
    refine ⟨_, rfl, _, _, rfl, rfl, ⟨by decide, by decide⟩, q _ ?_⟩
    refine Int.ediv_nonneg (Int.emod_nonneg _ (by decide)) (by decide)
/-- some n numbers from 0 up to below b -/
def spRow (K : PySem.W.Frag) : Sp := fun vs H Q _ => ∃ (c b : Int) (n : Nat), vs = [.int c, .int (n : Int), .int b] ∧ n ≤ 1000 ∧ 0 < b ∧ b < 1000 ∧
  ∀ l H' (rs : List Int), Ext H H' → H l = none → H' l = some (.lst (rs.map V.int)) → rs.length = n → (∀ r ∈ rs, 0 ≤ r ∧ r < b) → Q (.ref l) H'
theorem ok_law_row (T : Top K mg) : FnOk P w K mg base CX0 2 T.f_law_row T.d_law_row ["cell", "count", "bound"] (spRow K) := by
  refine T.F_law_row.ok sc_law_row (fun vs H Q E h => ?_) (fun cdv A outer s H vs Q E hr h => ?_)
  · obtain ⟨c, b, n, rfl, _⟩ := h
    rfl
  · obtain ⟨c, b, n, rfl, hn, hb, hb2, q⟩ := h
    refine ⟨_, (pss_cons (ps_set (i := 3) sc_law_row.nd rfl (by first | exact .inl rfl | exact .inr rfl) (pe_lst pa_nil))
      (pss_cons (ps_set (i := 4) sc_law_row.nd rfl (by first | exact .inl rfl | exact .inr rfl) (pe_callB call_abs (by rfl) T.m_abs (by decide +kernel) (pa_cons (pv 0) pa_nil)))
      (pss_cons (ps_for PassesOwn.never rfl (pi_range1 (by rfl) T.m_range (pa_cons (pv 1) pa_nil)) (pg_name (i := 5) sc_law_row.nd rfl (by first | exact .inl rfl | exact .inr rfl)) (pss_one (ps_if (pt_cmpR op_ge (pe_callB call_abs (by rfl) T.m_abs (by decide +kernel) (pa_cons (pv 0) pa_nil)) pe_int (nomark _)) (pss_cons (ps_expr (pe_bm PySem.F.plainAttrs_list PySem.F.slot_list_append PySem.F.type_list_append mt_append (pv 3) (pa_cons (pe_op op_mod (pe_callTy call_int1 (by rfl) T.m_int (by decide +kernel) (pa_cons (pv 4) pa_nil)) (pv 2)) pa_nil)))
      (pss_one (ps_set (i := 4) sc_law_row.nd rfl (by first | exact .inl rfl | exact .inr rfl) (pe_op op_fdivZ (pv 4) (pv 2))))) (pss_one (ps_expr (pe_bm PySem.F.plainAttrs_list PySem.F.slot_list_append PySem.F.type_list_append mt_append (pv 3) (pa_cons (pe_op op_mod (pe_callTy call_int1 (by rfl) T.m_int (by decide +kernel) (pa_cons (pe_call (ok_law_mix T) (hr.mono (by decide)) (by rfl) T.g_law_mix T.F_law_mix.kp T.b_law_mix .nil pass0 (pa_cons (pv 0) (pa_cons (pv 5) pa_nil))) pa_nil)) (pv 2)) pa_nil)))))))
      (pss_one (ps_ret (pv 3)))))), ?_⟩
    refine ⟨by rw [sizeLine_eq]; simp, fun l hl => ?_⟩
    refine ⟨_, rfl, c, rfl, ?_⟩
    refine ⟨_, rfl, _, rfl, by omega, by omega, for_range (n := n) (fun i σ H1 => (∃ (x : Int) (y : Option V) (rs : List Int), σ = [some (.int c), some (.int (n : Int)), some (.int b), some (.ref l), some (.int x), y] ∧ Ext H H1 ∧ H1 l = some (.lst (rs.map V.int)) ∧ rs.length = i ∧ ∀ r ∈ rs, 0 ≤ r ∧ r < b))
      ⟨_, _, [], rfl, ext_upd hl, upd_same, rfl, fun r m => by simp at m⟩ (fun i σ H1 hi hP => ?_) (fun σ H1 hP => ?_)⟩
    · obtain ⟨x, y, rs, rfl, s1, hl1, hlen, hrs⟩ := hP
      have step : ∀ m : Int, ∃ rs', rs' = rs ++ [m % b] ∧ rs'.length = i + 1 ∧ ∀ r ∈ rs', 0 ≤ r ∧ r < b := fun m => ⟨_, rfl, by rw [List.length_append, hlen]; rfl, fun r hr => by
        rcases List.mem_append.mp hr with hr | hr
        · exact hrs r hr
        · rw [List.mem_singleton.mp hr]
          exact ⟨Int.emod_nonneg _ (by omega), Int.emod_lt_of_pos _ hb⟩⟩
      have cnt : (rs.map V.int).length < sizeLine := sl_lt (by rw [List.length_map]; omega)
      have app : ∀ m : Int, rs.map V.int ++ [V.int (m % b)] = (rs ++ [m % b]).map V.int := fun m => by rw [List.map_append]; rfl
      refine ⟨_, rfl, c, rfl, _, _, rfl, rfl, _, rfl, iteB (fun z => ?_) (fun z => ?_)⟩
      · refine ⟨_, rfl, .inl ⟨rfl, _, SqL.of hl1⟩, _, rfl, .inl ⟨_, rfl, _, rfl, _, _, rfl, rfl, hb, l, _, _, rfl, rfl, hl1, cnt, ?_⟩⟩
        refine ⟨_, rfl, _, rfl, _, _, rfl, rfl, ⟨by omega, ?_⟩, ?_⟩
        · refine Nat.lt_of_lt_of_le (PySem.Flt.log2_lt_of (k := 10) (by decide) ?_) (by decide)
          omega
        · obtain ⟨rs', e1, e2, e3⟩ := step x
          subst e1
          exact ⟨_, _, _, rfl, s1.own hl, by rw [upd_same, app], e2, e3⟩
      · refine ⟨_, rfl, .inl ⟨rfl, _, SqL.of hl1⟩, _, rfl, _, rfl, c, _, rfl, fun m hm => .inl ⟨_, rfl, _, rfl, _, _, rfl, rfl, hb, l, _, _, rfl, rfl, hl1, cnt, ?_⟩⟩
        obtain ⟨rs', e1, e2, e3⟩ := step m
        subst e1
        exact ⟨_, _, _, rfl, s1.own hl, by rw [upd_same, app], e2, e3⟩
    · obtain ⟨x, y, rs, rfl, s1, hl1, hlen, hrs⟩ := hP
      exact ⟨_, rfl, q l H1 rs s1 hl hl1 hlen hrs⟩
/-! ### series in the heap -/
def co (rs : List Rat) : Nat → Rat := fun k => rs.getD k 0
def FrV (K : PySem.W.Frag) (H : Hp) (v : V) (r : Rat) : Prop := ∃ a, v = .ref a ∧ Fr K H a (fq r)
abbrev FrsV (K : PySem.W.Frag) (H : Hp) (vs : List V) (rs : List Rat) : Prop := Paired (FrV K H) vs rs
theorem frs_up {H H' : Hp} (s : Ext H H') {vs : List V} {rs : List Rat} (h : FrsV K H vs rs) : FrsV K H' vs rs := paired_imp (fun _ _ ⟨a, e, g⟩ => ⟨a, e, s.tup g⟩) h
theorem sqt_updL {H : Hp} {a g : Addr} {xs ys : List V} {o : HO} (hg : H g = some (.lst xs)) (h : SqT K H a ys) : SqT K (upd H g o) a ys := by
  rcases h with (h | ⟨o', h⟩) | h
  · exact .inl (.inl (by rw [upd_ne (ne_of h hg (by intro z; cases z))]; exact h))
  · exact .inl (.inr ⟨o', by rw [upd_ne (ne_of h hg (by intro z; cases z))]; exact h⟩)
  · exact .inr h
theorem frs_upd {H : Hp} {D : Addr} {o : HO} {acc ys : List V} {rs : List Rat} (hD : H D = some (.lst acc)) (h : FrsV K H ys rs) : FrsV K (upd H D o) ys rs := paired_imp (fun _ _ ⟨a, e, g⟩ => ⟨a, e, sqt_updL hD g⟩) h
theorem frs_at {H : Hp} {vs : List V} {rs : List Rat} (h : FrsV K H vs rs) {k : Nat} (hk : k < rs.length) : ∃ v, vs[k]? = some v ∧ FrV K H v (co rs k) := by
  have hl := Paired.length h
  have hv : k < vs.length := by omega
  obtain ⟨r, e, g⟩ := paired_at h (List.getElem?_eq_getElem hv)
  refine ⟨_, List.getElem?_eq_getElem hv, ?_⟩
  have : co rs k = r := by
    unfold co
    rw [List.getD_eq_getElem?_getD, e]
    rfl
  rw [this]
  exact g
def LT (K : PySem.W.Frag) (H : Hp) (a : Addr) (xs : List V) : Prop := SqL K H a xs ∨ SqT K H a xs
theorem LT.up {H H' : Hp} (s : Ext H H') {a : Addr} {xs : List V} (h : LT K H a xs) : LT K H' a xs := h.imp s.seq s.tup
theorem ix_any {H : Hp} {a : Addr} {xs : List V} {i : Int} {v : V} {Q : VK} (h : LT K H a xs) (h0 : 0 ≤ i) (hv : xs[i.toNat]? = some v) (q : Q v H) : rIx K (.ref a) (.int i) H Q := by
  have e : atI xs i = some v := by
    have := atI_nat hv
    rwa [Int.toNat_of_nonneg h0] at this
  rcases h with h | h
  · exact .inl ⟨a, xs, i, v, rfl, rfl, h, e, q⟩
  · exact .inr (.inl ⟨a, xs, i, v, rfl, rfl, h, e, q⟩)
theorem okA_of {a b : Rat} (h : Sm a) (k : Sm b) : okA (fq a) (fq b) := ⟨h.1, h.2, k.1, k.2, SM.den_ne a, SM.den_ne b⟩
theorem okD_of {a b : Rat} (h : Sm a) (k : Sm b) (n : b ≠ 0) : okD (fq a) (fq b) := ⟨h.1, h.2, k.1, k.2, SM.den_ne a, SM.num_ne n⟩
theorem sm_nat {k : Nat} (h : k ≤ 1000) : Sm (k : Rat) := SM.sm_of (SM.Iz.nat k) (by decide) (Nat.lt_of_lt_of_le (by decide : 1 < 2 ^ 10) (SM.two_le (by decide))) (Nat.lt_of_lt_of_le (show k < 2 ^ 10 by omega) (SM.two_le (by decide)))
theorem sm_zero : Sm 0 := sm_nat (k := 0) (by decide)
theorem sm_one : Sm 1 := sm_nat (k := 1) (by decide)
/-! ### numbers of some kind in the heap, and their sums and products -/
def IsTp (u : HO) : Prop := (∃ xs, u = .tup xs) ∨ ∃ o xs, u = .frz o (.tup xs)
/-- tuples stay -/
def Keep (H H' : Hp) : Prop := ∀ b u, H b = some u → IsTp u → H' b = some u
theorem Keep.refl (H : Hp) : Keep H H := fun _ _ e _ => e
theorem Keep.trans {H H1 H2 : Hp} (a : Keep H H1) (b : Keep H1 H2) : Keep H H2 := fun c u e n => b c u (a c u e n) n
theorem _root_.EXT.Ext.kp {H H' : Hp} (s : Ext H H') : Keep H H' := fun b u e n => s.keep b u e fun ps z => by
  subst z
  rcases n with ⟨_, z⟩ | ⟨_, _, z⟩ <;> cases z
theorem keep_upd {H : Hp} {d : Addr} {u o : HO} (h : H d = some u) (n : ¬ IsTp u) : Keep H (upd H d o) := fun b x e nx => by
  rw [upd_ne (fun z => ?_)]
  · exact e
  · rw [z, h] at e
    cases e
    exact n nx
theorem keep_new {H : Hp} {d : Addr} {o : HO} (h : H d = none) : Keep H (upd H d o) := (ext_upd h).kp
theorem ntp_dk {kvs : List (Key × V)} : ¬ IsTp (.dK kvs) := fun h => by rcases h with ⟨_, z⟩ | ⟨_, _, z⟩ <;> cases z
theorem ntp_lst {xs : List V} : ¬ IsTp (.lst xs) := fun h => by rcases h with ⟨_, z⟩ | ⟨_, _, z⟩ <;> cases z
theorem ntp_frk {o : Obj} {kvs : List (Key × V)} : ¬ IsTp (.frz o (.dK kvs)) := fun h => by rcases h with ⟨_, z⟩ | ⟨_, _, z⟩ <;> cases z
theorem Keep.tup {H H' : Hp} (s : Keep H H') {a : Addr} {xs : List V} (h : SqT K H a xs) : SqT K H' a xs := by
  rcases h with (h | ⟨o, h⟩) | h
  · exact .inl (.inl (s _ _ h (.inl ⟨_, rfl⟩)))
  · exact .inl (.inr ⟨o, s _ _ h (.inr ⟨_, _, rfl⟩)⟩)
  · exact .inr h
/-- a lock is let go -/
theorem ext_unlock {H H' : Hp} {d : Addr} {u : HO} {o : Obj} (h : H d = some u) (n : ∀ ps, u ≠ .tbl ps) (s : Ext (upd H d (.frz o u)) H') : Ext H (upd H' d u) := by
  refine ⟨fun b x e nx => ?_, fun b ps e => ?_⟩
  · by_cases z : b = d
    · rw [z, h] at e
      cases e
      rw [z, upd_same]
    · rw [upd_ne z]
      exact s.keep b x (by rw [upd_ne z]; exact e) nx
  · have z : b ≠ d := fun z => by
      rw [z, h] at e
      cases e
      exact n _ rfl
    obtain ⟨qs, g1, g2⟩ := s.tabs b ps (by rw [upd_ne z]; exact e)
    exact ⟨qs, by rw [upd_ne z]; exact g1, g2⟩
/-- a kind of numbers: how they stand, how large they are behind some steps -/
structure Ar (K : PySem.W.Frag) (α : Type) where
  S : MT.Sr α
  Val : Hp → V → α → Prop
  keep : ∀ {H H' : Hp} {v : V} {x : α}, Keep H H' → Val H v x → Val H' v x
  Sz : Nat → Nat → α → Prop
  sz_le : ∀ {i X Y : Nat} {x : α}, X ≤ Y → Sz i X x → Sz i Y x
  sz_add : ∀ {i X Y : Nat} {x y : α}, Sz i X x → Sz i Y y → Sz i (X + Y) (S.add x y)
  sz_mul : ∀ {i X Y : Nat} {x y : α}, Sz i X x → Sz 1 Y y → Sz (i + 1) (X * Y) (S.mul x y)
  sz_zero : ∀ i, Sz i 0 S.zero
section
variable {α : Type} (A : Ar K α) (G : Hp → Prop)
def spA : Sp := fun vs H Q _ => ∃ (v1 v2 : V) (x y : α) (i X Y : Nat), vs = [v1, v2] ∧ A.Val H v1 x ∧ A.Val H v2 y ∧ A.Sz i X x ∧ A.Sz i Y y ∧ i ≤ 20 ∧ X + Y ≤ 2 ^ 1000 ∧ G H ∧ ∀ v H', Ext H H' → A.Val H' v (A.S.add x y) → Q v H'
def spM : Sp := fun vs H Q _ => ∃ (v1 v2 : V) (x y : α) (i X Y : Nat), vs = [v1, v2] ∧ A.Val H v1 x ∧ A.Val H v2 y ∧ A.Sz i X x ∧ A.Sz 1 Y y ∧ i ≤ 20 ∧ X ≤ 2 ^ 1000 ∧ Y ≤ 2 ^ 1000 ∧ G H ∧ ∀ v H', Ext H H' → A.Val H' v (A.S.mul x y) → Q v H'
/-- an entry of a dict -/
def KvA (H : Hp) (kv : Key × V) (e : Nat × α) : Prop := kv.1 = Sum.inl ((e.1 : Nat) : Int) ∧ A.Val H kv.2 e.2
def KvsA (H : Hp) (kvs : List (Key × V)) (l : List (Nat × α)) : Prop := Paired (KvA A H) kvs l
variable {A G}
theorem KvsA.kp {H H' : Hp} (s : Keep H H') {kvs : List (Key × V)} {l : List (Nat × α)} (h : KvsA A H kvs l) : KvsA A H' kvs l := paired_imp (fun _ _ ⟨a, b⟩ => ⟨a, A.keep s b⟩) h
theorem inl_inj {a b : Nat} (h : (Sum.inl ((a : Nat) : Int) : Key) = Sum.inl ((b : Nat) : Int)) : a = b := by
  have := Sum.inl.inj h
  omega
theorem kvs_get {H : Hp} {zv : V} (hz : A.Val H zv A.S.zero) (m : Nat) : ∀ {kvs : List (Key × V)} {l : List (Nat × α)}, KvsA A H kvs l → A.Val H ((valV kvs (Sum.inl ((m : Nat) : Int))).getD zv) (MT.getA A.S l m)
  | _, _, .nil => hz
  | _, _, .cons (a := kv) (b := e) ⟨h1, h2⟩ t => by
    obtain ⟨k, v⟩ := kv
    have h1 : k = Sum.inl ((e.1 : Nat) : Int) := h1
    subst h1
    rw [MT.get_cons]
    by_cases z : e.1 = m
    · rw [if_pos z, valV_pos (by rw [z])]
      exact h2
    · rw [if_neg z, valV_neg (fun q => z (inl_inj q))]
      exact kvs_get hz m t
theorem kvs_val {H : Hp} {m : Nat} : ∀ {kvs : List (Key × V)} {l : List (Nat × α)}, KvsA A H kvs l → m ∈ MT.keysA l → ∃ v, valV kvs (Sum.inl ((m : Nat) : Int)) = some v ∧ A.Val H v (MT.getA A.S l m)
  | _, _, .nil, h => by cases h
  | _, _, .cons (a := kv) (b := e) (l₁ := kvs) (l₂ := l) ⟨h1, h2⟩ t, h => by
    obtain ⟨k, v⟩ := kv
    have h1 : k = Sum.inl ((e.1 : Nat) : Int) := h1
    subst h1
    rw [MT.get_cons]
    by_cases z : e.1 = m
    · rw [if_pos z, valV_pos (by rw [z])]
      exact ⟨_, rfl, h2⟩
    · rw [if_neg z, valV_neg (fun q => z (inl_inj q))]
      refine kvs_val t ?_
      rcases List.mem_cons.mp (show m ∈ e.1 :: MT.keysA l from h) with q | q
      · exact absurd q.symm z
      · exact q
theorem any_kvs {H : Hp} (m : Nat) : ∀ {kvs : List (Key × V)} {l : List (Nat × α)}, KvsA A H kvs l → (kvs.any fun kv => decide (kv.1 = Sum.inl ((m : Nat) : Int))) = l.any fun p => decide (p.1 = m)
  | _, _, .nil => rfl
  | _, _, .cons (a := kv) (b := e) ⟨h1, h2⟩ t => by
    rw [List.any_cons, List.any_cons, any_kvs m t]
    congr 1
    refine decide_eq_decide.mpr ?_
    have h1 : kv.1 = Sum.inl ((e.1 : Nat) : Int) := h1
    rw [h1]
    exact ⟨fun z => inl_inj z, fun z => by rw [z]⟩
theorem map_kvs {H : Hp} {m : Nat} {v : V} {x : α} (hv : A.Val H v x) : ∀ {kvs : List (Key × V)} {l : List (Nat × α)}, KvsA A H kvs l → KvsA A H (kvs.map fun kv => if kv.1 = Sum.inl ((m : Nat) : Int) then (kv.1, v) else kv) (l.map fun p => if p.1 = m then (p.1, x) else p)
  | _, _, .nil => .nil
  | _, _, .cons (a := kv) (b := e) ⟨h1, h2⟩ t => by
    refine .cons ?_ (map_kvs hv t)
    have h1 : kv.1 = Sum.inl ((e.1 : Nat) : Int) := h1
    dsimp only
    by_cases z : e.1 = m
    · rw [if_pos z, if_pos (by rw [h1, z])]
      exact ⟨h1, hv⟩
    · rw [if_neg z, if_neg (fun q => z (inl_inj (h1.symm.trans q)))]
      exact ⟨h1, h2⟩
theorem kvs_put {H : Hp} {m : Nat} {v : V} {x : α} (hv : A.Val H v x) {kvs : List (Key × V)} {l : List (Nat × α)} (h : KvsA A H kvs l) : KvsA A H (putK kvs (Sum.inl ((m : Nat) : Int)) v) (MT.putA l m x) := by
  unfold putK MT.putA
  rw [any_kvs m h]
  by_cases z : (l.any fun p => decide (p.1 = m)) = true
  · rw [if_pos z, if_pos z]
    have e : (kvs.map fun kv => if kv.1 = Sum.inl ((m : Nat) : Int) then (kv.1, v) else kv) = kvs.map fun kv => if kv.1 = Sum.inl ((m : Nat) : Int) then (Sum.inl ((m : Nat) : Int), v) else kv := List.map_congr_left fun kv _ => by
      by_cases q : kv.1 = Sum.inl ((m : Nat) : Int)
      · rw [if_pos q, if_pos q, q]
      · rw [if_neg q, if_neg q]
    have g := map_kvs (m := m) hv h
    first
      | exact g
      | (rw [e] at g; exact g)
  · rw [if_neg z, if_neg z]
    exact paired_snoc h ⟨rfl, hv⟩
end
section
variable {α : Type} (A : Ar K α) (G : Hp → Prop)
def RowA (H : Hp) (a : Addr) (lk : List (Nat × α)) : Prop := ∃ kvs, H a = some (.dK kvs) ∧ KvsA A H kvs lk
structure LinksA (H : Hp) (l : Addr) (ds : List Addr) (lks : List (List (Nat × α))) : Prop where
  at' : H l = some (.lst (ds.map V.ref))
  nd : ds.Nodup
  rows : Paired (RowA A H) ds lks
def EdW (H : Hp) (v : V) (e : Nat × Nat × α) : Prop := ∃ a wv, v = .ref a ∧ SqT K H a [.int ((e.1 : Nat) : Int), .int ((e.2.1 : Nat) : Int), wv] ∧ A.Val H wv e.2.2
/-- a further edge -/
def linkE (lks : List (List (Nat × α))) (e : Nat × Nat × α) : List (List (Nat × α)) := if e.1 = e.2.1 then lks else lks.set (min e.1 e.2.1) (MT.addA A.S (lks.getD (min e.1 e.2.1) []) (max e.1 e.2.1) e.2.2)
def linkS (count : Nat) (es : List (Nat × Nat × α)) : List (List (Nat × α)) := es.foldl (linkE A) (List.replicate count [])
theorem linkS_snoc (count : Nat) (es : List (Nat × Nat × α)) (e : Nat × Nat × α) : linkS A count (es ++ [e]) = linkE A (linkS A count es) e := by
  unfold linkS
  rw [List.foldl_append]
  rfl
theorem linkE_len (lks : List (List (Nat × α))) (e : Nat × Nat × α) : (linkE A lks e).length = lks.length := by
  unfold linkE
  split
  · rfl
  · rw [List.length_set]
/-- what the rows are -/
structure RowOk (count v X m : Nat) (lk : List (Nat × α)) : Prop where
  bnd : MT.LkOk v count lk
  nd : (MT.keysA lk).Nodup
  sz : ∀ p ∈ lk, A.Sz 1 X p.2
  len : lk.length ≤ m
variable {A G}
theorem get_sz {i X m : Nat} {lk : List (Nat × α)} (h : ∀ p ∈ lk, A.Sz i X p.2) : A.Sz i X (MT.getA A.S lk m) := by
  induction lk with
  | nil => exact A.sz_le (Nat.zero_le _) (A.sz_zero i)
  | cons p t ih =>
    rw [MT.get_cons]
    split
    · exact h p (List.mem_cons_self ..)
    · exact ih fun q hq => h q (List.mem_cons_of_mem _ hq)
theorem mem_put {lk : List (Nat × α)} {m : Nat} {x : α} {p : Nat × α} (h : p ∈ MT.putA lk m x) : p = (m, x) ∨ p ∈ lk := by
  unfold MT.putA at h
  split at h
  · obtain ⟨q, hq, e⟩ := List.mem_map.mp h
    split at e
    · rename_i z
      rw [← e, z]
      exact .inl rfl
    · rw [← e]
      exact .inr hq
  · rcases List.mem_append.mp h with h | h
    · exact .inr h
    · exact .inl (List.mem_singleton.mp h)
theorem put_len (lk : List (Nat × α)) (m : Nat) (x : α) : (MT.putA lk m x).length ≤ lk.length + 1 := by
  unfold MT.putA
  split
  · rw [List.length_map]
    omega
  · rw [List.length_append]
    exact Nat.le_refl _
theorem RowOk.put {count v X Y m b : Nat} {lk : List (Nat × α)} {w : α} (h : RowOk A count v X m lk) (hb : v < b) (hc : b < count) (hw : A.Sz 1 Y w) : RowOk A count v (X + Y) (m + 1) (MT.addA A.S lk b w) := by
  refine ⟨fun p hp => ?_, MT.nodup_put h.nd _ _, fun p hp => ?_, Nat.le_trans (put_len _ _ _) (Nat.succ_le_succ h.len)⟩
  · rcases mem_put hp with e | hp
    · rw [e]
      exact ⟨hb, hc⟩
    · exact h.bnd p hp
  · rcases mem_put hp with e | hp
    · rw [e]
      exact A.sz_add (get_sz h.sz) hw
    · exact A.sz_le (Nat.le_add_right _ _) (h.sz p hp)
theorem linkS_ok {count Y : Nat} : ∀ (j : Nat) (es : List (Nat × Nat × α)), es.length = j → (∀ e ∈ es, e.1 < count ∧ e.2.1 < count ∧ A.Sz 1 Y e.2.2) → ∀ v < count, RowOk A count v (j * Y) j ((linkS A count es).getD v [])
  | 0, es, h, _, v, hv => by
    rw [List.length_eq_zero_iff.mp h]
    have e : (linkS A count []).getD v [] = [] := by
      show (List.replicate count []).getD v [] = []
      rw [List.getD_eq_getElem?_getD, List.getElem?_replicate, if_pos hv]
      rfl
    rw [e]
    exact ⟨fun p hp => (by cases hp), List.nodup_nil, fun p hp => (by cases hp), Nat.zero_le _⟩
  | j + 1, es, h, he, v, hv => by
    have hne : es ≠ [] := fun e => by rw [e] at h; cases h
    have hd := List.dropLast_concat_getLast hne
    have ih := linkS_ok j es.dropLast (by rw [List.length_dropLast, h]; rfl) (fun e m => he e (List.dropLast_subset _ m))
    obtain ⟨e1, e2, e3⟩ := he _ (List.getLast_mem hne)
    rw [← hd, linkS_snoc, Nat.succ_mul]
    generalize es.getLast hne = e at *
    have ihv := ih v hv
    unfold linkE
    split
    · exact ⟨ihv.bnd, ihv.nd, fun p hp => A.sz_le (Nat.le_add_right _ _) (ihv.sz p hp), Nat.le_succ_of_le ihv.len⟩
    · rename_i hne2
      by_cases z : min e.1 e.2.1 = v
      · subst z
        have hl : (linkS A count es.dropLast).length = count := by
          have : ∀ (l : List (Nat × Nat × α)) (s : List (List (Nat × α))), (l.foldl (linkE A) s).length = s.length := fun l => by
            induction l with
            | nil => exact fun s => rfl
            | cons x l ih2 => exact fun s => (ih2 _).trans (linkE_len A s x)
          unfold linkS
          rw [this, List.length_replicate]
        rw [List.getD_eq_getElem?_getD, List.getElem?_set_self (by omega)]
        exact ihv.put (by omega) (by omega) e3
      · rw [List.getD_eq_getElem?_getD, List.getElem?_set_ne z, ← List.getD_eq_getElem?_getD]
        exact ⟨ihv.bnd, ihv.nd, fun p hp => A.sz_le (Nat.le_add_right _ _) (ihv.sz p hp), Nat.le_succ_of_le ihv.len⟩
theorem linkS_len (count : Nat) (es : List (Nat × Nat × α)) : (linkS A count es).length = count := by
  have : ∀ (l : List (Nat × Nat × α)) (s : List (List (Nat × α))), (l.foldl (linkE A) s).length = s.length := fun l => by
    induction l with
    | nil => exact fun s => rfl
    | cons x l ih2 => exact fun s => (ih2 _).trans (linkE_len A s x)
  unfold linkS
  rw [this, List.length_replicate]
theorem rowA_kp {H H' : Hp} (s : Ext H H') {ds : List Addr} {lks : List (List (Nat × α))} (h : Paired (RowA A H) ds lks) : Paired (RowA A H') ds lks := paired_imp (fun _ _ ⟨kvs, a, b⟩ => ⟨kvs, s.keep _ _ a (fun _ z => by cases z), b.kp s.kp⟩) h
theorem LinksA.up {H H' : Hp} (s : Ext H H') {l : Addr} {ds : List Addr} {lks : List (List (Nat × α))} (h : LinksA A H l ds lks) : LinksA A H' l ds lks := ⟨s.lst h.at', h.nd, rowA_kp s h.rows⟩
theorem rows_set {H : Hp} {kvs : List (Key × V)} {lk : List (Nat × α)} {d : Addr} : ∀ {ds : List Addr} {lks : List (List (Nat × α))} {k : Nat}, ds.Nodup → ds[k]? = some d → Paired (RowA A H) ds lks → KvsA A (upd H d (.dK kvs)) kvs lk → (∀ e u, e ≠ d → RowA A H e u → RowA A (upd H d (.dK kvs)) e u) → Paired (RowA A (upd H d (.dK kvs))) ds (lks.set k lk)
  | [], _, k, _, h, _, _, _ => by simp at h
  | d1 :: ds, _ :: lks, 0, nd, h, .cons a t, hk, up => by
    simp only [List.getElem?_cons_zero, Option.some.injEq] at h
    subst h
    refine .cons ⟨kvs, upd_same, hk⟩ ?_
    have hn := (List.nodup_cons.mp nd).1
    clear a
    induction t with
    | nil => exact .nil
    | cons x t2 ih =>
      refine .cons (up _ _ (fun z => hn (by rw [← z]; exact List.mem_cons_self ..)) x) (ih ?_ ?_)
      · have := List.nodup_cons.mp nd
        exact List.nodup_cons.mpr ⟨fun z => this.1 (List.mem_cons_of_mem _ z), (List.nodup_cons.mp this.2).2⟩
      · exact fun z => hn (List.mem_cons_of_mem _ z)
  | d1 :: ds, _ :: lks, k + 1, nd, h, .cons a t, hk, up => by
    simp only [List.getElem?_cons_succ] at h
    obtain ⟨n1, n2⟩ := List.nodup_cons.mp nd
    exact .cons (up _ _ (fun z => n1 (by rw [z]; exact List.mem_of_getElem? h)) a) (rows_set n2 h t hk up)
theorem rowA_other {H : Hp} {d e : Addr} {kvs0 kvs : List (Key × V)} {lk : List (Nat × α)} (hd : H d = some (.dK kvs0)) (n : e ≠ d) (h : RowA A H e lk) : RowA A (upd H d (.dK kvs)) e lk := by
  obtain ⟨k, a, b⟩ := h
  exact ⟨k, by rw [upd_ne n]; exact a, b.kp (keep_upd hd ntp_dk)⟩
variable (A G)
def spLinks (fS : Addr) : Sp := fun vs H Q _ => ∃ (count : Nat) (ea : Addr) (xs : List V) (es : List (Nat × Nat × α)) (zv : V), vs = [.int (count : Int), .ref ea, zv, .ref fS] ∧ SqL K H ea xs ∧ Paired (EdW A H) xs es ∧ (∀ e ∈ es, e.1 < count ∧ e.2.1 < count ∧ A.Sz 1 36 e.2.2) ∧ es.length ≤ 24 ∧ count ≤ 100 ∧ A.Val H zv A.S.zero ∧ G H ∧
  ∀ l ds H', Ext H H' → H l = none → LinksA A H' l ds (linkS A count es) → Q (.ref l) H'
theorem ok_links (T : Top K mg) (hG : ∀ {H H' : Hp}, Ext H H' → G H → G H') {fS : Addr} {dS : FuncData} {psS : List Str} (okS : FnOk P w K mg base CX0 4 fS dS psS (spA A G)) (kS : PySem.W.keepIn K (.ref fS) = true) (bS : Binds K dS psS []) :
    FnOk P w K mg base CX0 5 T.f_links T.d_links ["count", "edges", "zero", "summed"] (spLinks A G fS) := by
  refine T.F_links.ok sc_links (fun vs H Q E h => ?_) (fun cdv A' outer s H vs Q E hr h => ?_)
  · obtain ⟨count, ea, xs, es, zv, rfl, _⟩ := h
    rfl
  obtain ⟨count, ea, xs, es, zv, rfl, he, hes, hin, h24, h100, hz, g, q⟩ := h
  refine ⟨_, (pss_cons (ps_setLc (i := 4) (own := [("_", 5)]) (g := gName 5) (tt := tYes) rfl sc_links.nd rfl rfl (sw_true rfl rfl rfl (by decide +kernel)) (pi_range1 (by rfl) T.m_range (pa_cons (pv 0) pa_nil)) (blkOk_by (own := [("_", 5)]) (N := n_links) (sc := defScope s_links) (by decide +kernel)) (fun _ _ _ _ _ => (pg_name (i := 5) sc_links.nd rfl (by first | exact .inl rfl | exact .inr rfl))) (fun _ _ _ _ _ => pts_nil) (fun _ _ _ _ _ => pe_dnewK))
      (pss_cons (ps_for PassesOwn.never rfl (pi_list (pv 1)) (pg_tup rfl (pgs_cons (pg_name (i := 6) sc_links.nd rfl (by first | exact .inl rfl | exact .inr rfl)) (pgs_cons (pg_name (i := 7) sc_links.nd rfl (by first | exact .inl rfl | exact .inr rfl)) (pgs_cons (pg_name (i := 8) sc_links.nd rfl (by first | exact .inl rfl | exact .inr rfl)) pgs_nil)))) (pss_one (ps_if (pt_cmpR op_ne (pv 6) (pv 7) (nomark _)) (pss_cons (ps_set (i := 9) sc_links.nd rfl (by first | exact .inl rfl | exact .inr rfl) (pe_ix ix_list (pv 4) (pe_callB (call_min2 rfl) (by rfl) T.m_min (by decide +kernel) (pa_cons (pv 6) (pa_cons (pv 7) pa_nil))) (fun _ _ => rfl)))
      (pss_one (ps_dput (hu_of hr) (pv 9) (pe_callB (call_max2 rfl) (by rfl) T.m_max (by decide +kernel) (pa_cons (pv 6) (pa_cons (pv 7) pa_nil))) (pe_callL (i := 3) okS (hr.mono (by decide)) rfl (Or.inl rfl) kS bS .nil pass0 (pa_cons (pe_dget2 (hu_of hr) (pv 9) (pe_callB (call_max2 rfl) (by rfl) T.m_max (by decide +kernel) (pa_cons (pv 6) (pa_cons (pv 7) pa_nil))) (pv 2) ⟨rfl, rfl, rfl, rfl⟩) (pa_cons (pv 8) pa_nil))) rfl))) pss_nil)))
      (pss_one (ps_ret (pv 4))))), ?_⟩
  have lx := hes.length
  refine ⟨_, rfl, _, rfl, by omega, by omega, fun D hD => lc_range (lo := 0) (n := (count : Int).toNat) (fun i H3 => Ext H H3 ∧ ∃ ds : List Addr, H3 D = some (.lst (ds.map V.ref)) ∧ ds.Nodup ∧ ds.length = i ∧ ∀ d ∈ ds, H3 d = some (.dK []) ∧ H d = none ∧ d ≠ D) ⟨ext_upd hD, [], upd_same, List.nodup_nil, rfl, fun d hd => by cases hd⟩ (fun i H3 hi hP => ?_) (fun H3 hP => ?_)⟩
  · obtain ⟨s3, ds, hD3, nd, ld, hds⟩ := hP
    refine ⟨rfl, fun d hd => ?_⟩
    have x4 := ext_upd (o := .dK []) hd
    have nd4 : d ≠ D := fun z => by rw [z, hD3] at hd; cases hd
    refine ⟨_, x4.lst hD3, sl_lt (by rw [List.length_map]; omega), (s3.trans x4).own hD, ds ++ [d], ?_, ?_, by rw [List.length_append, ld]; rfl, fun e he2 => ?_⟩
    · rw [upd_same, List.map_append]
      rfl
    · exact List.nodup_append.mpr ⟨nd, by simp, fun x hx y hy z => by
        rw [List.mem_singleton] at hy
        have := (hds x hx).1
        rw [z, hy, hd] at this
        cases this⟩
    · rcases List.mem_append.mp he2 with he2 | he2
      · obtain ⟨a1, a2, a3⟩ := hds e he2
        exact ⟨by rw [upd_ne a3]; exact x4.keep _ _ a1 (fun _ z => by cases z), a2, a3⟩
      · rw [List.mem_singleton.mp he2]
        exact ⟨by rw [upd_ne nd4, upd_same], s3.free hd, nd4⟩
  · obtain ⟨s3, ds, hD3, nd, ld, hds⟩ := hP
    rw [Int.toNat_natCast] at ld
    have L0 : LinksA A H3 D ds (linkS A count []) := by
      refine ⟨hD3, nd, ?_⟩
      show Paired (RowA A H3) ds (List.replicate count [])
      rw [← ld]
      clear hD3 nd ld
      induction ds with
      | nil => exact .nil
      | cons d ds ih => exact .cons ⟨[], (hds d (List.mem_cons_self ..)).1, .nil⟩ (ih fun e m => hds e (List.mem_cons_of_mem _ m))
    have hnew : ∀ d ∈ ds, H d = none ∧ d ≠ D := fun d m => (hds d m).2
    have hz3 := A.keep s3.kp hz
    clear hds hD3
    refine ⟨_, rfl, ea, rfl, ⟨_, s3.seq he⟩, for_list (xs := xs) (fun i σ H4 => (∃ y6 y7 y8 y9, σ = [some (.int (count : Int)), some (.ref ea), some zv, some (.ref fS), some (.ref D), none, y6, y7, y8, y9]) ∧ Ext H H4 ∧ LinksA A H4 D ds (linkS A count (es.take i)))
      ⟨⟨none, none, none, none, rfl⟩, s3, L0⟩ (fun i σ H4 _ h => h.2.1.seq he) (fun i x σ H4 hi hP => ?_) (fun σ H4 hP => ?_)⟩
    · obtain ⟨⟨y6, y7, y8, y9, rfl⟩, s4, L⟩ := hP
      obtain ⟨⟨u, v, w0⟩, hei, a0, wv, rfl, ha0, hw0⟩ := paired_at hes hi
      obtain ⟨hu, hv, hsz⟩ := hin _ (List.mem_of_getElem? hei)
      have hu : u < count := hu
      have hv : v < count := hv
      have hw0 : A.Val H wv w0 := hw0
      have hsz : A.Sz 1 36 w0 := hsz
      have ht := take_snoc hei
      have ll := linkS_len (A := A) count (es.take i)
      have okr := fun z (hz : z < count) => linkS_ok (A := A) (count := count) (Y := 36) _ (es.take i) rfl (fun e m => hin e (List.mem_of_mem_take m)) z hz
      refine ⟨a0, _, rfl, s4.tup ha0, rfl, _, _, rfl, _, _, rfl, _, _, rfl, rfl, ?_⟩
      refine ⟨_, rfl, _, rfl, rfl, _, rfl, iteB (fun z => ?_) (fun z => ?_)⟩
      · have huv : u ≠ v := fun e => by
          rw [e] at z
          simp at z
        have emn : (if ((v : Nat) : Int) < ((u : Nat) : Int) then ((v : Nat) : Int) else ((u : Nat) : Int)) = ((min u v : Nat) : Int) := by
          split <;> omega
        have emx : (if ((v : Nat) : Int) > ((u : Nat) : Int) then ((v : Nat) : Int) else ((u : Nat) : Int)) = ((max u v : Nat) : Int) := by
          split <;> omega
        have hmn : min u v < ds.length := by omega
        obtain ⟨d, hd⟩ : ∃ d, ds[min u v]? = some d := ⟨_, List.getElem?_eq_getElem hmn⟩
        obtain ⟨lk, hlk, kvs, hdk, hkv⟩ := paired_at L.rows hd
        have elk : (linkS A count (es.take i)).getD (min u v) [] = lk := by
          rw [List.getD_eq_getElem?_getD, hlk]
          rfl
        have or := okr (min u v) (by omega)
        rw [elk] at or
        refine ⟨_, rfl, _, rfl, _, rfl, _, _, rfl, ?_⟩
        dsimp only
        rw [emn]
        refine ⟨D, _, _, .ref d, rfl, rfl, SqL.of L.at', atI_nat (by rw [List.getElem?_map, hd]; rfl), ?_⟩
        refine ⟨rfl, _, rfl, d, rfl, .inl ⟨_, .inl hdk⟩, _, rfl, _, rfl, _, _, rfl, ?_⟩
        dsimp only
        rw [emx]
        have hz4 := A.keep s4.kp hz
        refine ⟨_, rfl, _, DGet.k (k := Sum.inl ((max u v : Nat) : Int)) hdk, _, rfl, _, wv, _, w0, 1, _, _, rfl, kvs_get hz4 (max u v) hkv, A.keep s4.kp hw0, get_sz or.sz, hsz, by decide, ?_, hG s4 g, fun nv H5 s5 hnv => ?_⟩
        · have l1 : (es.take i).length ≤ 24 := by rw [List.length_take]; omega
          have : (es.take i).length * 36 + 36 ≤ 2 ^ 10 := by omega
          exact Nat.le_trans this (Nat.pow_le_pow_right (by decide) (by decide))
        refine ⟨_, rfl, _, rfl, _, rfl, _, _, rfl, ?_⟩
        dsimp only
        rw [emx]
        have hdk5 := s5.keep _ _ hdk (fun _ z => by cases z)
        have hkv5 := hkv.kp s5.kp
        have ml := List.mem_of_getElem? hd
        refine ⟨d, _, rfl, DPut.k (k := Sum.inl ((max u v : Nat) : Int)) hdk5 ?_, ⟨_, _, _, _, rfl⟩, (s4.trans s5).own (hnew d ml).1, ?_⟩
        · rw [hkv.length]
          have := or.len
          have l1 : (es.take i).length ≤ 24 := by rw [List.length_take]; omega
          exact sl_lt (by omega)
        · have L5 := L.up s5
          have kpu : Keep H5 (upd H5 d (.dK (putK kvs (Sum.inl ((max u v : Nat) : Int)) nv))) := keep_upd hdk5 ntp_dk
          refine ⟨?_, L5.nd, ?_⟩
          · rw [upd_ne (fun z => (hnew d ml).2 z.symm)]
            exact L5.at'
          · rw [ht, linkS_snoc]
            unfold linkE
            rw [if_neg huv]
            show Paired _ ds (List.set _ (min u v) (MT.addA A.S (List.getD _ (min u v) []) (max u v) w0))
            rw [elk]
            exact rows_set L5.nd hd L5.rows (kvs_put (A.keep kpu hnv) (hkv5.kp kpu)) (fun e lk' n r => rowA_other hdk5 n r)
      · have huv : u = v := by
          have : ((u : Nat) : Int) = ((v : Nat) : Int) := by
            simpa using z
          omega
        refine ⟨⟨_, _, _, _, rfl⟩, s4, ?_⟩
        rw [ht, linkS_snoc]
        unfold linkE
        rw [if_pos huv]
        exact L
    · obtain ⟨⟨y6, y7, y8, y9, rfl⟩, s4, L⟩ := hP
      rw [lx, List.take_length] at L
      exact ⟨_, rfl, q D ds H4 s4 hD L⟩
end
section
variable {α : Type} (A : Ar K α) (G : Hp → Prop)
def ChA (H : Hp) (v : V) (c : Nat × α) : Prop := ∃ a wv, v = .ref a ∧ H a = some (.tup [.int ((c.1 : Nat) : Int), wv]) ∧ A.Val H wv c.2
def Xb (v : Nat) : Nat := 2 ^ (40 * v + 10)
variable {A G}
theorem chA_kp {H H' : Hp} (s : Keep H H') {ys : List V} {cs : List (Nat × α)} (h : Paired (ChA A H) ys cs) : Paired (ChA A H') ys cs := paired_imp (fun _ _ ⟨a, wv, e, g, k⟩ => ⟨a, wv, e, s _ _ g (.inl ⟨_, rfl⟩), A.keep s k⟩) h
theorem add_sz {g : List (Nat × α)} {i c B m : Nat} {y : α} (h : ∀ p ∈ g, A.Sz i (c * B) p.2) (hy : A.Sz i B y) : ∀ p ∈ MT.addA A.S g m y, A.Sz i ((c + 1) * B) p.2 := fun p hp => by
  rw [Nat.succ_mul]
  rcases mem_put hp with e | hp
  · rw [e]
    exact A.sz_add (get_sz h) hy
  · exact A.sz_le (Nat.le_add_right _ _) (h p hp)
theorem fill_sz {x : α} {v X : Nat} (hx : A.Sz v X x) : ∀ (cs g : List (Nat × α)) (c : Nat), (∀ d ∈ cs, A.Sz 1 1024 d.2) → (∀ p ∈ g, A.Sz (v + 1) (c * (X * 1024)) p.2) → ∀ p ∈ MT.fill A.S x g cs, A.Sz (v + 1) ((c + cs.length) * (X * 1024)) p.2
  | [], g, c, _, hg, p, hp => hg p hp
  | d :: cs, g, c, hd, hg, p, hp => by
    have h1 := fill_sz hx cs _ (c + 1) (fun e m => hd e (List.mem_cons_of_mem _ m)) (add_sz (m := d.1) hg (A.sz_mul hx (hd d (List.mem_cons_self ..)))) p hp
    rw [List.length_cons]
    rw [show c + (cs.length + 1) = c + 1 + cs.length by omega]
    exact h1
theorem chs_sz {alone : α} {v m : Nat} {lk : List (Nat × α)} (h1 : A.Sz 1 1024 A.S.one) (h2 : A.Sz 1 1024 alone) (hl : ∀ p ∈ lk, A.Sz 1 1024 p.2) : ∀ c ∈ MT.chs A.S alone v m lk, A.Sz 1 1024 c.2 := fun c hc => by
  unfold MT.chs at hc
  split at hc
  · rw [List.mem_singleton.mp hc]
    exact h1
  · rcases List.mem_cons.mp hc with rfl | hc
    · exact h2
    · obtain ⟨e, he, rfl⟩ := List.mem_map.mp hc
      exact hl e (List.mem_filter.mp he).1
theorem key_len {n : Nat} {l : List Nat} (nd : l.Nodup) (h : ∀ k ∈ l, k < n) : l.length ≤ n := by
  have := List.Nodup.length_le_of_subset nd (l₂ := List.range n) fun k hk => List.mem_range.mpr (h k hk)
  rwa [List.length_range] at this
theorem pw1 (v : Nat) : (1 : Int) * 2 ^ ((v : Nat) : Int).toNat = ((2 ^ v : Nat) : Int) := by
  rw [Int.one_mul, Int.toNat_natCast, Int.natCast_pow]
  rfl
theorem xor_n (m k : Nat) : Builtin.bitXor ((m : Nat) : Int) ((k : Nat) : Int) = ((m ^^^ k : Nat) : Int) := by
  rw [Bits.bitXor_pp (Int.natCast_nonneg _) (Int.natCast_nonneg _), Int.toNat_natCast, Int.toNat_natCast]
theorem or_n (m k : Nat) : Builtin.bitOr ((m : Nat) : Int) ((k : Nat) : Int) = ((m ||| k : Nat) : Int) := by
  rw [Bits.bitOr_pp (Int.natCast_nonneg _) (Int.natCast_nonneg _), Int.toNat_natCast, Int.toNat_natCast]
theorem tbn (m v : Nat) : (Builtin.bitAnd (((m : Nat) : Int) / 2 ^ ((v : Nat) : Int).toNat) 1 != 0) = m.testBit v := by
  rw [Int.toNat_natCast]
  have h := PySem.W.kbt_mask (((m : Nat) : Int) / 2 ^ v) 1
  have e : (2 : Int) ^ 1 - 1 = 1 := by decide
  rw [e] at h
  rw [h]
  have e2 : (2 : Int) ^ 1 = 2 := by decide
  rw [e2]
  have e3 : ((m : Nat) : Int) / 2 ^ v = ((m / 2 ^ v : Nat) : Int) := by
    rw [Int.natCast_ediv, Int.natCast_pow]
    rfl
  rw [e3, Nat.testBit_eq_decide_div_mod_eq]
  by_cases z : m / 2 ^ v % 2 = 1
  · rw [decide_eq_true z]
    have : (((m / 2 ^ v : Nat) : Int) % 2) = 1 := by omega
    rw [this]
    rfl
  · rw [decide_eq_false z]
    have : (((m / 2 ^ v : Nat) : Int) % 2) = 0 := by omega
    rw [this]
    rfl
theorem kvs_at {H : Hp} {m : Nat} {v : V} : ∀ {kvs : List (Key × V)} {l : List (Nat × α)} {j : Nat}, KvsA A H kvs l → (MT.keysA l).Nodup → kvs[j]? = some (Sum.inl ((m : Nat) : Int), v) → valV kvs (Sum.inl ((m : Nat) : Int)) = some v
  | _, _, _, .nil, _, h => by simp at h
  | _, _, 0, .cons (a := kv) ⟨h1, _⟩ t, _, h => by
    simp only [List.getElem?_cons_zero, Option.some.injEq] at h
    rw [h, valV_pos rfl]
  | _, _, j + 1, .cons (a := kv) (b := e) (l₂ := l) ⟨h1, _⟩ t, nd, h => by
    simp only [List.getElem?_cons_succ] at h
    obtain ⟨n1, n2⟩ := List.nodup_cons.mp (show (e.1 :: MT.keysA l).Nodup from nd)
    obtain ⟨k, v'⟩ := kv
    have h1 : k = Sum.inl ((e.1 : Nat) : Int) := h1
    subst h1
    rw [valV_neg (fun z => ?_)]
    · exact kvs_at t n2 h
    · obtain ⟨f, hf, hk, _⟩ := paired_at t h
      have := inl_inj (z.trans hk)
      exact n1 (by rw [this]; exact List.mem_map.mpr ⟨f, List.mem_of_getElem? hf, rfl⟩)
theorem fill_len (x : α) : ∀ (cs g : List (Nat × α)), (MT.fill A.S x g cs).length ≤ g.length + cs.length
  | [], g => Nat.le_refl _
  | c :: cs, g => by
    have h1 := fill_len x cs (MT.addA A.S g c.1 (A.S.mul x c.2))
    have h2 := put_len g c.1 (A.S.add (MT.getA A.S g c.1) (A.S.mul x c.2))
    have h3 : (MT.addA A.S g c.1 (A.S.mul x c.2)).length ≤ g.length + 1 := h2
    rw [List.length_cons]
    show (MT.fill A.S x (MT.addA A.S g c.1 (A.S.mul x c.2)) cs).length ≤ _
    omega
theorem fold_len {alone : α} {v : Nat} {lk : List (Nat × α)} (h : lk.length ≤ 24) : ∀ (T g : List (Nat × α)), (T.foldl (fun g p => MT.fill A.S p.2 g (MT.chs A.S alone v p.1 lk)) g).length ≤ g.length + T.length * 32
  | [], g => by simp
  | p :: T, g => by
    have h1 := fold_len (alone := alone) (v := v) h T (MT.fill A.S p.2 g (MT.chs A.S alone v p.1 lk))
    have h2 := fill_len (A := A) p.2 (MT.chs A.S alone v p.1 lk) g
    have h3 := MT.chs_len A.S alone v p.1 lk
    rw [List.foldl_cons, List.length_cons]
    omega
theorem sz_bnd {c v : Nat} (hc : c ≤ 4194304) (hv : v ≤ 16) : c * (Xb v * 1024) ≤ 2 ^ 1000 ∧ c * (Xb v * 1024) ≤ Xb (v + 1) := by
  have h1 : c * (Xb v * 1024) ≤ 2 ^ 22 * (2 ^ (40 * v + 10) * 2 ^ 10) := Nat.mul_le_mul hc (Nat.le_refl _)
  rw [← Nat.pow_add, ← Nat.pow_add] at h1
  exact ⟨Nat.le_trans h1 (Nat.pow_le_pow_right (by decide) (by omega)), Nat.le_trans h1 (Nat.pow_le_pow_right (by decide) (by omega))⟩
variable (A G)
def spSumM (fS fM : Addr) : Sp := fun vs H Q _ => ∃ (l : Addr) (av zv ov : V) (ds : List Addr) (lks : List (List (Nat × α))) (alone : α), vs = [.ref l, av, zv, ov, .ref fS, .ref fM] ∧ LinksA A H l ds lks ∧ (∀ v < lks.length, RowOk A lks.length v 1024 24 (lks.getD v [])) ∧ lks.length ≤ 16 ∧
  A.Val H av alone ∧ A.Val H zv A.S.zero ∧ A.Val H ov A.S.one ∧ A.Sz 1 1024 alone ∧ A.Sz 1 1024 A.S.one ∧ A.Sz 0 1024 A.S.one ∧ G H ∧ ∀ v H', Ext H H' → A.Val H' v (MT.Fr A.S alone lks 0 0) → Q v H'
theorem ok_sum_over_matchings (T : Top K mg) (hG : ∀ {H H' : Hp}, Ext H H' → G H → G H') {fS fM : Addr} {dS dM : FuncData} {psS psM : List Str} (okS : FnOk P w K mg base CX0 4 fS dS psS (spA A G)) (kS : PySem.W.keepIn K (.ref fS) = true) (bS : Binds K dS psS [])
    (okM : FnOk P w K mg base CX0 4 fM dM psM (spM A G)) (kM : PySem.W.keepIn K (.ref fM) = true) (bM : Binds K dM psM []) :
    FnOk P w K mg base CX0 5 T.f_sum_over_matchings T.d_sum_over_matchings ["links", "alone", "zero", "one", "summed", "multiplied"] (spSumM A G fS fM) := by
  refine T.F_sum_over_matchings.ok sc_sum_over_matchings (fun vs H Q E h => ?_) (fun cdv A' outer s H vs Q E hr h => ?_)
  · obtain ⟨l, av, zv, ov, ds, lks, alone, rfl, _⟩ := h
    rfl
  obtain ⟨l, av, zv, ov, ds, lks, alone, rfl, hL, hrow, h16, ha, hz, ho, s1, s2, s3, g, q⟩ := h
  refine ⟨_, (pss_cons (ps_set (i := 6) sc_sum_over_matchings.nd rfl (by first | exact .inl rfl | exact .inr rfl) (pe_disp (pps_cons pe_int (pv 3) pps_nil) (by rfl) (by rfl) (fun z => by cases z) (by decide)))
      (pss_cons (ps_for PassesOwn.never rfl (pi_enumS rfl (by rfl) T.m_enumerate (pa_cons (pv 0) pa_nil)) (pg_tup rfl (pgs_cons (pg_name (i := 7) sc_sum_over_matchings.nd rfl (by first | exact .inl rfl | exact .inr rfl)) (pgs_cons (pg_name (i := 8) sc_sum_over_matchings.nd rfl (by first | exact .inl rfl | exact .inr rfl)) pgs_nil))) (pss_cons (ps_set (i := 9) sc_sum_over_matchings.nd rfl (by first | exact .inl rfl | exact .inr rfl) pe_dnewK)
      (pss_cons (ps_lock (ps_for PassesOwn.never rfl (pi_keys (pv 6)) (pg_name (i := 10) sc_sum_over_matchings.nd rfl (by first | exact .inl rfl | exact .inr rfl)) (C8.pss_cut (ps_if (pt_truthI (pe_op op_and (pe_op op_shr (pv 10) (pv 7)) pe_int) (by intro _; rfl)) (pss_one (ps_set (i := 11) sc_sum_over_matchings.nd rfl (by first | exact .inl rfl | exact .inr rfl) (pe_lst (pa_cons (pe_tup (pa_cons (pe_op op_xor (pv 10) (pe_op op_shl pe_int (pv 7))) (pa_cons (pv 3) pa_nil))) pa_nil)))) (pss_cons (ps_set (i := 11) sc_sum_over_matchings.nd rfl (by first | exact .inl rfl | exact .inr rfl) (pe_lst (pa_cons (pe_tup (pa_cons (pv 10) (pa_cons (pv 1) pa_nil))) pa_nil)))
      (pss_one (ps_aug (i := 11) sc_sum_over_matchings.nd rfl (by first | exact .inl rfl | exact .inr rfl) (pe_lock (pe_lc (own := [("other", 12)]) (g := gName 12) rfl sc_sum_over_matchings.nd (pi_keys (pv 8)) (blkOk_by (own := [("other", 12)]) (N := n_sum_over_matchings) (sc := defScope s_sum_over_matchings) (by decide +kernel)) (fun _ _ _ _ _ => (pg_name (i := 12) sc_sum_over_matchings.nd rfl (by first | exact .inl rfl | exact .inr rfl))) (fun _ _ _ _ _ => pts_one (pt_not (pt_truthI (pe_op op_and (pe_op op_shr (pv 10) (pv 12)) pe_int) (by intro _; rfl)))) (fun _ _ _ _ _ => (pe_tup (pa_cons (pe_op op_or (pv 10) (pe_op op_shl pe_int (pv 12))) (pa_cons (pe_dget (hu_of hr) (pv 8) (pv 12) (fun _ _ => rfl)) pa_nil)))))) iop_ext))))
      (pss_one (ps_for PassesOwn.never rfl (pi_list (pv 11)) (pg_tup rfl (pgs_cons (pg_name (i := 13) sc_sum_over_matchings.nd rfl (by first | exact .inl rfl | exact .inr rfl)) (pgs_cons (pg_name (i := 14) sc_sum_over_matchings.nd rfl (by first | exact .inl rfl | exact .inr rfl)) pgs_nil))) (pss_one (ps_dput (hu_of hr) (pv 9) (pv 13) (pe_callL (i := 4) okS (hr.mono (by decide)) rfl (Or.inl rfl) kS bS .nil pass0 (pa_cons (pe_dget2 (hu_of hr) (pv 9) (pv 13) (pv 2) ⟨rfl, rfl, rfl, rfl⟩) (pa_cons (pe_callL (i := 5) okM (hr.mono (by decide)) rfl (Or.inl rfl) kM bM .nil pass0 (pa_cons (pe_dget (hu_of hr) (pv 6) (pv 10) (fun _ _ => rfl)) (pa_cons (pv 14) pa_nil))) pa_nil))) rfl)))))))
      (pss_one (ps_set (i := 6) sc_sum_over_matchings.nd rfl (by first | exact .inl rfl | exact .inr rfl) (pv 9))))))
      (pss_one (ps_ret (pe_dget (hu_of hr) (pv 6) pe_int (fun _ _ => rfl)))))), ?_⟩
  have hds := hL.rows.length
  have lkok : ∀ v < lks.length, MT.LkOk v lks.length (lks.getD v []) := fun v hv => (hrow v hv).bnd
  intro tb htb
  refine ⟨_, rfl, upd_same, [(Sum.inl ((0 : Nat) : Int), ov)], rfl, by simp, ?_⟩
  have x1 : Ext H (upd (upd H tb (.dK [])) tb (.dK (mergeK [] [(Sum.inl ((0 : Nat) : Int), ov)]))) := (ext_upd htb).own htb
  have T1 : RowA A (upd (upd H tb (.dK [])) tb (.dK (mergeK [] [(Sum.inl ((0 : Nat) : Int), ov)]))) tb (MT.tabT A.S alone lks 0) := ⟨_, upd_same, .cons ⟨rfl, A.keep x1.kp ho⟩ .nil⟩
  have ntb : H tb = none := htb
  generalize upd (upd H tb (.dK [])) tb (.dK (mergeK [] [(Sum.inl ((0 : Nat) : Int), ov)])) = H1 at *
  refine ⟨_, rfl, l, _, H, rfl, x1, .inl (SqL.of hL.at'), fun J wJ => for_enum wJ (fun v σ H2 => (∃ tb y7 y8 y9 y10 y11 y13 y14, σ = [some (.ref l), some av, some zv, some ov, some (.ref fS), some (.ref fM), some (.ref tb), y7, y8, y9, y10, y11, none, y13, y14] ∧ H tb = none ∧ RowA A H2 tb (MT.tabT A.S alone lks v)) ∧ Ext H H2 ∧ ∀ p ∈ MT.tabT A.S alone lks v, A.Sz v (Xb v) p.2)
    ⟨⟨tb, none, none, none, none, none, none, none, rfl, ntb, T1⟩, x1, fun p hp => by
      rw [List.mem_singleton.mp hp]
      exact s3⟩ (fun v σ H2 _ h => h.2.1) (fun v x tt σ H2 hi hP htt => ?_) (fun σ H2 hP => ?_)⟩
  · obtain ⟨⟨tb, y7, y8, y9, y10, y11, y13, y14, rfl, ntb, kvs, htb, hkv⟩, e2, hsz⟩ := hP
    rw [List.getElem?_map] at hi
    obtain ⟨d, hd, rfl⟩ := Option.map_eq_some_iff.mp hi
    have hvd := (List.getElem?_eq_some_iff.mp hd).1
    have hv : v < lks.length := by omega
    have x3 := ext_upd (o := .tup [V.int (v : Int), .ref d]) htt
    have y3 : upd H2 tt (.tup [V.int (v : Int), .ref d]) tt = some (.tup [V.int (v : Int), .ref d]) := upd_same
    have e3 := e2.trans x3
    have htb3 := x3.keep _ _ htb (fun _ z => by cases z)
    have hkv3 := hkv.kp x3.kp
    refine ⟨tt, _, rfl, SqT.of y3, rfl, _, _, rfl, _, _, rfl, rfl, ?_⟩
    generalize upd H2 tt (.tup [V.int (v : Int), .ref d]) = H3 at *
    intro gr hgr
    have x4 := ext_upd (o := .dK []) hgr
    have ngr : H gr = none := e3.free hgr
    have ngt : tb ≠ gr := fun z => by rw [z, hgr] at htb3; cases htb3
    have htb4 := x4.keep _ _ htb3 (fun _ z => by cases z)
    have hkv4 := hkv3.kp x4.kp
    have hgr4 : upd H3 gr (.dK []) gr = some (.dK []) := upd_same
    have e4 := e3.trans x4
    dsimp only [gName]
    generalize upd H3 gr (.dK []) = H4 at *
    have hrv := hrow v hv
    obtain ⟨lk, hlk, kl, hdk, hkl⟩ := paired_at hL.rows hd
    have elk : lks.getD v [] = lk := by
      rw [List.getD_eq_getElem?_getD, hlk]
      rfl
    rw [elk] at hrv
    obtain ⟨hnd, _⟩ := MT.tab_dot A.S alone lks v (by omega)
    obtain ⟨hko, _⟩ := MT.tab_ok A.S (alone := alone) (n := lks.length) lkok v (by omega)
    have lT : (MT.tabT A.S alone lks v).length ≤ 65536 := by
      have h1 := key_len hnd (n := 2 ^ lks.length) fun k hk => (hko k hk).1
      have h2 : 2 ^ lks.length ≤ 2 ^ 16 := Nat.pow_le_pow_right (by decide) h16
      unfold MT.keysA at h1
      rw [List.length_map] at h1
      omega
    have lkv := hkv4.length
    have etab : MT.tabT A.S alone lks (v + 1) = (MT.tabT A.S alone lks v).foldl (fun g p => MT.fill A.S p.2 g (MT.chs A.S alone v p.1 lk)) [] := by
      show MT.stepT A.S alone v _ _ = _
      rw [elk]
      rfl
    generalize MT.tabT A.S alone lks v = Tv at *
    have lT2 : ∀ i, i ≤ Tv.length → ((Tv.take i).foldl (fun g p => MT.fill A.S p.2 g (MT.chs A.S alone v p.1 lk)) []).length ≤ i * 32 := fun i hi => by
      have h1 := fold_len (A := A) (alone := alone) (v := v) hrv.len (Tv.take i) []
      rw [List.length_nil, Nat.zero_add, List.length_take, Nat.min_eq_left hi] at h1
      exact h1
    refine ⟨tb, _, htb4, trivial, fun od => ?_⟩
    have x5 : Ext H (upd H4 tb (.frz od (.dK kvs))) := e4.own ntb
    refine ⟨_, rfl, tb, od, rfl, .inl ⟨kvs, upd_same, for_keysK (fun i σ H5 => (∃ z10 z11 z13 z14, σ = [some (.ref l), some av, some zv, some ov, some (.ref fS), some (.ref fM), some (.ref tb), some (.int (v : Int)), some (.ref d), some (.ref gr), z10, z11, none, z13, z14]) ∧ Ext H H5 ∧ H5 tb = some (.frz od (.dK kvs)) ∧ KvsA A H5 kvs Tv ∧ RowA A H5 gr ((Tv.take i).foldl (fun g p => MT.fill A.S p.2 g (MT.chs A.S alone v p.1 lk)) []) ∧ ∀ p ∈ (Tv.take i).foldl (fun g p => MT.fill A.S p.2 g (MT.chs A.S alone v p.1 lk)) [], A.Sz (v + 1) (i * 32 * (Xb v * 1024)) p.2)
      ⟨⟨_, _, _, _, rfl⟩, x5, upd_same, hkv4.kp (keep_upd htb4 ntp_dk), ⟨[], by rw [upd_ne ngt.symm]; exact hgr4, .nil⟩, fun p hp => by cases hp⟩ (fun i σ H5 _ h => h.2.2.1) (fun i k vv σ H5 hi hP => ?_) (fun σ H5 hP => ?_)⟩⟩
    · obtain ⟨⟨z10, z11, z13, z14, rfl⟩, e5, htb5, hkv5, hgr5, hsz5⟩ := hP
      obtain ⟨⟨m, xm⟩, hTi, hk1, hvx⟩ := paired_at hkv5 hi
      have hk1 : k = Sum.inl ((m : Nat) : Int) := hk1
      subst hk1
      have hvx : A.Val H5 vv xm := hvx
      have hTm := List.mem_of_getElem? hTi
      have hxz := hsz _ hTm
      have hxz : A.Sz v (Xb v) xm := hxz
      -- the choices
      refine ⟨fun σ H6 => ∃ ca cvs, σ = [some (.ref l), some av, some zv, some ov, some (.ref fS), some (.ref fM), some (.ref tb), some (.int (v : Int)), some (.ref d), some (.ref gr), some (.int ((m : Nat) : Int)), some (.ref ca), none, z13, z14] ∧ Ext H5 H6 ∧ H6 ca = some (.lst cvs) ∧ Paired (ChA A H6) cvs (MT.chs A.S alone v m lk), ?_, ?_⟩
      · refine ⟨_, rfl, _, rfl, _, _, rfl, rfl, by omega, _, _, rfl, rfl, _, rfl, ?_⟩
        rw [tbn]
        have so : (1 : Nat) ≤ sizeLine := sl_of (by decide)
        refine iteB (fun z => ?_) (fun z => ?_)
        · refine ⟨_, rfl, _, rfl, 1, (v : Int), rfl, rfl, ⟨by omega, by omega, by decide⟩, _, _, rfl, rfl, _, rfl, sl2, fun t1 ht1 => ⟨so, fun c hc => ?_⟩⟩
          have w1 := ext_upd (o := .tup [V.int (Builtin.bitXor ((m : Nat) : Int) (1 * 2 ^ ((v : Nat) : Int).toNat)), ov]) ht1
          have w2 := ext_upd (o := .lst [V.ref t1]) hc
          refine ⟨c, [.ref t1], rfl, w1.trans w2, upd_same, ?_⟩
          unfold MT.chs
          rw [if_pos z]
          refine .cons ⟨t1, ov, rfl, ?_, A.keep (e5.kp.trans (w1.trans w2).kp) ho⟩ .nil
          show _ = some (HO.tup [V.int ((m ^^^ 2 ^ v : Nat) : Int), ov])
          rw [← xor_n, ← pw1]
          exact w2.at upd_same
        · refine ⟨_, rfl, _, rfl, sl2, fun t1 ht1 => ⟨so, fun c hc => ?_⟩⟩
          have w1 := ext_upd (o := .tup [kV (Sum.inl ((m : Nat) : Int)), av]) ht1
          have w2 := ext_upd (o := .lst [V.ref t1]) hc
          have c1 : upd (upd H5 t1 (.tup [kV (Sum.inl ((m : Nat) : Int)), av])) c (.lst [V.ref t1]) c = some (.lst [V.ref t1]) := upd_same
          have c2 : upd (upd H5 t1 (.tup [kV (Sum.inl ((m : Nat) : Int)), av])) c (.lst [V.ref t1]) t1 = some (.tup [V.int ((m : Nat) : Int), av]) := w2.at (upd_same (H := H5) (a := t1) (o := .tup [V.int ((m : Nat) : Int), av]))
          have w := w1.trans w2
          have nc : H5 c = none := w1.free hc
          dsimp only [gName]
          generalize upd (upd H5 t1 (.tup [kV (Sum.inl ((m : Nat) : Int)), av])) c (.lst [V.ref t1]) = H6 at *
          have e6 := e5.trans w
          have hd6 := e6.keep _ _ hdk (fun _ z => by cases z)
          have hkl6 := hkl.kp e6.kp
          refine ⟨_, rfl, d, _, hd6, trivial, fun od2 => ?_⟩
          have kk := keep_upd (o := .frz od2 (.dK kl)) hd6 ntp_dk
          refine ⟨_, rfl, d, od2, rfl, .inl ⟨kl, upd_same, fun D hD => w_keysK (fun j H7 => Ext (upd H6 d (.frz od2 (.dK kl))) H7 ∧ ∃ ys, H7 D = some (.lst ys) ∧ Paired (ChA A H7) ys (((lk.take j).filter fun e => !m.testBit e.1).map fun e => (m ||| 2 ^ e.1, e.2))) ⟨ext_upd hD, [], upd_same, .nil⟩ (fun j H7 _ h => h.1.keep _ _ upd_same (fun _ z => by cases z)) (fun j k2 v2 H7 hj hP => ?_) (fun H7 hP => ?_)⟩⟩
          · obtain ⟨s7, ys, hys, hp7⟩ := hP
            obtain ⟨⟨o2, w2⟩, hlo, hk2, hv2⟩ := paired_at hkl hj
            have hk2 : k2 = Sum.inl ((o2 : Nat) : Int) := hk2
            subst hk2
            have hlo2 := hrv.bnd _ (List.mem_of_getElem? hlo)
            have h02 : o2 < lks.length := hlo2.2
            refine ⟨rfl, _, rfl, _, rfl, _, _, rfl, rfl, by omega, _, _, rfl, rfl, _, rfl, ?_⟩
            rw [tbn, take_snoc hlo, List.filter_append]
            have hd7 := s7.keep _ _ upd_same (fun _ z => by cases z)
            refine iteB (fun z2 => ?_) (fun z2 => ?_)
            · refine ⟨_, rfl, _, rfl, 1, (o2 : Int), rfl, rfl, ⟨by omega, by omega, by decide⟩, _, _, rfl, rfl, _, rfl, _, rfl, d, v2, rfl, .inl ⟨kl, Sum.inl ((o2 : Nat) : Int), .inr ⟨od2, hd7⟩, rfl, (kvs_at hkl hrv.nd hj).symm⟩, sl2, fun t3 ht3 => ?_⟩
              have u1 := ext_upd (o := .tup [V.int (Builtin.bitOr ((m : Nat) : Int) (1 * 2 ^ ((o2 : Nat) : Int).toNat)), v2]) ht3
              have u2 : upd H7 t3 (.tup [V.int (Builtin.bitOr ((m : Nat) : Int) (1 * 2 ^ ((o2 : Nat) : Int).toNat)), v2]) t3 = some (.tup [V.int ((m ||| 2 ^ o2 : Nat) : Int), v2]) := by rw [upd_same, pw1, or_n]
              have hys7 := u1.lst hys
              have hp8 := chA_kp u1.kp hp7
              have hv7 : A.Val (upd H7 t3 (.tup [V.int (Builtin.bitOr ((m : Nat) : Int) (1 * 2 ^ ((o2 : Nat) : Int).toNat)), v2])) v2 w2 := A.keep (((e6.kp.trans kk).trans s7.kp).trans u1.kp) hv2
              refine ⟨ys, hys7, ?_, (s7.trans u1).own hD, ys ++ [.ref t3], upd_same, ?_⟩
              · have l1 := hp7.length
                rw [List.length_map] at l1
                have l2 := List.length_filter_le (fun e : Nat × α => !m.testBit e.1) (lk.take j)
                rw [List.length_take] at l2
                have := hrv.len
                exact sl_lt (by omega)
              · rw [List.filter_cons_of_pos (p := fun e : Nat × α => !m.testBit e.1) (a := (o2, w2)) z2, List.filter_nil, List.map_append]
                exact chA_kp (keep_upd hys7 ntp_lst) (paired_snoc hp8 ⟨t3, v2, rfl, u2, hv7⟩)
            · refine ⟨s7, ys, hys, ?_⟩
              rw [List.filter_cons_of_neg (p := fun e : Nat × α => !m.testBit e.1) (a := (o2, w2)) (by dsimp only; rw [z2]; decide), List.filter_nil, List.append_nil]
              exact hp7
          · obtain ⟨s7, ys, hys, hp7⟩ := hP
            have hd7 := s7.keep _ _ upd_same (fun _ z => by cases z)
            have e7 := ext_unlock hd6 (fun _ z => by cases z) s7
            have nDd : D ≠ d := fun z => by rw [z, upd_same] at hD; cases hD
            have hys8 : upd H7 d (.dK kl) D = some (.lst ys) := by rw [upd_ne nDd]; exact hys
            have hc8 := e7.lst c1
            rw [hkl.length, List.take_length] at hp7
            have hp8 := chA_kp (keep_upd (o := .dK kl) hd7 ntp_frk) hp7
            have l1 := hp7.length
            rw [List.length_map] at l1
            have l2 := List.length_filter_le (fun e : Nat × α => !m.testBit e.1) lk
            have := hrv.len
            refine ⟨hd7, c, D, _, _, rfl, rfl, hc8, hys8, sl_of (by simp; omega), c, _, rfl, (w.trans e7).own nc, upd_same, ?_⟩
            have c3 := e7.at c2
            unfold MT.chs
            rw [if_neg (by rw [z]; decide)]
            exact chA_kp (keep_upd hc8 ntp_lst) (.cons ⟨t1, av, rfl, c3, A.keep (e6.trans e7).kp ha⟩ hp8)
      rintro σ H6 ⟨ca, cvs, rfl, e6, hca, hcs⟩
      have htb6 := e6.keep _ _ htb5 (fun _ z => by cases z)
      have hkv6 := hkv5.kp e6.kp
      have hvx6 := A.keep e6.kp hvx
      have hgr6 : RowA A H6 gr ((Tv.take i).foldl (fun g p => MT.fill A.S p.2 g (MT.chs A.S alone v p.1 lk)) []) := by
        obtain ⟨k, a, b⟩ := hgr5
        exact ⟨k, e6.keep _ _ a (fun _ z => by cases z), b.kp e6.kp⟩
      have e06 := e5.trans e6
      have hil := (List.getElem?_eq_some_iff.mp hTi).1
      have csz := chs_sz (A := A) (alone := alone) (v := v) (m := m) s2 s1 hrv.sz
      have cl := MT.chs_len A.S alone v m lk
      have lkl := hrv.len
      have lcs := hcs.length
      generalize hg0 : (Tv.take i).foldl (fun g p => MT.fill A.S p.2 g (MT.chs A.S alone v p.1 lk)) [] = g0 at *
      have efold : (Tv.take (i + 1)).foldl (fun g p => MT.fill A.S p.2 g (MT.chs A.S alone v p.1 lk)) [] = MT.fill A.S xm g0 (MT.chs A.S alone v m lk) := by
        rw [take_snoc hTi, List.foldl_append, hg0]
        rfl
      generalize MT.chs A.S alone v m lk = cs at *
      have lg0 : g0.length ≤ i * 32 := by
        rw [← hg0]
        exact lT2 i (by omega)
      refine ⟨_, rfl, ca, rfl, ⟨_, SqL.of hca⟩, for_list (xs := cvs) (fun j σ H7 => (∃ w13 w14, σ = [some (.ref l), some av, some zv, some ov, some (.ref fS), some (.ref fM), some (.ref tb), some (.int (v : Int)), some (.ref d), some (.ref gr), some (.int ((m : Nat) : Int)), some (.ref ca), none, w13, w14]) ∧ Ext H H7 ∧ H7 ca = some (.lst cvs) ∧ Paired (ChA A H7) cvs cs ∧ H7 tb = some (.frz od (.dK kvs)) ∧ KvsA A H7 kvs Tv ∧ RowA A H7 gr (MT.fill A.S xm g0 (cs.take j)))
        ⟨⟨_, _, rfl⟩, e06, hca, hcs, htb6, hkv6, hgr6⟩ (fun j σ H7 _ h => SqL.of h.2.2.1) (fun j x σ H7 hj hP => ?_) (fun σ H7 hP => ?_)⟩
      · obtain ⟨⟨w13, w14, rfl⟩, e7, hca7, hcs7, htb7, hkv7, kg, hgr7, hkg7⟩ := hP
        obtain ⟨⟨mk, f⟩, hcj, a1, wv, rfl, ha1, hwv⟩ := paired_at hcs7 hj
        have ha1 : H7 a1 = some (.tup [.int ((mk : Nat) : Int), wv]) := ha1
        have hwv : A.Val H7 wv f := hwv
        have hfz : A.Sz 1 1024 f := csz _ (List.mem_of_getElem? hcj)
        have hjl := (List.getElem?_eq_some_iff.mp hcj).1
        obtain ⟨_, hTi7, _, hvx7⟩ := paired_at hkv7 hi
        rw [hTi] at hTi7
        cases hTi7
        have hvx7 : A.Val H7 vv xm := hvx7
        have gz := fill_sz (A := A) hxz (cs.take j) g0 (i * 32) (fun e m => csz e (List.mem_of_mem_take m)) hsz5
        have lf := fill_len (A := A) xm (cs.take j) g0
        have lt : (cs.take j).length = j := by rw [List.length_take]; omega
        rw [lt] at gz lf
        have bnd := sz_bnd (c := i * 32 + j + 1) (v := v) (by omega) (by omega)
        refine ⟨a1, _, rfl, SqT.of ha1, rfl, _, _, rfl, _, _, rfl, rfl, ?_⟩
        refine ⟨rfl, _, rfl, gr, rfl, .inl ⟨_, .inl hgr7⟩, _, rfl, _, rfl, _, DGet.k (k := Sum.inl ((mk : Nat) : Int)) hgr7, rfl, _, rfl, _, rfl, tb, vv, rfl, .inl ⟨kvs, Sum.inl ((m : Nat) : Int), .inr ⟨od, htb7⟩, rfl, (kvs_at hkv7 hnd hi).symm⟩, _, rfl, vv, wv, xm, f, v, Xb v, 1024, rfl, hvx7, hwv, hxz, hfz, by omega, ?_, Nat.le_trans (by decide : 1024 ≤ 2 ^ 10) (Nat.pow_le_pow_right (by decide) (by decide)), hG e7 g, fun pv H8 s8 hpv => ?_⟩
        · exact Nat.pow_le_pow_right (by decide) (by omega)
        have hz8 := A.keep (e7.trans s8).kp hz
        refine ⟨_, pv, _, _, v + 1, (i * 32 + j) * (Xb v * 1024), Xb v * 1024, rfl, kvs_get hz8 mk (hkg7.kp s8.kp), hpv, get_sz gz, A.sz_mul hxz hfz, by omega, ?_, hG (e7.trans s8) g, fun nv H9 s9 hnv => ?_⟩
        · rw [← Nat.succ_mul]
          exact bnd.1
        have s79 := s8.trans s9
        have hgr9 := s79.keep _ _ hgr7 (fun _ z => by cases z)
        have kpu : Keep H9 (upd H9 gr (.dK (putK kg (Sum.inl ((mk : Nat) : Int)) nv))) := keep_upd hgr9 ntp_dk
        have ngc : ca ≠ gr := fun z => by rw [z, hgr7] at hca7; cases hca7
        refine ⟨_, rfl, _, rfl, gr, _, rfl, DPut.k (k := Sum.inl ((mk : Nat) : Int)) hgr9 ?_, ⟨_, _, rfl⟩, (e7.trans s79).own ngr, ?_, ?_, ?_, ?_, ?_⟩
        · rw [hkg7.length, sizeLine_eq]
          omega
        · rw [upd_ne ngc]
          exact s79.lst hca7
        · exact chA_kp (s79.kp.trans kpu) hcs7
        · rw [upd_ne ngt]
          exact s79.keep _ _ htb7 (fun _ z => by cases z)
        · exact hkv7.kp (s79.kp.trans kpu)
        · refine ⟨_, upd_same, ?_⟩
          have ef : MT.fill A.S xm g0 (cs.take (j + 1)) = MT.addA A.S (MT.fill A.S xm g0 (cs.take j)) mk (A.S.mul xm f) := by
            rw [take_snoc hcj]
            unfold MT.fill
            rw [List.foldl_append]
            rfl
          rw [ef]
          exact kvs_put (A.keep kpu hnv) (hkg7.kp (s79.kp.trans kpu))
      · obtain ⟨⟨w13, w14, rfl⟩, e7, hca7, hcs7, htb7, hkv7, hgr7⟩ := hP
        rw [lcs, List.take_length] at hgr7
        refine ⟨⟨_, _, _, _, rfl⟩, e7, htb7, hkv7, by rw [efold]; exact hgr7, fun p hp => ?_⟩
        rw [efold] at hp
        have gz := fill_sz (A := A) hxz cs g0 (i * 32) csz hsz5 p hp
        refine A.sz_le (Nat.mul_le_mul_right _ ?_) gz
        omega
    · obtain ⟨⟨z10, z11, z13, z14, rfl⟩, e5, htb5, hkv5, hgr5, hsz5⟩ := hP
      rw [lkv, List.take_length] at hgr5 hsz5
      rw [← etab] at hgr5 hsz5
      refine ⟨htb5, _, rfl, ⟨gr, _, _, _, _, _, _, _, rfl, ngr, ?_⟩, e5.own ntb, fun p hp => ?_⟩
      · obtain ⟨k, a, b⟩ := hgr5
        exact ⟨k, by rw [upd_ne ngt.symm]; exact a, b.kp (keep_upd htb5 ntp_frk)⟩
      · refine A.sz_le ?_ (hsz5 p hp)
        exact (sz_bnd (c := Tv.length * 32) (v := v) (by omega) (by omega)).2
  · obtain ⟨⟨tb, y7, y8, y9, y10, y11, y13, y14, rfl, ntb, kvs, htb, hkv⟩, e2, hsz⟩ := hP
    rw [List.length_map, hds, MT.tab_last A.S lkok] at hkv
    cases hkv with
    | cons h1 t =>
      cases t
      rename_i kv
      obtain ⟨k, v⟩ := kv
      obtain ⟨hk, hv⟩ := h1
      have hk : k = Sum.inl ((0 : Nat) : Int) := hk
      subst hk
      refine ⟨_, rfl, tb, v, rfl, ?_, q v _ e2 hv⟩
      have := DGet.k (k := Sum.inl ((0 : Nat) : Int)) htb
      rw [valV_pos rfl] at this
      exact this
end
/-! ### fractions as numbers -/
def ratS : MT.Sr Rat where
  add a b := a + b
  mul a b := a * b
  zero := 0
  one := 1
  add_comm := Rat.add_comm
  add_assoc := Rat.add_assoc
  add_zero := Rat.add_zero
  mul_assoc := Rat.mul_assoc
  mul_comm := Rat.mul_comm
  mul_add := Rat.mul_add
  mul_zero := Rat.mul_zero
  mul_one := Rat.mul_one
def frA (K : PySem.W.Frag) : Ar K Rat where
  S := ratS
  Val H v r := FrV K H v r
  keep := fun s ⟨a, e, g⟩ => ⟨a, e, s.tup g⟩
  Sz i X r := SM.Iz (12 ^ i) X r
  sz_le := fun h k => k.le h
  sz_add := fun h k => h.add k
  sz_mul := fun h k => by
    have := h.mul k
    rw [Nat.pow_one] at this
    rw [Nat.pow_succ]
    exact this
  sz_zero := fun i => SM.Iz.zero
def NoG (_ : Hp) : Prop := True
theorem p12 {i : Nat} (h : i ≤ 20) : 12 ^ i < 2 ^ 1900 := Nat.lt_of_le_of_lt (Nat.pow_le_pow_left (show 12 ≤ 2 ^ 4 by decide) i) (by rw [← Nat.pow_mul]; exact Nat.pow_lt_pow_right (by decide) (by omega))
theorem p12_ne (i : Nat) : 12 ^ i ≠ 0 := Nat.ne_of_gt (Nat.pow_pos (by decide))
theorem sm_iz {i X : Nat} {r : Rat} (h : SM.Iz (12 ^ i) X r) (hi : i ≤ 20) (hX : X ≤ 2 ^ 1000) : Sm r := SM.sm_of h (p12_ne i) (p12 hi) (Nat.lt_of_le_of_lt hX (Nat.pow_lt_pow_right (by decide) (by decide)))
theorem okS_add (T : Top K mg) : FnOk P w K mg base CX0 4 T.f_add T.d_add ["a", "b"] (spA (frA K) NoG) := ((ok_add T).mono (by decide)).imp fun vs H Q E ⟨v1, v2, x, y, i, X, Y, e, ⟨a, e1, hx⟩, ⟨b, e2, hy⟩, s1, s2, hi, hb, _, q⟩ => by
  subst e e1 e2
  refine ⟨a, b, fq x, fq y, rfl, hx, hy, okA_of (sm_iz s1 hi (by omega)) (sm_iz s2 hi (by omega)), fun p H' s _ hp => q _ H' s.ext ⟨p, rfl, ?_⟩⟩
  rw [SM.addF_fq] at hp
  exact SqT.of hp
theorem okM_mul (T : Top K mg) : FnOk P w K mg base CX0 4 T.f_multiply T.d_multiply ["a", "b"] (spM (frA K) NoG) := ((ok_multiply T).mono (by decide)).imp fun vs H Q E ⟨v1, v2, x, y, i, X, Y, e, ⟨a, e1, hx⟩, ⟨b, e2, hy⟩, s1, s2, hi, hX, hY, _, q⟩ => by
  subst e e1 e2
  refine ⟨a, b, fq x, fq y, rfl, hx, hy, okA_of (sm_iz s1 hi hX) (sm_iz s2 (by decide) hY), fun p H' s _ hp => q _ H' s.ext ⟨p, rfl, ?_⟩⟩
  rw [SM.mulF_fq] at hp
  exact SqT.of hp
/-! ### the check -/
def EdI (K : PySem.W.Frag) (H : Hp) (v : V) (e : Int × Int) : Prop := ∃ a wv, v = .ref a ∧ SqT K H a [.int e.1, .int e.2, wv]
def inB (n : Int) (e : Int × Int) : Prop := 0 ≤ e.1 ∧ e.1 < n ∧ 0 ≤ e.2 ∧ e.2 < n
instance (n : Int) (e : Int × Int) : Decidable (inB n e) := inferInstanceAs (Decidable (_ ∧ _ ∧ _ ∧ _))
def spCheck (T : Top K mg) : Sp := fun vs H Q E => ∃ (n : Int) (ea : Addr) (xs : List V) (us : List (Int × Int)), vs = [.int n, .ref ea] ∧ SqL K H ea xs ∧ Paired (EdI K H) xs us ∧
  ((∀ e ∈ us, inB n e) → n ≤ 16 → Q .non H) ∧ (¬ (∀ e ∈ us, inB n e) → E (.ref T.f_InvalidWeight) none H) ∧ ((∀ e ∈ us, inB n e) → 16 < n → E (.ref T.f_TooLarge) none H)
theorem ok_check_graph (T : Top K mg) : FnOk P w K mg base (L2.CX P w) 1 T.f_check_graph T.d_check_graph ["count", "edges"] (spCheck T) := by
  refine T.F_check_graph.okX sc_check_graph (fun vs H Q E h => ?_) (fun cdv A outer s H vs Q E hr h => ?_)
  · obtain ⟨n, ea, xs, us, rfl, _⟩ := h
    rfl
  obtain ⟨n, ea, xs, us, rfl, he, hes, q1, q2, q3⟩ := h
  refine ⟨_, (pss_cons (ps_for (passes_of rfl) rfl (pi_list (pv 1)) (pg_tup rfl (pgs_cons (pg_name (i := 2) sc_check_graph.nd rfl (by first | exact .inl rfl | exact .inr rfl)) (pgs_cons (pg_name (i := 3) sc_check_graph.nd rfl (by first | exact .inl rfl | exact .inr rfl)) (pgs_cons (pg_name (i := 4) sc_check_graph.nd rfl (by first | exact .inl rfl | exact .inr rfl)) pgs_nil)))) (pss_one (ps_if (pt_not (PW.pt (pw_and (pt_chain op_le op_lt pe_int (pv 2) (pv 0)) (pw_and1 (pt_chain op_le op_lt pe_int (pv 3) (pv 0)))))) (pss_one (ps_raise rfl (takes_of rfl rfl rfl rfl) (pmk_own PySem.F.excBase_ValueError T.q_InvalidWeight T.g_InvalidWeight T.k_InvalidWeight (raises_own T.b_InvalidWeight T.y_InvalidWeight) (by rfl)))) pss_nil)))
      (pss_one (ps_if (pt_cmpR op_gt (pv 0) (pe_glob (v := .int 16) (by rfl) T.g_MOST_VERTICES ⟨_, rfl⟩) (nomark _)) (pss_one (ps_raise rfl (takes_of rfl rfl rfl rfl) (pmk_own PySem.F.excBase_ValueError T.q_TooLarge T.g_TooLarge T.k_TooLarge (raises_own T.b_TooLarge T.y_TooLarge) (by rfl)))) pss_nil))), ?_⟩
  have lx := hes.length
  refine ⟨_, rfl, ea, rfl, ⟨_, he⟩, for_list (xs := xs) (fun i σ H3 => H3 = H ∧ (∃ y2 y3 y4, σ = [some (.int n), some (.ref ea), y2, y3, y4]) ∧ ∀ e ∈ us.take i, inB n e) ⟨rfl, ⟨none, none, none, rfl⟩, fun e h => by simp at h⟩ (fun i σ H3 _ h => by rw [h.1]; exact he) (fun i x σ H3 hi hP => ?_) (fun σ H3 hP => ?_)⟩
  · obtain ⟨rfl, ⟨y2, y3, y4, rfl⟩, hin⟩ := hP
    obtain ⟨⟨u, v⟩, hui, a, wv, rfl, ha⟩ := paired_at hes hi
    refine ⟨a, _, rfl, ha, rfl, _, _, rfl, _, _, rfl, _, _, rfl, rfl, ?_⟩
    have step : inB n (u, v) → ∀ e ∈ us.take (i + 1), inB n e := fun hb e me => by
      rw [take_snoc hui] at me
      rcases List.mem_append.mp me with me | me
      · exact hin e me
      · rw [List.mem_singleton.mp me]
        exact hb
    have bad : ¬ inB n (u, v) → ¬ ∀ e ∈ us, inB n e := fun hb h => hb (h _ (List.mem_of_getElem? hui))
    refine ⟨_, rfl, _, _, rfl, rfl, _, rfl, ite2 (fun b1 => ?_) (fun b1 => ?_)⟩
    · have b1 : 0 ≤ u := of_decide_eq_true b1
      refine ⟨_, rfl, _, _, rfl, rfl, _, rfl, ?_⟩
      by_cases b2 : u < n
      · rw [decide_eq_true b2]
        refine iteT ⟨_, rfl, _, _, rfl, rfl, _, rfl, ite2 (fun b3 => ?_) (fun b3 => ?_)⟩
        · have b3 : 0 ≤ v := of_decide_eq_true b3
          refine ⟨_, rfl, _, _, rfl, rfl, _, rfl, ?_⟩
          by_cases b4 : v < n
          · rw [decide_eq_true b4]
            exact iteF ⟨rfl, ⟨_, _, _, rfl⟩, step ⟨b1, b2, b3, b4⟩⟩
          · rw [decide_eq_false b4]
            exact iteT (q2 (bad fun z => b4 z.2.2.2))
        · have b3 : ¬ 0 ≤ v := fun z => b3 (decide_eq_true z)
          exact ⟨_, rfl, iteT (q2 (bad fun z => b3 z.2.2.1))⟩
      · rw [decide_eq_false b2]
        exact iteF (iteT (q2 (bad fun z => b2 z.2.1)))
    · have b1 : ¬ 0 ≤ u := fun z => b1 (decide_eq_true z)
      exact ⟨_, rfl, iteF (iteT (q2 (bad fun z => b1 z.1)))⟩
  · obtain ⟨rfl, ⟨y2, y3, y4, rfl⟩, hin⟩ := hP
    rw [lx, List.take_length] at hin
    refine ⟨_, rfl, _, _, rfl, rfl, _, rfl, iteB (fun z => ?_) (fun z => ?_)⟩
    · exact q3 hin (of_decide_eq_true z)
    · exact q1 hin (by have := of_decide_eq_false z; omega)
/-! ### matching_sum -/
abbrev EgR : Type := Int × Int × Rat
def EdR (K : PySem.W.Frag) (H : Hp) (v : V) (e : EgR) : Prop := ∃ a wv, v = .ref a ∧ SqT K H a [.int e.1, .int e.2.1, wv] ∧ FrV K H wv e.2.2
def toN (e : EgR) : Nat × Nat × Rat := (e.1.toNat, e.2.1.toNat, e.2.2)
def goodR (n : Int) (es : List EgR) : Prop := ∀ e ∈ es, inB n (e.1, e.2.1)
instance (n : Int) (es : List EgR) : Decidable (goodR n es) := inferInstanceAs (Decidable (∀ e ∈ es, _))
/-- what the program tells: its table, from behind -/
def sumR (n : Nat) (es : List EgR) : Rat := MT.Fr ratS 0 (MT.lnS ratS n (es.map toN)) 0 0
def spMS (T : Top K mg) : Sp := fun vs H Q E => ∃ (n : Nat) (ea : Addr) (xs : List V) (es : List EgR), vs = [.int (n : Int), .ref ea] ∧ SqL K H ea xs ∧ Paired (EdR K H) xs es ∧ es.length ≤ 24 ∧ (∀ e ∈ es, SM.Iz 12 36 e.2.2) ∧
  (goodR n es → n ≤ 16 → ∀ v H', Ext H H' → FrV K H' v (sumR n es) → Q v H') ∧ (¬ goodR n es → E (.ref T.f_InvalidWeight) none H) ∧ (goodR n es → 16 < n → E (.ref T.f_TooLarge) none H)
theorem edr_up {H H' : Hp} (s : Ext H H') {xs : List V} {es : List EgR} (h : Paired (EdR K H) xs es) : Paired (EdR K H') xs es := paired_imp (fun _ _ ⟨a, wv, e, g, b, k1, k2⟩ => ⟨a, wv, e, s.tup g, b, k1, s.tup k2⟩) h
theorem edr_i {H : Hp} {xs : List V} {es : List EgR} (h : Paired (EdR K H) xs es) : Paired (EdI K H) xs (es.map fun e => (e.1, e.2.1)) := by
  induction h with
  | nil => exact .nil
  | cons h t ih =>
    obtain ⟨a, wv, e, g, _⟩ := h
    exact .cons ⟨a, wv, e, g⟩ ih
theorem edr_w {n : Int} {H : Hp} {xs : List V} {es : List EgR} (h : Paired (EdR K H) xs es) (hg : goodR n es) : Paired (EdW (frA K) H) xs (es.map toN) := by
  induction h with
  | nil => exact .nil
  | cons h t ih =>
    rename_i v e vs es
    obtain ⟨a, wv, ea, g, k⟩ := h
    obtain ⟨a1, a2, a3, a4⟩ := hg e (List.mem_cons_self ..)
    refine .cons ⟨a, wv, ea, ?_, k⟩ (ih fun f m => hg f (List.mem_cons_of_mem _ m))
    have a1 : 0 ≤ e.1 := a1
    have a3 : 0 ≤ e.2.1 := a3
    show SqT K H a [.int ((e.1.toNat : Nat) : Int), .int ((e.2.1.toNat : Nat) : Int), wv]
    rw [Int.toNat_of_nonneg a1, Int.toNat_of_nonneg a3]
    exact g
theorem edw_up {H H' : Hp} (s : Ext H H') {xs : List V} {es : List (Nat × Nat × Rat)} (h : Paired (EdW (frA K) H) xs es) : Paired (EdW (frA K) H') xs es := paired_imp (fun _ _ ⟨a, wv, e, g, k⟩ => ⟨a, wv, e, s.tup g, (frA K).keep s.kp k⟩) h
theorem iz_nat {k i X : Nat} (h : k * 12 ^ i ≤ X) : SM.Iz (12 ^ i) X (k : Rat) := by
  have := ((SM.Iz.nat k).up (12 ^ i))
  rw [Nat.one_mul] at this
  exact this.le h
theorem ok_matching_sum (T : Top K mg) : FnOk P w K mg base (L2.CX P w) 6 T.f_matching_sum T.d_matching_sum ["count", "edges"] (spMS T) := by
  refine T.F_matching_sum.okX sc_matching_sum (fun vs H Q E h => ?_) (fun cdv A outer s H vs Q E hr h => ?_)
  · obtain ⟨n, ea, xs, es, rfl, _⟩ := h
    rfl
  obtain ⟨n, ea, xs, es, rfl, he, hes, h24, hiz, q1, q2, q3⟩ := h
  refine ⟨_, (pss_cons (ps_expr (pe_call (ok_check_graph T) (hr.mono (by decide)) (by rfl) T.g_check_graph T.F_check_graph.kp T.b_check_graph .nil (passes_call (takes_of rfl rfl rfl rfl) (fun _ _ _ _ h => h)) (pa_cons (pv 0) (pa_cons (pv 1) pa_nil))))
      (pss_cons (ps_set (i := 2) sc_matching_sum.nd rfl (by first | exact .inl rfl | exact .inr rfl) (pe_call (ok_links (frA K) NoG T (fun _ _ => True.intro) (okS_add T) T.F_add.kp T.b_add) (hr.mono (by decide)) (by rfl) T.g_links T.F_links.kp T.b_links .nil pass0 (pa_cons (pv 0) (pa_cons (pv 1) (pa_cons (pe_tup (pa_cons pe_int (pa_cons pe_int pa_nil))) (pa_cons (pe_glob (v := .ref T.f_add) (by rfl) T.g_add rfl) pa_nil))))))
      (pss_one (ps_ret (pe_call (ok_sum_over_matchings (frA K) NoG T (fun _ _ => True.intro) (okS_add T) T.F_add.kp T.b_add (okM_mul T) T.F_multiply.kp T.b_multiply) (hr.mono (by decide)) (by rfl) T.g_sum_over_matchings T.F_sum_over_matchings.kp T.b_sum_over_matchings .nil pass0 (pa_cons (pv 2) (pa_cons (pe_tup (pa_cons pe_int (pa_cons pe_int pa_nil))) (pa_cons (pe_tup (pa_cons pe_int (pa_cons pe_int pa_nil))) (pa_cons (pe_tup (pa_cons pe_int (pa_cons pe_int pa_nil))) (pa_cons (pe_glob (v := .ref T.f_add) (by rfl) T.g_add rfl) (pa_cons (pe_glob (v := .ref T.f_multiply) (by rfl) T.g_multiply rfl) pa_nil))))))))))), ?_⟩
  have hall : (∀ e ∈ es.map (fun e => (e.1, e.2.1)), inB (n : Int) e) ↔ goodR n es := ⟨fun h e m => h _ (List.mem_map.mpr ⟨e, m, rfl⟩), fun h e m => by
    obtain ⟨f, mf, rfl⟩ := List.mem_map.mp m
    exact h f mf⟩
  refine ⟨_, rfl, _, rfl, (n : Int), ea, xs, _, rfl, he, edr_i hes, fun hg hn => ?_, fun z => q2 fun g => z (hall.mpr g), fun g z => q3 (hall.mp g) (by omega)⟩
  have hg := hall.mp hg
  have hn : n ≤ 16 := by omega
  have hW := edr_w hes hg
  have hsz : ∀ e ∈ es.map toN, e.1 < n ∧ e.2.1 < n ∧ (frA K).Sz 1 36 e.2.2 := fun e m => by
    obtain ⟨f, mf, rfl⟩ := List.mem_map.mp m
    obtain ⟨a1, a2, a3, a4⟩ := hg f mf
    have a1 : 0 ≤ f.1 := a1
    have a2 : f.1 < n := a2
    have a3 : 0 ≤ f.2.1 := a3
    have a4 : f.2.1 < n := a4
    exact ⟨by show f.1.toNat < n; omega, by show f.2.1.toNat < n; omega, hiz f mf⟩
  refine ⟨_, rfl, _, rfl, sl2, fun z hz => ?_⟩
  have x4 := ext_upd (o := .tup [.int 0, .int 1]) hz
  have g4 : upd H z (.tup [.int 0, .int 1]) z = some (.tup [.int 0, .int 1]) := upd_same
  generalize upd H z (.tup [.int 0, .int 1]) = H4 at *
  refine ⟨n, ea, xs, es.map toN, _, rfl, x4.seq he, edw_up x4 hW, hsz, by rw [List.length_map]; exact h24, by omega, ⟨z, rfl, SqT.of g4⟩, True.intro, fun l ds H5 x5 nl L => ?_⟩
  dsimp only [gName]
  refine ⟨_, rfl, sl2, fun z1 hz1 => ⟨sl2, fun z2 hz2 => ⟨sl2, fun z3 hz3 => ?_⟩⟩⟩
  have y1 := ext_upd (o := .tup [.int 0, .int 1]) hz1
  have k1 : upd H5 z1 (.tup [.int 0, .int 1]) z1 = some (.tup [.int 0, .int 1]) := upd_same
  generalize upd H5 z1 (.tup [.int 0, .int 1]) = J1 at *
  have y2 := ext_upd (o := .tup [.int 0, .int 1]) hz2
  have k2 : upd J1 z2 (.tup [.int 0, .int 1]) z2 = some (.tup [.int 0, .int 1]) := upd_same
  generalize upd J1 z2 (.tup [.int 0, .int 1]) = J2 at *
  have y3 := ext_upd (o := .tup [.int 1, .int 1]) hz3
  have k3 : upd J2 z3 (.tup [.int 1, .int 1]) z3 = some (.tup [.int 1, .int 1]) := upd_same
  show spSumM (frA K) NoG T.f_add T.f_multiply [.ref l, .ref z1, .ref z2, .ref z3, .ref T.f_add, .ref T.f_multiply] (upd J2 z3 (.tup [.int 1, .int 1])) Q E0
  generalize upd J2 z3 (.tup [.int 1, .int 1]) = J3 at *
  have ll := linkS_len (A := frA K) n (es.map toN)
  have lok := linkS_ok (A := frA K) (count := n) (Y := 36) _ _ rfl hsz
  rw [List.length_map] at lok
  refine ⟨l, _, _, _, ds, _, (0 : Rat), rfl, L.up ((y1.trans y2).trans y3), fun v hv => ?_, by rw [ll]; exact hn, ⟨z1, rfl, SqT.of ((y2.trans y3).keep _ _ k1 (fun _ z => by cases z))⟩, ⟨z2, rfl, SqT.of (y3.keep _ _ k2 (fun _ z => by cases z))⟩, ⟨z3, rfl, SqT.of k3⟩, SM.Iz.zero.le (Nat.zero_le _), iz_nat (k := 1) (i := 1) (by decide), iz_nat (k := 1) (i := 0) (by decide), True.intro, fun v H7 x7 hv => q1 hg hn v H7 (((x4.trans x5).trans ((y1.trans y2).trans y3)).trans x7) hv⟩
  rw [ll] at hv ⊢
  have h := lok v hv
  exact ⟨h.bnd, h.nd, fun p hp => (frA K).sz_le (by omega) (h.sz p hp), by have := h.len; omega⟩
open K04
theorem ok_law_add (T : Top K mg) : FnOk P w K mg base CX0 3 T.f_law_add T.d_law_add ["p", "q"] (spOp2 K okA addF) := by
  refine T.F_law_add.ok sc_law_add (fun vs H Q E h => ?_) (fun cdv A outer s H vs Q E hr h => ?_)
  · obtain ⟨a, b, p, q, rfl, _⟩ := h
    rfl
  · obtain ⟨a, b, p, q, rfl, hp, hq, ⟨m1, m2, m3, m4, n1, n2⟩, k⟩ := h
    refine ⟨_, (pss_one (ps_ret (pe_call (ok_law_frac T) (hr.mono (by decide)) (by rfl) T.g_law_frac T.F_law_frac.kp T.b_law_frac .nil pass0 (pa_cons (pe_op op_add (pe_op op_mulW (pe_ix ix_tup (pv 0) pe_int (fun _ _ => rfl)) (pe_ix ix_tup (pv 1) pe_int (fun _ _ => rfl))) (pe_op op_mulW (pe_ix ix_tup (pv 1) pe_int (fun _ _ => rfl)) (pe_ix ix_tup (pv 0) pe_int (fun _ _ => rfl)))) (pa_cons (pe_op op_mulW (pe_ix ix_tup (pv 0) pe_int (fun _ _ => rfl)) (pe_ix ix_tup (pv 1) pe_int (fun _ _ => rfl))) pa_nil))))), ?_⟩
    refine ⟨_, rfl, a, _, _, _, rfl, rfl, hp, atI_nat (j := 0) rfl, _, rfl, b, _, _, _, rfl, rfl, hq, atI_nat (j := 1) rfl, _, _, rfl, rfl, mid_mul m1 m4, ?_⟩
    refine ⟨_, rfl, b, _, _, _, rfl, rfl, hq, atI_nat (j := 0) rfl, _, rfl, a, _, _, _, rfl, rfl, hp, atI_nat (j := 1) rfl, _, _, rfl, rfl, mid_mul m3 m2, ?_⟩
    refine ⟨_, _, rfl, rfl, ?_⟩
    refine ⟨_, rfl, a, _, _, _, rfl, rfl, hp, atI_nat (j := 1) rfl, _, rfl, b, _, _, _, rfl, rfl, hq, atI_nat (j := 1) rfl, _, _, rfl, rfl, mid_mul m2 m4, ?_⟩
    exact ⟨_, _, rfl, Int.mul_ne_zero n1 n2, mid_small m2 m4, k⟩
/-- the law's weights -/
def wNum (j : Int) : Int := if j = 0 then 1 else if j = 1 then 2 else if j = 2 then -1 else if j = 3 then 3 else if j = 4 then 0 else if j = 5 then 1 else -3
theorem wNum_le (j : Int) : (wNum j).natAbs ≤ 3 := by
  unfold wNum
  repeat' split
  all_goals decide
theorem wNum_at {j : Int} (h0 : 0 ≤ j) (h7 : j < 7) : atI [V.int 1, .int 2, .int (-1), .int 3, .int 0, .int 1, .int (-3)] j = some (.int (wNum j)) := by
  have : j = 0 ∨ j = 1 ∨ j = 2 ∨ j = 3 ∨ j = 4 ∨ j = 5 ∨ j = 6 := by omega
  rcases this with rfl | rfl | rfl | rfl | rfl | rfl | rfl <;> rfl
theorem frac_iz {x k : Int} (hx : x.natAbs ≤ 3) (h0 : 1 ≤ k) (h4 : k ≤ 4) : ∃ r : Rat, F x k = fq r ∧ SM.Iz 12 36 r := by
  refine ⟨_, SM.F_fq _ (by omega), x * (12 / k), ?_, ?_⟩
  · have h2 : (12 : Int) = k * (12 / k) := by
      have : k = 1 ∨ k = 2 ∨ k = 3 ∨ k = 4 := by omega
      rcases this with rfl | rfl | rfl | rfl <;> decide
    have h3 : ((k : Int) : Rat) ≠ 0 := fun z => by
      have : (k : Int) = 0 := Rat.intCast_inj.mp (z : ((k : Int) : Rat) = ((0 : Int) : Rat))
      omega
    have h4 : ((12 : Nat) : Rat) = ((k : Int) : Rat) * ((12 / k : Int) : Rat) := by
      rw [← Rat.intCast_mul, ← h2]
      rfl
    rw [Rat.divInt_eq_div, h4, Rat.intCast_mul]
    generalize ((k : Int) : Rat) = A at *
    generalize ((12 / k : Int) : Rat) = B at *
    generalize ((x : Int) : Rat) = C at *
    grind
  · rw [Int.natAbs_mul]
    have h6 : (12 / k).natAbs ≤ 12 := by
      have : k = 1 ∨ k = 2 ∨ k = 3 ∨ k = 4 := by omega
      rcases this with rfl | rfl | rfl | rfl <;> decide
    exact Nat.mul_le_mul hx h6
theorem edr_upd {H : Hp} {D : Addr} {o : HO} {acc ys : List V} {es : List EgR} (hD : H D = some (.lst acc)) (h : Paired (EdR K H) ys es) : Paired (EdR K (upd H D o)) ys es := paired_imp (fun _ _ ⟨a, wv, e, g, b, k1, k2⟩ => ⟨a, wv, e, sqt_updL hD g, b, k1, sqt_updL hD k2⟩) h
def spWei (K : PySem.W.Frag) : Sp := fun vs H Q _ => ∃ (c : Int) (n : Nat), vs = [.int c, .int (n : Int), .int 9] ∧ n ≤ 16 ∧
  ∀ l H' xs es, Ext H H' → H l = none → H' l = some (.lst xs) → Paired (EdR K H') xs es → es.length ≤ 9 → goodR n es → (∀ e ∈ es, SM.Iz 12 36 e.2.2) → Q (.ref l) H'
theorem ok_law_weighted (T : Top K mg) : FnOk P w K mg base CX0 3 T.f_law_weighted T.d_law_weighted ["cell", "count", "most"] (spWei K) := by
  refine T.F_law_weighted.ok sc_law_weighted (fun vs H Q E h => ?_) (fun cdv A outer s H vs Q E hr h => ?_)
  · obtain ⟨c, n, rfl, _⟩ := h
    rfl
  obtain ⟨c, n, rfl, hn, q⟩ := h
  refine ⟨_, (pss_cons (ps_set (i := 3) sc_law_weighted.nd rfl (by first | exact .inl rfl | exact .inr rfl) (pe_lst pa_nil))
      (pss_cons (ps_set (i := 4) sc_law_weighted.nd rfl (by first | exact .inl rfl | exact .inr rfl) (pe_call (ok_law_row T) (hr.mono (by decide)) (by rfl) T.g_law_row T.F_law_row.kp T.b_law_row .nil pass0 (pa_cons (pv 0) (pa_cons (pe_op op_add (pe_op op_mul pe_int (pv 2)) pe_int) (pa_cons pe_int pa_nil)))))
      (pss_cons (ps_for PassesOwn.never rfl (pi_range1 (by rfl) T.m_range (pa_cons (pe_op op_mod (pe_ix ix_list (pv 4) pe_int (fun _ _ => rfl)) (pe_op op_add (pv 2) pe_int)) pa_nil)) (pg_name (i := 5) sc_law_weighted.nd rfl (by first | exact .inl rfl | exact .inr rfl)) (pss_one (ps_if (pt_cmpR op_gt (pv 1) pe_int (nomark _)) (pss_cons (ps_set (i := 6) sc_law_weighted.nd rfl (by first | exact .inl rfl | exact .inr rfl) (pe_call (ok_law_frac T) (hr.mono (by decide)) (by rfl) T.g_law_frac T.F_law_frac.kp T.b_law_frac .nil pass0 (pa_cons (pe_ix ix_tup (pe_tup (pa_cons pe_int (pa_cons pe_int (pa_cons (pe_un un_neg pe_int) (pa_cons pe_int (pa_cons pe_int (pa_cons pe_int (pa_cons (pe_un un_neg pe_int) pa_nil)))))))) (pe_op op_mod (pe_ix ix_list (pv 4) (pe_op op_add (pe_op op_mul pe_int (pv 5)) pe_int) (fun _ _ => rfl)) pe_int) (fun _ _ => rfl)) (pa_cons (pe_op op_add pe_int (pe_op op_mod (pe_op op_fdivZ (pe_ix ix_list (pv 4) (pe_op op_add (pe_op op_mul pe_int (pv 5)) pe_int) (fun _ _ => rfl)) pe_int) pe_int)) pa_nil))))
      (pss_one (ps_expr (pe_bm PySem.F.plainAttrs_list PySem.F.slot_list_append PySem.F.type_list_append mt_append (pv 3) (pa_cons (pe_tup (pa_cons (pe_op op_mod (pe_ix ix_list (pv 4) (pe_op op_add (pe_op op_mul pe_int (pv 5)) pe_int) (fun _ _ => rfl)) (pv 1)) (pa_cons (pe_op op_mod (pe_ix ix_list (pv 4) (pe_op op_add (pe_op op_mul pe_int (pv 5)) pe_int) (fun _ _ => rfl)) (pv 1)) (pa_cons (pv 6) pa_nil)))) pa_nil))))) pss_nil)))
      (pss_one (ps_ret (pv 3)))))), ?_⟩
  refine ⟨by rw [sizeLine_eq]; simp, fun el hel => ?_⟩
  dsimp only [gName]
  have x1 := ext_upd (o := .lst []) hel
  have w1 : upd H el (.lst []) el = some (.lst []) := upd_same
  generalize upd H el (.lst []) = H1 at *
  refine ⟨_, rfl, _, rfl, _, _, rfl, rfl, .inr ⟨by decide, by decide⟩, _, _, rfl, rfl, c, 84, 28, rfl, by decide, by decide, by decide, fun l1 H2 rs s2 nl1 hl1 lr hr1 => ?_⟩
  have nle : l1 ≠ el := fun z => by rw [z, w1] at nl1; cases nl1
  dsimp only [gName]
  have dig : ∀ j : Nat, j < 28 → ∃ d : Int, (rs.map V.int)[j]? = some (.int d) ∧ 0 ≤ d ∧ d < 84 := fun j hj => by
    have hj2 : j < rs.length := by omega
    refine ⟨rs[j], by rw [List.getElem?_map, List.getElem?_eq_getElem hj2]; rfl, hr1 _ (List.getElem_mem hj2)⟩
  obtain ⟨d0, hd0, p0, _⟩ := dig 0 (by decide)
  obtain ⟨m, hm, m9⟩ : ∃ m : Nat, (d0 % (9 + 1) : Int) = m ∧ m ≤ 9 := ⟨(d0 % 10).toNat, by omega, by omega⟩
  refine ⟨_, rfl, l1, _, _, _, rfl, rfl, SqL.of hl1, atI_nat (j := 0) hd0, _, rfl, _, _, rfl, rfl, _, _, rfl, rfl, (by decide : (0 : Int) < 10), (m : Int), congrArg (fun z => [V.int z]) hm, by omega, by omega, for_range (n := m) (fun i σ H3 => (∃ y5 y6, σ = [some (.int c), some (.int (n : Int)), some (.int 9), some (.ref el), some (.ref l1), y5, y6]) ∧ Ext H H3 ∧ H3 l1 = some (.lst (rs.map V.int)) ∧ ∃ xs es, H3 el = some (.lst xs) ∧ Paired (EdR K H3) xs es ∧ es.length ≤ i ∧ goodR n es ∧ ∀ e ∈ es, SM.Iz 12 36 e.2.2)
    ⟨⟨none, none, rfl⟩, x1.trans s2, hl1, [], [], s2.lst w1, .nil, Nat.le_refl _, fun e he => (by cases he), fun e he => (by cases he)⟩ (fun i σ H3 hi hP => ?_) (fun σ H3 hP => ?_)⟩
  · obtain ⟨⟨y5, y6, rfl⟩, s3, hl3, xs, es, hxs, hes, le, hg, hz⟩ := hP
    have lx := hes.length
    have z0 : (0 : Int) + ((i : Nat) : Int) = ((i : Nat) : Int) := Int.zero_add _
    dsimp only [gName]
    rw [z0]
    refine ⟨_, rfl, _, _, rfl, rfl, _, rfl, iteB (fun b => ?_) (fun b => ⟨⟨_, _, rfl⟩, s3, hl3, xs, es, hxs, hes, by omega, hg, hz⟩)⟩
    have pn : (0 : Int) < ((n : Nat) : Int) := of_decide_eq_true b
    obtain ⟨d1, hd1, a1, _⟩ := dig (3 * i + 1) (by omega)
    obtain ⟨d2, hd2, a2, _⟩ := dig (3 * i + 2) (by omega)
    obtain ⟨d3, hd3, a3, b3⟩ := dig (3 * i + 3) (by omega)
    have z1 : (3 : Int) * ((i : Nat) : Int) + 1 = ((3 * i + 1 : Nat) : Int) := by omega
    have z2 : (3 : Int) * ((i : Nat) : Int) + 2 = ((3 * i + 2 : Nat) : Int) := by omega
    have z3 : (3 : Int) * ((i : Nat) : Int) + 3 = ((3 * i + 3 : Nat) : Int) := by omega
    have u0 := Int.emod_nonneg d1 (show (n : Int) ≠ 0 by omega)
    have u1 := Int.emod_lt_of_pos d1 pn
    have v0 := Int.emod_nonneg d2 (show (n : Int) ≠ 0 by omega)
    have v1 := Int.emod_lt_of_pos d2 pn
    have c0 := Int.emod_nonneg d3 (show (7 : Int) ≠ 0 by decide)
    have c1 := Int.emod_lt_of_pos d3 (show (0 : Int) < 7 by decide)
    have efd : d3.fdiv 7 = d3 / 7 := Int.fdiv_eq_ediv_of_nonneg _ (by decide)
    obtain ⟨r, er, ir⟩ := frac_iz (x := wNum (d3 % 7)) (k := 1 + d3.fdiv 7 % 4) (wNum_le _) (by omega) (by omega)
    refine ⟨1, rfl, 3, rfl, sl_of (by simp), fun w1 hw1 => ⟨_, rfl, _, rfl, _, _, rfl, rfl, .inr ⟨by omega, by omega⟩, _, _, rfl, rfl, l1, _, _, .int d3, rfl, rfl, SqL.of ((ext_upd hw1).lst hl3), by rw [z3]; exact atI_nat hd3, _, _, rfl, rfl, (by decide : (0 : Int) < 7), w1, _, _, _, rfl, rfl, SqT.of upd_same, wNum_at c0 c1,
      _, rfl, _, rfl, _, _, rfl, rfl, .inr ⟨by omega, by omega⟩, _, _, rfl, rfl, l1, _, _, .int d3, rfl, rfl, SqL.of ((ext_upd hw1).lst hl3), by rw [z3]; exact atI_nat hd3, _, _, rfl, rfl, ⟨by decide, by decide⟩, _, _, rfl, rfl, (by decide : (0 : Int) < 4), _, _, rfl, rfl, ?_⟩⟩
    have x4 := ext_upd (o := .tup [V.int 1, .int 2, .int (-1), .int 3, .int 0, .int 1, .int (-3)]) hw1
    refine ⟨_, _, rfl, by omega, Nat.lt_of_le_of_lt (show (1 + d3.fdiv 7 % 4).natAbs ≤ 4 by omega) (by decide +kernel), fun p H5 s5 np hp => ?_⟩
    rw [er] at hp
    have s35 := x4.trans s5.ext
    have hl5 := s35.lst hl3
    have hxs5 := s35.lst hxs
    dsimp only [gName]
    refine ⟨_, rfl, .inl ⟨rfl, _, SqL.of hxs5⟩, _, rfl, _, rfl, _, _, rfl, rfl, .inr ⟨by omega, by omega⟩, _, _, rfl, rfl, l1, _, _, .int d1, rfl, rfl, SqL.of hl5, by rw [z1]; exact atI_nat hd1, _, rfl, _, _, rfl, rfl, pn, _, rfl, _, rfl, _, _, rfl, rfl, .inr ⟨by omega, by omega⟩, _, _, rfl, rfl, l1, _, _, .int d2, rfl, rfl, SqL.of hl5, by rw [z2]; exact atI_nat hd2, _, rfl, _, _, rfl, rfl, pn, _, rfl, sl_of (by simp), fun t2 h2 => ?_⟩
    have x6 := ext_upd (o := .tup [.int (d1 % (n : Int)), .int (d2 % (n : Int)), .ref p]) h2
    have hxs6 := x6.lst hxs5
    have s36 := s35.trans x6
    refine ⟨el, xs, .ref t2, rfl, rfl, hxs6, sl_lt (by omega), ⟨_, _, rfl⟩, (s3.trans s36).own hel, ?_, xs ++ [.ref t2], es ++ [(d1 % (n : Int), d2 % (n : Int), r)], upd_same, ?_, by rw [List.length_append]; simp; omega, fun e he => ?_, fun e he => ?_⟩
    · rw [upd_ne (fun z => by rw [z] at nle; exact nle rfl)]
      exact s36.lst hl3
    · refine paired_snoc (edr_upd hxs6 (edr_up s36 hes)) ⟨t2, .ref p, rfl, sqt_updL hxs6 (SqT.of upd_same), p, rfl, sqt_updL hxs6 (x6.tup (SqT.of hp))⟩
    · rcases List.mem_append.mp he with he | he
      · exact hg e he
      · rw [List.mem_singleton.mp he]
        exact ⟨u0, u1, v0, v1⟩
    · rcases List.mem_append.mp he with he | he
      · exact hz e he
      · rw [List.mem_singleton.mp he]
        exact ir
  · obtain ⟨⟨y5, y6, rfl⟩, s3, _, xs, es, hxs, hes, le, hg, hz⟩ := hP
    exact ⟨_, rfl, q el H3 xs es s3 hel hxs hes (by omega) hg hz⟩
/-! ### a dict whose keys are sets of vertices, as ascending tuples -/
def keyM (n U : Nat) : List Key := (MT.bitsM n U).map fun k => Sum.inl ((k : Nat) : Int)
theorem keyM_inj {n U W : Nat} (hU : U < 2 ^ n) (hW : W < 2 ^ n) (h : keyM n U = keyM n W) : U = W := by
  have hb : MT.bitsM n U = MT.bitsM n W := by
    have : ∀ {a b : List Nat}, (a.map fun k => (Sum.inl ((k : Nat) : Int) : Key)) = (b.map fun k => Sum.inl ((k : Nat) : Int)) → a = b := by
      intro a
      induction a with
      | nil =>
        intro b h
        cases b with
        | nil => rfl
        | cons y b => simp at h
      | cons x a ih =>
        intro b h
        cases b with
        | nil => simp at h
        | cons y b =>
          rw [List.map_cons, List.map_cons] at h
          obtain ⟨h1, h2⟩ := List.cons.inj h
          rw [inl_inj h1, ih h2]
    exact this h
  refine Nat.eq_of_testBit_eq fun i => ?_
  by_cases hi : i < n
  · have m1 : i ∈ MT.bitsM n U ↔ U.testBit i = true := ⟨fun h => (List.mem_filter.mp h).2, fun h => List.mem_filter.mpr ⟨List.mem_range.mpr hi, h⟩⟩
    have m2 : i ∈ MT.bitsM n W ↔ W.testBit i = true := ⟨fun h => (List.mem_filter.mp h).2, fun h => List.mem_filter.mpr ⟨List.mem_range.mpr hi, h⟩⟩
    rw [hb] at m1
    have := m1.symm.trans m2
    cases h1 : U.testBit i <;> cases h2 : W.testBit i <;> simp_all
  · rw [Nat.testBit_lt_two_pow (Nat.lt_of_lt_of_le hU (Nat.pow_le_pow_right (by decide) (by omega))), Nat.testBit_lt_two_pow (Nat.lt_of_lt_of_le hW (Nat.pow_le_pow_right (by decide) (by omega)))]
def KvT (K : PySem.W.Frag) (n : Nat) (H : Hp) (kv : List Key × V) (e : Nat × Rat) : Prop := kv.1 = keyM n e.1 ∧ e.1 < 2 ^ n ∧ FrV K H kv.2 e.2
def KvsT (K : PySem.W.Frag) (n : Nat) (H : Hp) (kvs : List (List Key × V)) (l : List (Nat × Rat)) : Prop := Paired (KvT K n H) kvs l
theorem FrV.kp {H H' : Hp} (s : Keep H H') {v : V} {r : Rat} (h : FrV K H v r) : FrV K H' v r := (frA K).keep s h
theorem KvsT.kp {n : Nat} {H H' : Hp} (s : Keep H H') {kvs : List (List Key × V)} {l : List (Nat × Rat)} (h : KvsT K n H kvs l) : KvsT K n H' kvs l := paired_imp (fun _ _ ⟨a, b, c⟩ => ⟨a, b, c.kp s⟩) h
theorem kvt_get {n : Nat} {H : Hp} {zv : V} (hz : FrV K H zv 0) {m : Nat} (hm : m < 2 ^ n) : ∀ {kvs : List (List Key × V)} {l : List (Nat × Rat)}, KvsT K n H kvs l → FrV K H ((valV kvs (keyM n m)).getD zv) (MT.getA ratS l m)
  | _, _, .nil => hz
  | _, _, .cons (a := kv) (b := e) ⟨h1, h2, h3⟩ t => by
    obtain ⟨k, v⟩ := kv
    have h1 : k = keyM n e.1 := h1
    subst h1
    rw [MT.get_cons]
    by_cases z : e.1 = m
    · rw [if_pos z, valV_pos (by rw [z])]
      exact h3
    · rw [if_neg z, valV_neg (fun q => z (keyM_inj h2 hm q))]
      exact kvt_get hz hm t
theorem any_kvt {n : Nat} {H : Hp} {m : Nat} (hm : m < 2 ^ n) : ∀ {kvs : List (List Key × V)} {l : List (Nat × Rat)}, KvsT K n H kvs l → (kvs.any fun kv => decide (kv.1 = keyM n m)) = l.any fun p => decide (p.1 = m)
  | _, _, .nil => rfl
  | _, _, .cons (a := kv) (b := e) ⟨h1, h2, h3⟩ t => by
    rw [List.any_cons, List.any_cons, any_kvt hm t]
    congr 1
    refine decide_eq_decide.mpr ?_
    have h1 : kv.1 = keyM n e.1 := h1
    rw [h1]
    exact ⟨fun z => keyM_inj h2 hm z, fun z => by rw [z]⟩
theorem map_kvt {n : Nat} {H : Hp} {m : Nat} (hm : m < 2 ^ n) {v : V} {x : Rat} (hv : FrV K H v x) : ∀ {kvs : List (List Key × V)} {l : List (Nat × Rat)}, KvsT K n H kvs l → KvsT K n H (kvs.map fun kv => if kv.1 = keyM n m then (kv.1, v) else kv) (l.map fun p => if p.1 = m then (p.1, x) else p)
  | _, _, .nil => .nil
  | _, _, .cons (a := kv) (b := e) ⟨h1, h2, h3⟩ t => by
    refine .cons ?_ (map_kvt hm hv t)
    have h1 : kv.1 = keyM n e.1 := h1
    dsimp only
    by_cases z : e.1 = m
    · rw [if_pos z, if_pos (by rw [h1, z])]
      exact ⟨h1, h2, hv⟩
    · rw [if_neg z, if_neg (fun q => z (keyM_inj h2 hm (h1.symm.trans q)))]
      exact ⟨h1, h2, h3⟩
theorem kvt_put {n : Nat} {H : Hp} {m : Nat} (hm : m < 2 ^ n) {v : V} {x : Rat} (hv : FrV K H v x) {kvs : List (List Key × V)} {l : List (Nat × Rat)} (h : KvsT K n H kvs l) : KvsT K n H (putK kvs (keyM n m) v) (MT.putA l m x) := by
  unfold putK MT.putA
  rw [any_kvt hm h]
  by_cases z : (l.any fun p => decide (p.1 = m)) = true
  · rw [if_pos z, if_pos z]
    have e : (kvs.map fun kv => if kv.1 = keyM n m then (kv.1, v) else kv) = kvs.map fun kv => if kv.1 = keyM n m then (keyM n m, v) else kv := List.map_congr_left fun kv _ => by
      by_cases q : kv.1 = keyM n m
      · rw [if_pos q, if_pos q, q]
      · rw [if_neg q, if_neg q]
    have g := map_kvt (m := m) hm hv h
    first
      | exact g
      | (rw [e] at g; exact g)
  · rw [if_neg z, if_neg z]
    exact paired_snoc h ⟨rfl, hm, hv⟩
theorem kvt_at {n : Nat} {H : Hp} {m : Nat} {v : V} : ∀ {kvs : List (List Key × V)} {l : List (Nat × Rat)} {j : Nat}, KvsT K n H kvs l → (MT.keysA l).Nodup → m < 2 ^ n → kvs[j]? = some (keyM n m, v) → valV kvs (keyM n m) = some v
  | _, _, _, .nil, _, _, h => by simp at h
  | _, _, 0, .cons (a := kv) ⟨h1, _⟩ t, _, _, h => by
    simp only [List.getElem?_cons_zero, Option.some.injEq] at h
    rw [h, valV_pos rfl]
  | _, _, j + 1, .cons (a := kv) (b := e) (l₂ := l) ⟨h1, h2, _⟩ t, nd, hm, h => by
    simp only [List.getElem?_cons_succ] at h
    obtain ⟨n1, n2⟩ := List.nodup_cons.mp (show (e.1 :: MT.keysA l).Nodup from nd)
    obtain ⟨k, v'⟩ := kv
    have h1 : k = keyM n e.1 := h1
    subst h1
    rw [valV_neg (fun z => ?_)]
    · exact kvt_at t n2 hm h
    · obtain ⟨f, hf, hk, hf2, _⟩ := paired_at t h
      have e1 := keyM_inj h2 hm z
      have e2 := keyM_inj hf2 hm hk.symm
      exact n1 (by rw [e1, ← e2]; exact List.mem_map.mpr ⟨f, List.mem_of_getElem? hf, rfl⟩)
/-! the tuple that stands for a set -/
theorem key_vs (n U : Nat) : (keyM n U).map kV = (MT.bitsM n U).map fun k => V.int ((k : Nat) : Int) := by
  unfold keyM
  rw [List.map_map]
  rfl
theorem in_bits {n U k : Nat} (hk : k < n) : inV (.int ((k : Nat) : Int)) ((MT.bitsM n U).map fun k => V.int ((k : Nat) : Int)) = U.testBit k := by
  unfold inV
  rw [List.any_map]
  cases h : U.testBit k with
  | true =>
    refine List.any_eq_true.mpr ⟨k, List.mem_filter.mpr ⟨List.mem_range.mpr hk, h⟩, ?_⟩
    show eqV (.int ((k : Nat) : Int)) (.int ((k : Nat) : Int)) = true
    simp [eqV]
  | false =>
    refine List.any_eq_false.mpr fun j hj z => ?_
    have z : eqV (.int ((j : Nat) : Int)) (.int ((k : Nat) : Int)) = true := z
    have e : j = k := by
      have : ((j : Nat) : Int) = ((k : Nat) : Int) := by simpa [eqV] using z
      omega
    rw [e] at hj
    have := (List.mem_filter.mp hj).2
    rw [h] at this
    cases this
theorem flat_ints (l : List Nat) : (l.map fun k => V.int ((k : Nat) : Int)).all flatV = true := List.all_eq_true.mpr fun x hx => by
  obtain ⟨k, _, rfl⟩ := List.mem_map.mp hx
  rfl
/-- sorted, the new set -/
theorem bits_sorted {n U a b : Nat} (ha : a < n) (hb : b < n) (hab : a ≠ b) (fa : U.testBit a = false) (fb : U.testBit b = false) {zs : List Int} (hp : zs.Perm ((MT.bitsM n U).map (fun k => ((k : Nat) : Int)) ++ [((a : Nat) : Int), ((b : Nat) : Int)])) (hs : zs.Pairwise (· ≤ ·)) : zs = (MT.bitsM n (U ||| 2 ^ a ||| 2 ^ b)).map fun k => ((k : Nat) : Int) := by
  have sp : ((MT.bitsM n (U ||| 2 ^ a ||| 2 ^ b)).map fun k => ((k : Nat) : Int)).Pairwise (· ≤ ·) := by
    refine List.Pairwise.map _ (fun x y h => ?_) (List.Pairwise.filter _ List.pairwise_lt_range)
    show ((x : Nat) : Int) ≤ ((y : Nat) : Int)
    have h : x < y := h
    omega
  refine List.Perm.eq_of_pairwise (le := fun a b : Int => a ≤ b) (fun x y _ _ h1 h2 => Int.le_antisymm h1 h2) hs sp (hp.trans ?_)
  have e : (MT.bitsM n U).map (fun k => ((k : Nat) : Int)) ++ [((a : Nat) : Int), ((b : Nat) : Int)] = (MT.bitsM n U ++ [a, b]).map fun k => ((k : Nat) : Int) := by
    rw [List.map_append]
    rfl
  rw [e]
  refine List.Perm.map _ ?_
  have nd1 : (MT.bitsM n U ++ [a, b]).Nodup := by
    refine List.nodup_append.mpr ⟨List.Pairwise.filter _ List.nodup_range, by simp [hab], fun x hx y hy z => ?_⟩
    have hx2 := (List.mem_filter.mp hx).2
    have hx2 : U.testBit x = true := hx2
    rcases List.mem_cons.mp hy with q | q
    · rw [z, q, fa] at hx2
      cases hx2
    · rw [z, List.mem_singleton.mp q, fb] at hx2
      cases hx2
  refine (List.perm_ext_iff_of_nodup nd1 (List.Pairwise.filter _ List.nodup_range)).mpr fun x => ?_
  unfold MT.bitsM
  rw [List.mem_append, List.mem_filter, List.mem_filter, List.mem_range, List.mem_cons, List.mem_singleton]
  have ht : (U ||| 2 ^ a ||| 2 ^ b).testBit x = (U.testBit x || decide (a = x) || decide (b = x)) := by
    rw [Nat.testBit_or, Nat.testBit_or, Nat.testBit_two_pow, Nat.testBit_two_pow]
  rw [ht]
  simp only [Bool.or_eq_true, decide_eq_true_eq]
  constructor
  · rintro (⟨h1, h2⟩ | rfl | rfl)
    · exact ⟨h1, .inl (.inl h2)⟩
    · exact ⟨ha, .inl (.inr rfl)⟩
    · exact ⟨hb, .inr rfl⟩
  · rintro ⟨h1, (h2 | rfl) | rfl⟩
    · exact .inl ⟨h1, h2⟩
    · exact .inr (.inl rfl)
    · exact .inr (.inr rfl)
theorem op_notIn_K {X : Cx} {K : PySem.W.Frag} (hK : X.K = K) : OpR X (compareOp .NotIn) (rIn K true) := by
  subst hK
  exact op_notIn_seq
theorem good_in {n : Nat} {es : List EgR} (h : goodR n es) : ∀ e ∈ es.map toN, e.1 < n ∧ e.2.1 < n := fun e m => by
  obtain ⟨f, mf, rfl⟩ := List.mem_map.mp m
  obtain ⟨a1, a2, a3, a4⟩ := h f mf
  have a1 : 0 ≤ f.1 := a1
  have a2 : f.1 < n := a2
  have a3 : 0 ≤ f.2.1 := a3
  have a4 : f.2.1 < n := a4
  exact ⟨by show f.1.toNat < n; omega, by show f.2.1.toNat < n; omega⟩
theorem fold_len2 (K : PySem.W.Frag) {c : Nat → List (Nat × Rat)} {b : Nat} (h : ∀ U, (c U).length ≤ b) : ∀ (T g : List (Nat × Rat)), (T.foldl (fun g p => MT.fill ratS p.2 g (c p.1)) g).length ≤ g.length + T.length * b
  | [], g => by simp
  | p :: T, g => by
    have h1 := fold_len2 K h T (MT.fill ratS p.2 g (c p.1))
    have h2 := fill_len (A := frA K) p.2 (c p.1) g
    have h3 := h p.1
    have h2 : (MT.fill ratS p.2 g (c p.1)).length ≤ g.length + (c p.1).length := h2
    rw [List.foldl_cons, List.length_cons, Nat.succ_mul]
    omega
theorem cD_len (es : List (Nat × Nat × Rat)) (v U : Nat) : (MT.cD es v U).length ≤ es.length := by
  unfold MT.cD
  rw [List.length_map]
  exact List.length_filter_le _ _
theorem cD_snoc (es : List (Nat × Nat × Rat)) (e : Nat × Nat × Rat) (v U : Nat) : MT.cD (es ++ [e]) v U = MT.cD es v U ++ (if MT.cnd v U e = true then [(MT.orD U e, e.2.2)] else []) := by
  unfold MT.cD
  rw [List.filter_append, List.map_append]
  congr 1
  by_cases h : MT.cnd v U e = true
  · rw [if_pos h, List.filter_cons_of_pos h]
    rfl
  · rw [if_neg h, List.filter_cons_of_neg h]
    rfl
theorem cD_sz {es : List EgR} (h : ∀ e ∈ es, SM.Iz 12 36 e.2.2) {v U j : Nat} : ∀ c ∈ MT.cD ((es.map toN).take j) v U, (frA K).Sz 1 1024 c.2 := fun c hc => by
  obtain ⟨e, he, rfl⟩ := List.mem_map.mp hc
  obtain ⟨f, hf, rfl⟩ := List.mem_map.mp (List.mem_of_mem_take (List.mem_filter.mp he).1)
  have := h f hf
  exact SM.Iz.le this (by decide)
/-- used + (low, other), sorted, as a tuple -/
theorem cat_any {H : Hp} {a b : Addr} {xs ys : List V} {Q : VK} (h : SqT K H a xs) (k : SqT K H b ys) (hl : xs.length + ys.length ≤ 1000) (q : ∀ p H', Ext H H' → SqT K H' p (xs ++ ys) → Q (.ref p) H') : rCatA K (.ref a) (.ref b) H Q := by
  refine ⟨a, b, xs, ys, rfl, rfl, h, k, sl_of (by omega), fun z => ?_, fun _ z => ?_, fun _ _ p hp => q p _ (ext_upd hp) (SqT.of upd_same)⟩
  · subst z
    exact q b H (Ext.refl H) k
  · subst z
    refine q a H (Ext.refl H) ?_
    rw [List.append_nil]
    exact h
theorem in2 (a b c : Nat) : inV (.int ((a : Nat) : Int)) [.int ((b : Nat) : Int), .int ((c : Nat) : Int)] = (decide (b = a) || decide (c = a)) := by
  have h : ∀ x : Nat, eqV (.int ((x : Nat) : Int)) (.int ((a : Nat) : Int)) = decide (x = a) := fun x => by
    have : decide (((x : Nat) : Int) = ((a : Nat) : Int)) = decide (x = a) := decide_eq_decide.mpr (by omega)
    rw [← this]
    rfl
  unfold inV
  rw [List.any_cons, List.any_cons, List.any_nil, h, h, Bool.or_false]
theorem free_at {n U : Nat} (h : (MT.bitsM n U).length < n) : (MT.freeM n U)[0]? = some (MT.lowF n U) := by
  match e : MT.freeM n U, MT.free_ne h with
  | a :: t, _ =>
    unfold MT.lowF
    rw [e]
    rfl
theorem free_snoc (i U : Nat) : MT.freeM (i + 1) U = MT.freeM i U ++ (if U.testBit i = true then [] else [i]) := by
  unfold MT.freeM
  rw [List.range_succ, List.filter_append]
  congr 1
  cases h : U.testBit i with
  | true =>
    rw [if_pos rfl, List.filter_cons_of_neg (by rw [h]; decide)]
    rfl
  | false =>
    rw [if_neg (by decide), List.filter_cons_of_pos (by rw [h]; rfl)]
    rfl
theorem dT_ntp {kvs : List (List Key × V)} : ¬ IsTp (.dT kvs) := fun h => by rcases h with ⟨_, z⟩ | ⟨_, _, z⟩ <;> cases z
theorem frT_ntp {o : Obj} {kvs : List (List Key × V)} : ¬ IsTp (.frz o (.dT kvs)) := fun h => by rcases h with ⟨_, z⟩ | ⟨_, _, z⟩ <;> cases z
def spDim (K : PySem.W.Frag) : Sp := fun vs H Q _ => ∃ (n : Nat) (ea : Addr) (xs : List V) (es : List EgR), vs = [.int (n : Int), .ref ea] ∧ SqL K H ea xs ∧ Paired (EdR K H) xs es ∧ goodR n es ∧ n ≤ 16 ∧ es.length ≤ 24 ∧ (∀ e ∈ es, SM.Iz 12 36 e.2.2) ∧ ∀ v H', Ext H H' → FrV K H' v (sumR n es) → Q v H'
theorem ok_law_dimers (T : Top K mg) : FnOk P w K mg base CX0 4 T.f_law_dimers T.d_law_dimers ["count", "edges"] (spDim K) := by
  refine T.F_law_dimers.ok sc_law_dimers (fun vs H Q E h => ?_) (fun cdv A outer s H vs Q E hr h => ?_)
  · obtain ⟨n, ea, xs, es, rfl, _⟩ := h
    rfl
  obtain ⟨n, ea, xs, es, rfl, he, hes, hg, hn, h24, hiz, q⟩ := h
  refine ⟨_, (pss_cons (ps_if (pt_cmpR op_eq (pv 0) pe_int (nomark _)) (pss_one (ps_ret (pe_tup (pa_cons pe_int (pa_cons pe_int pa_nil))))) pss_nil)
      (pss_cons (ps_set (i := 2) sc_law_dimers.nd rfl (by first | exact .inl rfl | exact .inr rfl) (pe_dispT (hu_of hr) (pe_tup pa_nil) (pe_tup (pa_cons pe_int (pa_cons pe_int pa_nil)))))
      (pss_cons (ps_for PassesOwn.never rfl (pi_range1 (by rfl) T.m_range (pa_cons (pe_op op_fdiv (pv 0) pe_int) pa_nil)) (pg_name (i := 3) sc_law_dimers.nd rfl (by first | exact .inl rfl | exact .inr rfl)) (pss_cons (ps_set (i := 4) sc_law_dimers.nd rfl (by first | exact .inl rfl | exact .inr rfl) pe_dnewT)
      (pss_cons (ps_lock (ps_for PassesOwn.never rfl (pi_keys (pv 2)) (pg_name (i := 5) sc_law_dimers.nd rfl (by first | exact .inl rfl | exact .inr rfl)) (pss_cons (ps_set (i := 6) sc_law_dimers.nd rfl (by first | exact .inl rfl | exact .inr rfl) (pe_ix ix_list (pe_lc (own := [("k", 7)]) (g := gName 7) rfl sc_law_dimers.nd (pi_range1 (by rfl) T.m_range (pa_cons (pv 0) pa_nil)) (blkOk_by (own := [("k", 7)]) (N := n_law_dimers) (sc := defScope s_law_dimers) (by decide +kernel)) (fun _ _ _ _ _ => (pg_name (i := 7) sc_law_dimers.nd rfl (by first | exact .inl rfl | exact .inr rfl))) (fun _ _ _ _ _ => pts_one (pt_cmpR (op_notIn_K (K := K) rfl) (pv 7) (pv 5) (by rfl))) (fun _ _ _ _ _ => (pv 7))) pe_int (fun _ _ => rfl)))
      (pss_one (ps_for PassesOwn.never rfl (pi_list (pv 1)) (pg_tup rfl (pgs_cons (pg_name (i := 8) sc_law_dimers.nd rfl (by first | exact .inl rfl | exact .inr rfl)) (pgs_cons (pg_name (i := 9) sc_law_dimers.nd rfl (by first | exact .inl rfl | exact .inr rfl)) (pgs_cons (pg_name (i := 10) sc_law_dimers.nd rfl (by first | exact .inl rfl | exact .inr rfl)) pgs_nil)))) (pss_cons (ps_set (i := 11) sc_law_dimers.nd rfl (by first | exact .inl rfl | exact .inr rfl) (pe_op op_sub (pe_op op_add (pv 8) (pv 9)) (pv 6)))
      (pss_one (ps_if (PW.pt (pw_and (pt_cmpR op_in_seq (pv 6) (pe_tup (pa_cons (pv 8) (pa_cons (pv 9) pa_nil))) (by rfl)) (pw_and (pt_cmpR op_gt (pv 11) (pv 6) (nomark _)) (pw_and1 (pt_cmpR op_notIn_seq (pv 11) (pv 5) (by rfl)))))) (pss_cons (ps_set (i := 12) sc_law_dimers.nd rfl (by first | exact .inl rfl | exact .inr rfl) (pe_callTy call_tuple_of (by rfl) T.m_tuple (by decide +kernel) (pa_cons (pe_callB cr_sortedTu (by rfl) T.m_sorted (by decide +kernel) (pa_cons (pe_op op_catA (pv 5) (pe_tup (pa_cons (pv 6) (pa_cons (pv 11) pa_nil)))) pa_nil)) pa_nil)))
      (pss_one (ps_dput (hu_of hr) (pv 4) (pv 12) (pe_call (ok_law_add T) (hr.mono (by decide)) (by rfl) T.g_law_add T.F_law_add.kp T.b_law_add .nil pass0 (pa_cons (pe_dget2 (hu_of hr) (pv 4) (pv 12) (pe_tup (pa_cons pe_int (pa_cons pe_int pa_nil))) ⟨rfl, rfl, rfl, rfl⟩) (pa_cons (pe_call (ok_law_mul T) (hr.mono (by decide)) (by rfl) T.g_law_mul T.F_law_mul.kp T.b_law_mul .nil pass0 (pa_cons (pe_dget (hu_of hr) (pv 2) (pv 5) (fun _ _ => rfl)) (pa_cons (pv 10) pa_nil))) pa_nil))) rfl))) pss_nil))))))))
      (pss_one (ps_set (i := 2) sc_law_dimers.nd rfl (by first | exact .inl rfl | exact .inr rfl) (pv 4))))))
      (pss_cons (ps_if (PW.pt (pw_or (pt_cmpR op_eq (pe_op op_mod (pv 0) pe_int) pe_int (nomark _)) (pw_or1 (pt_cmpR op_eq (pe_callB call_len_dT (by rfl) T.m_len (by decide +kernel) (pa_cons (pv 2) pa_nil)) pe_int (nomark _))))) (pss_one (ps_ret (pe_tup (pa_cons pe_int (pa_cons pe_int pa_nil))))) pss_nil)
      (pss_one (ps_ret (pe_dget (hu_of hr) (pv 2) (pe_tupRg rfl (by rfl) T.m_tuple (prg_1 (by rfl) T.m_range (pv 0))) (fun _ _ => rfl)))))))), ?_⟩
  have hin := good_in hg
  have lx := hes.length
  refine ⟨_, rfl, rfl, _, rfl, iteB (fun z => ?_) (fun z => ?_)⟩
  · have n0 : n = 0 := by
      have := V.int.inj (of_decide_eq_true z)
      omega
    subst n0
    refine ⟨sl2, fun t ht => q _ _ (ext_upd ht) ⟨t, rfl, SqT.of ?_⟩⟩
    have e : sumR 0 es = 1 := MT.Rd_full ratS 0 (es.map toN) (U := 0) (by decide) (fun i h => by omega)
    rw [e, upd_same]
    rfl
  have n1 : 1 ≤ n := by
    rcases Nat.eq_zero_or_pos n with e | e
    · subst e
      simp at z
    · exact e
  intro tb htb
  refine ⟨by rw [sizeLine_eq]; simp, fun t0 ht0 => ⟨sl2, fun t1 ht1 => ?_⟩⟩
  have x1 := ext_upd (o := .dT []) htb
  have x2 := ext_upd (o := .tup []) ht0
  have x3 := ext_upd (o := .tup [.int 1, .int 1]) ht1
  have k0 : upd (upd (upd H tb (.dT [])) t0 (.tup [])) t1 (.tup [.int 1, .int 1]) tb = some (.dT []) := (x2.trans x3).keep _ _ upd_same (fun _ z => by cases z)
  have k1 : upd (upd (upd H tb (.dT [])) t0 (.tup [])) t1 (.tup [.int 1, .int 1]) t0 = some (.tup []) := x3.keep _ _ upd_same (fun _ z => by cases z)
  have k2 : upd (upd (upd H tb (.dT [])) t0 (.tup [])) t1 (.tup [.int 1, .int 1]) t1 = some (.tup [.int 1, .int 1]) := upd_same
  have e0 := (x1.trans x2).trans x3
  generalize upd (upd (upd H tb (.dT [])) t0 (.tup [])) t1 (.tup [.int 1, .int 1]) = H1 at *
  refine ⟨k0, t0, [], rfl, k1, ?_⟩
  dsimp only [gName]
  have hb0 : MT.bitsM n 0 = [] := List.filter_eq_nil_iff.mpr fun k _ => by
    rw [Nat.zero_testBit]
    decide
  have T0 : KvsT K n (upd H1 tb (.dT [([], .ref t1)])) [([], .ref t1)] (MT.tabD ratS n (es.map toN) 0) := .cons ⟨by
    show [] = keyM n 0
    unfold keyM
    rw [hb0]
    rfl, Nat.two_pow_pos n, FrV.kp (keep_upd k0 (fun h => by rcases h with ⟨_, z⟩ | ⟨_, _, z⟩ <;> cases z)) ⟨t1, rfl, SqT.of k2⟩⟩ .nil
  have e1 : Ext H (upd H1 tb (.dT [([], .ref t1)])) := e0.own htb
  have k3 : upd H1 tb (.dT [([], .ref t1)]) tb = some (.dT [([], .ref t1)]) := upd_same
  generalize upd H1 tb (.dT [([], .ref t1)]) = H2 at *
  refine ⟨_, rfl, _, _, rfl, rfl, ⟨by decide, by decide⟩, ((n / 2 : Nat) : Int), ?_, by omega, by omega, for_range (n := n / 2) (fun k σ H3 => (∃ tb kvs y3 y4 y5 y6 y8 y9 y10 y11 y12, σ = [some (.int (n : Int)), some (.ref ea), some (.ref tb), y3, y4, y5, y6, none, y8, y9, y10, y11, y12] ∧ H tb = none ∧ H3 tb = some (.dT kvs) ∧ KvsT K n H3 kvs (MT.tabD ratS n (es.map toN) k)) ∧ Ext H H3 ∧ ∀ p ∈ MT.tabD ratS n (es.map toN) k, (frA K).Sz k (Xb k) p.2)
    ⟨⟨tb, _, none, none, none, none, none, none, none, none, none, rfl, htb, k3, T0⟩, e1, fun p hp => by
      rw [List.mem_singleton.mp hp]
      exact iz_nat (k := 1) (i := 0) (by decide)⟩ (fun k σ H3 hk hP => ?_) (fun σ H3 hP => ?_)⟩
  · show [V.int _] = [V.int _]
    congr 2
  · obtain ⟨⟨tb, kvs, y3, y4, y5, y6, y8, y9, y10, y11, y12, rfl, ntb, hkb, hkv⟩, e3, hsz⟩ := hP
    intro gr hgr
    obtain ⟨hnd, hko, _⟩ := MT.tabD_ok ratS n (es.map toN) hin k (by omega)
    have x4 := ext_upd (o := .dT []) hgr
    have ngr : H gr = none := e3.free hgr
    have ngt : tb ≠ gr := fun z => by rw [z, hgr] at hkb; cases hkb
    have hkb4 := x4.keep _ _ hkb (fun _ z => by cases z)
    have hkv4 := hkv.kp x4.kp
    have hgr4 : upd H3 gr (.dT []) gr = some (.dT []) := upd_same
    have e4 := e3.trans x4
    dsimp only [gName]
    generalize upd H3 gr (.dT []) = H4 at *
    have lT : (MT.tabD ratS n (es.map toN) k).length ≤ 65536 := by
      have h1 := key_len hnd (n := 2 ^ n) fun k hk => (hko k hk).1
      have h2 : 2 ^ n ≤ 2 ^ 16 := Nat.pow_le_pow_right (by decide) hn
      unfold MT.keysA at h1
      rw [List.length_map] at h1
      omega
    have lkv := hkv4.length
    have etab : MT.tabD ratS n (es.map toN) (k + 1) = (MT.tabD ratS n (es.map toN) k).foldl (fun g p => MT.fill ratS p.2 g (MT.cD (es.map toN) (MT.lowF n p.1) p.1)) [] := rfl
    rw [etab]
    generalize MT.tabD ratS n (es.map toN) k = Tv at *
    have lT2 : ∀ i, i ≤ Tv.length → ((Tv.take i).foldl (fun g p => MT.fill ratS p.2 g (MT.cD (es.map toN) (MT.lowF n p.1) p.1)) []).length ≤ i * 24 := fun i hi => by
      have h1 := fold_len2 K (c := fun U => MT.cD (es.map toN) (MT.lowF n U) U) (b := 24) (fun U => Nat.le_trans (cD_len _ _ _) (by rw [List.length_map]; exact h24)) (Tv.take i) []
      rw [List.length_nil, Nat.zero_add, List.length_take, Nat.min_eq_left hi] at h1
      exact h1
    refine ⟨tb, _, hkb4, trivial, fun od => ?_⟩
    have x5 : Ext H (upd H4 tb (.frz od (.dT kvs))) := e4.own ntb
    refine ⟨_, rfl, tb, od, rfl, .inr ⟨kvs, upd_same, for_keysT (fun i σ H5 => (∃ z5 z6 z8 z9 z10 z11 z12, σ = [some (.int (n : Int)), some (.ref ea), some (.ref tb), some (.int (0 + (k : Int))), some (.ref gr), z5, z6, none, z8, z9, z10, z11, z12]) ∧ Ext H H5 ∧ H5 tb = some (.frz od (.dT kvs)) ∧ KvsT K n H5 kvs Tv ∧ (∃ kg, H5 gr = some (.dT kg) ∧ KvsT K n H5 kg ((Tv.take i).foldl (fun g p => MT.fill ratS p.2 g (MT.cD (es.map toN) (MT.lowF n p.1) p.1)) [])) ∧ ∀ p ∈ (Tv.take i).foldl (fun g p => MT.fill ratS p.2 g (MT.cD (es.map toN) (MT.lowF n p.1) p.1)) [], (frA K).Sz (k + 1) (i * 24 * (Xb k * 1024)) p.2)
      ⟨⟨_, _, _, _, _, _, _, rfl⟩, x5, upd_same, hkv4.kp (keep_upd hkb4 dT_ntp), ⟨[], by rw [upd_ne ngt.symm]; exact hgr4, .nil⟩, fun p hp => by cases hp⟩ (fun i σ H5 _ h => h.2.2.1) (fun i ks vv uq σ H5 hi hq hP => ?_) (fun σ H5 hP => ?_)⟩⟩
    · obtain ⟨⟨z5, z6, z8, z9, z10, z11, z12, rfl⟩, e5, htb5, hkv5, ⟨kg5, hgr5, hkg5⟩, hsz5⟩ := hP
      obtain ⟨⟨U, xU⟩, hTi, hk1, hU2, hvx⟩ := paired_at hkv5 hi
      have hk1 : ks = keyM n U := hk1
      subst hk1
      have hU2 : U < 2 ^ n := hU2
      have hvx : FrV K H5 vv xU := hvx
      have hTm := List.mem_of_getElem? hTi
      have hxz : (frA K).Sz k (Xb k) xU := hsz _ hTm
      have hpc := (hko U (List.mem_map.mpr ⟨_, hTm, rfl⟩)).2
      have hpn : (MT.bitsM n U).length < n := by omega
      obtain ⟨l1, l2, l3⟩ := MT.low_spec hpn
      have hfa := free_at hpn
      have hq0 := hq
      rw [key_vs] at hq
      generalize hlw : MT.lowF n U = lw at *
      dsimp only [gName]
      refine ⟨_, rfl, _, rfl, by omega, by omega, fun D hD => lc_range (lo := 0) (n := n) (fun j H6 => Ext H5 H6 ∧ H6 D = some (.lst ((MT.freeM j U).map fun k => V.int ((k : Nat) : Int)))) ⟨ext_upd hD, upd_same⟩ (fun j H6 hj hP => ?_) (fun H6 hP => ?_)⟩
      · obtain ⟨s6, hD6⟩ := hP
        have z0 : (0 : Int) + ((j : Nat) : Int) = ((j : Nat) : Int) := Int.zero_add _
        dsimp only [gName]
        rw [z0]
        have hq6 := s6.keep _ _ hq (fun _ z => by cases z)
        have lfr : (MT.freeM j U).length ≤ j := by
          unfold MT.freeM
          have := List.length_filter_le (fun k => !U.testBit k) (List.range j)
          rwa [List.length_range] at this
        refine ⟨rfl, _, rfl, _, rfl, uq, _, rfl, .inr (SqT.of hq6), rfl, flat_ints _, _, rfl, iteB (fun z => ?_) (fun z => ?_)⟩
        · have z : (!inV (.int ((j : Nat) : Int)) ((MT.bitsM n U).map fun k => V.int ((k : Nat) : Int))) = true := z
          rw [in_bits hj] at z
          refine ⟨_, rfl, _, hD6, sl_lt (by rw [List.length_map]; omega), s6.own hD, ?_⟩
          rw [upd_same, free_snoc, if_neg (fun q => by rw [q] at z; cases z), List.map_append]
          rfl
        · have z : (!inV (.int ((j : Nat) : Int)) ((MT.bitsM n U).map fun k => V.int ((k : Nat) : Int))) = false := z
          rw [in_bits hj] at z
          refine ⟨s6, ?_⟩
          rw [free_snoc, if_pos (by cases q : U.testBit j with
            | true => rfl
            | false => rw [q] at z; cases z), List.append_nil]
          exact hD6
      · obtain ⟨s6, hD6⟩ := hP
        refine ⟨D, _, 0, _, rfl, rfl, SqL.of hD6, atI_nat (j := 0) (by rw [List.getElem?_map, hfa]; rfl), ?_⟩
        dsimp only [gName]
        have e6 := e5.trans s6
        have hq6 := s6.keep _ _ hq (fun _ z => by cases z)
        have htb6 := s6.keep _ _ htb5 (fun _ z => by cases z)
        have hkv6 := hkv5.kp s6.kp
        have hgr6 := s6.keep _ _ hgr5 (fun _ z => by cases z)
        have hkg6 := hkg5.kp s6.kp
        generalize hg0 : (Tv.take i).foldl (fun g p => MT.fill ratS p.2 g (MT.cD (es.map toN) (MT.lowF n p.1) p.1)) [] = g0 at *
        refine ⟨_, rfl, ea, rfl, ⟨_, e6.seq he⟩, for_list (xs := xs) (fun j σ H7 => (∃ w8 w9 w10 w11 w12, σ = [some (.int (n : Int)), some (.ref ea), some (.ref tb), some (.int (0 + (k : Int))), some (.ref gr), some (.ref uq), some (.int ((lw : Nat) : Int)), none, w8, w9, w10, w11, w12]) ∧ Ext H H7 ∧ H7 uq = some (.tup ((MT.bitsM n U).map fun k => V.int ((k : Nat) : Int))) ∧ H7 tb = some (.frz od (.dT kvs)) ∧ KvsT K n H7 kvs Tv ∧ ∃ kg, H7 gr = some (.dT kg) ∧ KvsT K n H7 kg (MT.fill ratS xU g0 (MT.cD ((es.map toN).take j) lw U)))
          ⟨⟨_, _, _, _, _, rfl⟩, e6, hq6, htb6, hkv6, kg5, hgr6, hkg6⟩ (fun j σ H7 _ h => h.2.1.seq he) (fun j x σ H7 hj hP => ?_) (fun σ H7 hP => ?_)⟩
        · obtain ⟨⟨w8, w9, w10, w11, w12, rfl⟩, e7, hq7, htb7, hkv7, kg, hgr7, hkg7⟩ := hP
          obtain ⟨⟨eu, ev, wt⟩, hej, a0, wv, rfl, ha0, wa, rfl, hwa⟩ := paired_at (edr_up e7 hes) hj
          have hmem := List.mem_of_getElem? hej
          obtain ⟨g1, g2, g3, g4⟩ := hg _ hmem
          have g1 : 0 ≤ eu := g1
          have g2 : eu < (n : Int) := g2
          have g3 : 0 ≤ ev := g3
          have g4 : ev < (n : Int) := g4
          have iw : SM.Iz 12 36 wt := hiz _ hmem
          have ha0 : SqT K H7 a0 [.int eu, .int ev, .ref wa] := ha0
          have hwa : Fr K H7 wa (fq wt) := hwa
          obtain ⟨p, rfl⟩ : ∃ p : Nat, eu = p := ⟨eu.toNat, by omega⟩
          obtain ⟨r, rfl⟩ : ∃ r : Nat, ev = r := ⟨ev.toNat, by omega⟩
          have pn : p < n := by omega
          have rn : r < n := by omega
          have hejN : (es.map toN)[j]? = some (p, r, wt) := by
            rw [List.getElem?_map, hej]
            show some (toN _) = _
            simp [toN]
          have hjl := (List.getElem?_eq_some_iff.mp hejN).1
          rw [List.length_map] at hjl
          have ht := take_snoc hejN
          have hil := (List.getElem?_eq_some_iff.mp hTi).1
          have stay : ∀ H8, Ext H7 H8 → MT.cnd lw U (p, r, wt) = false → Ext H H8 ∧ H8 uq = some (.tup ((MT.bitsM n U).map fun k => V.int ((k : Nat) : Int))) ∧ H8 tb = some (.frz od (.dT kvs)) ∧ KvsT K n H8 kvs Tv ∧ ∃ kg, H8 gr = some (.dT kg) ∧ KvsT K n H8 kg (MT.fill ratS xU g0 (MT.cD ((es.map toN).take (j + 1)) lw U)) := fun H8 x8 hc => by
            refine ⟨e7.trans x8, x8.keep _ _ hq7 (fun _ z => by cases z), x8.keep _ _ htb7 (fun _ z => by cases z), hkv7.kp x8.kp, kg, x8.keep _ _ hgr7 (fun _ z => by cases z), ?_⟩
            rw [ht, cD_snoc, if_neg (by rw [hc]; decide), List.append_nil]
            exact hkg7.kp x8.kp
          refine ⟨a0, _, rfl, ha0, rfl, _, _, rfl, _, _, rfl, _, _, rfl, rfl, ?_⟩
          refine ⟨_, rfl, _, rfl, _, _, rfl, rfl, _, rfl, _, _, rfl, rfl, ?_⟩
          dsimp only [gName]
          refine ⟨_, rfl, _, rfl, _, rfl, sl2, fun tt htt => ⟨tt, _, rfl, .inr (SqT.of upd_same), rfl, rfl, _, rfl, ?_⟩⟩
          have x8 := ext_upd (o := .tup [.int ((p : Nat) : Int), .int ((r : Nat) : Int)]) htt
          generalize upd H7 tt (.tup [.int ((p : Nat) : Int), .int ((r : Nat) : Int)]) = H8 at *
          refine iteB (fun b1 => ?_) (fun b1 => iteF ⟨⟨_, _, _, _, _, rfl⟩, stay H8 x8 ?_⟩)
          · have b1 : inV (.int ((lw : Nat) : Int)) [.int ((p : Nat) : Int), .int ((r : Nat) : Int)] = true := b1
            rw [in2] at b1
            simp only [Bool.or_eq_true, decide_eq_true_eq] at b1
            refine ⟨_, rfl, _, rfl, _, _, rfl, rfl, _, rfl, iteB (fun b2 => ?_) (fun b2 => iteF ⟨⟨_, _, _, _, _, rfl⟩, stay H8 x8 ?_⟩)⟩
            · have b2 : ((lw : Nat) : Int) < ((p : Nat) : Int) + ((r : Nat) : Int) - ((lw : Nat) : Int) := of_decide_eq_true b2
              obtain ⟨o, ho⟩ : ∃ o : Nat, o = max p r := ⟨_, rfl⟩
              have eo : ((p : Nat) : Int) + ((r : Nat) : Int) - ((lw : Nat) : Int) = ((o : Nat) : Int) := by omega
              have on : o < n := by omega
              have npr : p ≠ r := by omega
              have hmn : min p r = lw := by omega
              have hq8 := x8.keep _ _ hq7 (fun _ z => by cases z)
              refine ⟨_, rfl, _, rfl, uq, _, rfl, .inr (SqT.of hq8), rfl, flat_ints _, _, rfl, iteB (fun b3 => ?_) (fun b3 => ⟨⟨_, _, _, _, _, rfl⟩, stay H8 x8 ?_⟩)⟩
              · have b3 : (!inV (.int (((p : Nat) : Int) + ((r : Nat) : Int) - ((lw : Nat) : Int))) ((MT.bitsM n U).map fun k => V.int ((k : Nat) : Int))) = true := b3
                rw [eo, in_bits on] at b3
                have fo : U.testBit o = false := by
                  cases q : U.testBit o with
                  | false => rfl
                  | true => rw [q] at b3; cases b3
                have hcnd : MT.cnd lw U (p, r, wt) = true := by
                  unfold MT.cnd
                  rw [decide_eq_true (show (p, r, wt).1 ≠ (p, r, wt).2.1 from npr), decide_eq_true (show min (p, r, wt).1 (p, r, wt).2.1 = lw from hmn)]
                  show (true && true && !U.testBit (max p r)) = true
                  rw [← ho, fo]
                  rfl
                have fp : U.testBit p = false ∧ U.testBit r = false := by
                  rcases Nat.lt_or_ge p r with z | z
                  · exact ⟨by rw [show p = lw by omega]; exact l2, by rw [show r = o by omega]; exact fo⟩
                  · exact ⟨by rw [show p = o by omega]; exact fo, by rw [show r = lw by omega]; exact l2⟩
                obtain ⟨W, hW⟩ : ∃ W, W = U ||| 2 ^ p ||| 2 ^ r := ⟨_, rfl⟩
                have W2 : W < 2 ^ n := by
                  rw [hW]
                  exact Nat.or_lt_two_pow (Nat.or_lt_two_pow hU2 (Nat.pow_lt_pow_right (by decide) pn)) (Nat.pow_lt_pow_right (by decide) rn)
                refine ⟨_, rfl, _, rfl, _, rfl, sl2, fun t2 ht2 => cat_any (SqT.of ((ext_upd ht2).keep _ _ hq8 (fun _ z => by cases z))) (SqT.of upd_same) ?_ fun pc H10 x10 hpc10 => ?_⟩
                · rw [List.length_map]
                  show _ + 2 ≤ _
                  omega
                have x9 := ext_upd (o := .tup [.int ((lw : Nat) : Int), .int (((p : Nat) : Int) + ((r : Nat) : Int) - ((lw : Nat) : Int))]) ht2
                have ens : ((MT.bitsM n U).map fun k => V.int ((k : Nat) : Int)) ++ [.int ((lw : Nat) : Int), .int (((p : Nat) : Int) + ((r : Nat) : Int) - ((lw : Nat) : Int))] = ((MT.bitsM n U).map (fun k => ((k : Nat) : Int)) ++ [((lw : Nat) : Int), ((o : Nat) : Int)]).map V.int := by
                  rw [eo, List.map_append, List.map_map]
                  rfl
                rw [ens] at hpc10
                refine ⟨pc, _, rfl, hpc10, ?_, fun ns' sp hperm hpw hsp => ?_⟩
                · rw [List.length_append, List.length_map]
                  show _ + 2 < _
                  omega
                have ens' : ns' = (MT.bitsM n W).map fun k => ((k : Nat) : Int) := by
                  rw [hW]
                  refine bits_sorted pn rn npr fp.1 fp.2 (hperm.trans (List.Perm.append_left _ ?_)) hpw
                  rcases Nat.lt_or_ge p r with z | z
                  · rw [show lw = p by omega, show o = r by omega]
                  · rw [show lw = r by omega, show o = p by omega]
                    exact List.Perm.swap _ _ _
                subst ens'
                have x11 := ext_upd (o := .lst (((MT.bitsM n W).map fun k => ((k : Nat) : Int)).map V.int)) hsp
                refine ⟨sp, _, rfl, .inl ⟨SqL.of upd_same, fun kt hkt => ?_⟩⟩
                have x12 := ext_upd (o := .tup (((MT.bitsM n W).map fun k => ((k : Nat) : Int)).map V.int)) hkt
                have hkt12 : upd (upd H10 sp (.lst (((MT.bitsM n W).map fun k => ((k : Nat) : Int)).map V.int))) kt (.tup (((MT.bitsM n W).map fun k => ((k : Nat) : Int)).map V.int)) kt = some (.tup ((keyM n W).map kV)) := by
                  rw [upd_same, key_vs, List.map_map]
                  rfl
                have s12 := (((x8.trans x9).trans x10).trans x11).trans x12
                dsimp only [gName]
                generalize upd (upd H10 sp (.lst (((MT.bitsM n W).map fun k => ((k : Nat) : Int)).map V.int))) kt (.tup (((MT.bitsM n W).map fun k => ((k : Nat) : Int)).map V.int)) = H12 at *
                have hgr12 := s12.keep _ _ hgr7 (fun _ z => by cases z)
                refine ⟨_, rfl, gr, rfl, .inr ⟨_, .inl hgr12⟩, _, rfl, sl2, fun t4 ht4 => ?_⟩
                have x13 := ext_upd (o := .tup [.int 0, .int 1]) ht4
                have k13 : upd H12 t4 (.tup [.int 0, .int 1]) t4 = some (.tup [.int 0, .int 1]) := upd_same
                have s13 := s12.trans x13
                generalize upd H12 t4 (.tup [.int 0, .int 1]) = H13 at *
                have hgr13 := s13.keep _ _ hgr7 (fun _ z => by cases z)
                have htb13 := s13.keep _ _ htb7 (fun _ z => by cases z)
                have hq13 := s13.keep _ _ hq7 (fun _ z => by cases z)
                have hkt13 := x13.keep _ _ hkt12 (fun _ z => by cases z)
                have hkv13 := hkv7.kp s13.kp
                have hkg13 := hkg7.kp s13.kp
                obtain ⟨_, hTi7, _, _, hvx7⟩ := paired_at hkv13 hi
                rw [hTi] at hTi7
                cases hTi7
                obtain ⟨va, eva, hva⟩ : FrV K H13 vv xU := hvx7
                have hq13' : H13 uq = some (.tup ((keyM n U).map kV)) := by
                  rw [key_vs]
                  exact hq13
                have hwa13 : Fr K H13 wa (fq wt) := s13.tup hwa
                have wsz : (frA K).Sz 1 1024 wt := SM.Iz.le iw (by decide)
                have kx : k ≤ 8 := by omega
                have xb1 : Xb k ≤ 2 ^ 1000 := Nat.pow_le_pow_right (by decide) (by omega)
                have smx : Sm xU := sm_iz hxz (by omega) xb1
                have smw : Sm wt := sm_iz (i := 1) wsz (by decide) (Nat.le_trans (by decide : 1024 ≤ 2 ^ 10) (Nat.pow_le_pow_right (by decide) (by decide)))
                refine ⟨_, DGet.t (k := keyM n W) hgr13 hkt13, _, rfl, _, rfl, tb, vv, rfl, .inr ⟨kvs, keyM n U, uq, .inr ⟨od, htb13⟩, rfl, hq13', (kvt_at hkv13 hnd hU2 hi).symm⟩, _, rfl, va, wa, fq xU, fq wt, by rw [eva]; rfl, hva, hwa13, okA_of smx smw, fun pm H14 s14 nm hpm => ?_⟩
                rw [SM.mulF_fq] at hpm
                have gz := fill_sz (A := frA K) hxz (MT.cD ((es.map toN).take j) lw U) g0 (i * 24) (cD_sz hiz) hsz5
                have lcd := cD_len ((es.map toN).take j) lw U
                rw [List.length_take, List.length_map] at lcd
                have bnd := sz_bnd (c := i * 24 + (MT.cD ((es.map toN).take j) lw U).length + 1) (v := k) (by omega) (by omega)
                have ggz := get_sz (A := frA K) (m := W) gz
                have hkg14 := hkg13.kp s14.ext.kp
                obtain ⟨ga, ega, hga⟩ := kvt_get (zv := .ref t4) ⟨t4, rfl, SqT.of (s14.ext.keep _ _ k13 (fun _ z => by cases z))⟩ W2 hkg14
                have smg : Sm (MT.getA ratS (MT.fill ratS xU g0 (MT.cD ((es.map toN).take j) lw U)) W) := sm_iz ggz (by omega) (Nat.le_trans (Nat.mul_le_mul_right _ (Nat.le_succ _)) bnd.1)
                have smp : Sm (xU * wt) := sm_iz (i := k + 1) ((frA K).sz_mul hxz wsz) (by omega) (Nat.le_trans (by
                  have : 1 * (Xb k * 1024) ≤ (i * 24 + (MT.cD ((es.map toN).take j) lw U).length + 1) * (Xb k * 1024) := Nat.mul_le_mul_right _ (Nat.le_add_left _ _)
                  rwa [Nat.one_mul] at this) bnd.1)
                refine ⟨ga, pm, fq _, fq (xU * wt), by rw [ega]; rfl, hga, SqT.of hpm, okA_of smg smp, fun pn' H15 s15 nn hpn => ?_⟩
                rw [SM.addF_fq] at hpn
                have t15 := s14.ext.trans s15.ext
                have u15 := s13.trans t15
                have hgr15 := t15.keep _ _ hgr13 (fun _ z => by cases z)
                have hkt15 := t15.keep _ _ hkt13 (fun _ z => by cases z)
                have hkg15 := hkg13.kp t15.kp
                have kpu : ∀ kv, Keep H15 (upd H15 gr (.dT kv)) := fun kv => keep_upd hgr15 dT_ntp
                have lf := fill_len (A := frA K) xU (MT.cD ((es.map toN).take j) lw U) g0
                have lf : (MT.fill ratS xU g0 (MT.cD ((es.map toN).take j) lw U)).length ≤ g0.length + (MT.cD ((es.map toN).take j) lw U).length := lf
                have lg0 : g0.length ≤ i * 24 := by
                  rw [← hg0]
                  exact lT2 i (by omega)
                refine ⟨_, rfl, _, rfl, gr, _, rfl, DPut.t (k := keyM n W) hgr15 hkt15 ?_, ⟨_, _, _, _, _, rfl⟩, (e7.trans u15).own ngr, ?_, ?_, ?_, _, upd_same, ?_⟩
                · rw [hkg15.length, sizeLine_eq]
                  omega
                · rw [upd_ne (fun z => by rw [z, hgr7] at hq7; cases hq7)]
                  exact u15.keep _ _ hq7 (fun _ z => by cases z)
                · rw [upd_ne ngt]
                  exact u15.keep _ _ htb7 (fun _ z => by cases z)
                · exact hkv7.kp (u15.kp.trans (kpu _))
                · have ef : MT.fill ratS xU g0 (MT.cD ((es.map toN).take (j + 1)) lw U) = MT.putA (MT.fill ratS xU g0 (MT.cD ((es.map toN).take j) lw U)) W (MT.getA ratS (MT.fill ratS xU g0 (MT.cD ((es.map toN).take j) lw U)) W + xU * wt) := by
                    rw [ht, cD_snoc, if_pos hcnd, hW]
                    unfold MT.fill
                    rw [List.foldl_append]
                    rfl
                  rw [ef]
                  exact kvt_put W2 (FrV.kp (kpu _) ⟨pn', rfl, SqT.of hpn⟩) (hkg15.kp (kpu _))
              · have b3 : (!inV (.int (((p : Nat) : Int) + ((r : Nat) : Int) - ((lw : Nat) : Int))) ((MT.bitsM n U).map fun k => V.int ((k : Nat) : Int))) = false := b3
                rw [eo, in_bits on] at b3
                have fo : U.testBit o = true := by
                  cases q : U.testBit o with
                  | true => rfl
                  | false => rw [q] at b3; cases b3
                unfold MT.cnd
                show (_ && _ && !U.testBit (max p r)) = false
                rw [← ho, fo, Bool.not_true, Bool.and_false]
            · have b2 : ¬ ((lw : Nat) : Int) < ((p : Nat) : Int) + ((r : Nat) : Int) - ((lw : Nat) : Int) := of_decide_eq_false b2
              unfold MT.cnd
              by_cases z : p = r
              · rw [decide_eq_false (show ¬ (p, r, wt).1 ≠ (p, r, wt).2.1 from fun h => h z)]
                rfl
              · rw [decide_eq_false (show ¬ min (p, r, wt).1 (p, r, wt).2.1 = lw from fun h => by
                  have h : min p r = lw := h
                  omega), Bool.and_false]
                rfl
          · have b1 : inV (.int ((lw : Nat) : Int)) [.int ((p : Nat) : Int), .int ((r : Nat) : Int)] = false := b1
            rw [in2] at b1
            simp only [Bool.or_eq_false_iff, decide_eq_false_iff_not] at b1
            unfold MT.cnd
            rw [decide_eq_false (show ¬ min p r = lw by omega), Bool.and_false]
            rfl
        · obtain ⟨⟨w8, w9, w10, w11, w12, rfl⟩, e7, hq7, htb7, hkv7, kg, hgr7, hkg7⟩ := hP
          have let' : (es.map toN).take xs.length = es.map toN := List.take_of_length_le (by rw [List.length_map]; omega)
          rw [let'] at hkg7
          have efold : (Tv.take (i + 1)).foldl (fun g p => MT.fill ratS p.2 g (MT.cD (es.map toN) (MT.lowF n p.1) p.1)) [] = MT.fill ratS xU g0 (MT.cD (es.map toN) lw U) := by
            rw [take_snoc hTi, List.foldl_append, hg0]
            show MT.fill ratS xU g0 (MT.cD (es.map toN) (MT.lowF n U) U) = _
            rw [hlw]
          refine ⟨⟨_, _, _, _, _, _, _, rfl⟩, e7, htb7, hkv7, ⟨kg, hgr7, by rw [efold]; exact hkg7⟩, fun p hp => ?_⟩
          rw [efold] at hp
          have gz := fill_sz (A := frA K) hxz (MT.cD (es.map toN) lw U) g0 (i * 24) (by
            have := cD_sz (K := K) hiz (v := lw) (U := U) (j := xs.length)
            rw [let'] at this
            exact this) hsz5 p hp
          have := cD_len (es.map toN) lw U
          rw [List.length_map] at this
          refine (frA K).sz_le (Nat.mul_le_mul_right _ ?_) gz
          omega
    · obtain ⟨⟨z5, z6, z8, z9, z10, z11, z12, rfl⟩, e5, htb5, hkv5, ⟨kg, hgr5, hkg5⟩, hsz5⟩ := hP
      rw [lkv, List.take_length] at hkg5 hsz5
      refine ⟨htb5, _, rfl, ⟨gr, kg, _, _, _, _, _, _, _, _, _, rfl, ngr, by rw [upd_ne ngt.symm]; exact hgr5, hkg5.kp (keep_upd htb5 frT_ntp)⟩, e5.own ntb, fun p hp => ?_⟩
      refine (frA K).sz_le ?_ (hsz5 p hp)
      exact (sz_bnd (c := Tv.length * 24) (v := k) (by omega) (by omega)).2
  · obtain ⟨⟨tb, kvs, y3, y4, y5, y6, y8, y9, y10, y11, y12, rfl, ntb, hkb, hkv⟩, e3, hsz⟩ := hP
    have lkv := hkv.length
    have eR : sumR n es = MT.Rd ratS n (es.map toN) 0 := rfl
    have zero : sumR n es = 0 → ∀ t, H3 t = none → Q (.ref t) (upd H3 t (.tup [.int 0, .int 1])) := fun h0 t ht => q _ _ (e3.trans (ext_upd ht)) ⟨t, rfl, SqT.of (by
      rw [h0, upd_same]
      rfl)⟩
    refine ⟨_, rfl, _, _, rfl, rfl, (by decide : (0 : Int) < 2), rfl, _, rfl, iteB (fun z1 => iteT ⟨sl2, fun t ht => zero ?_ t ht⟩) (fun z1 => ?_)⟩
    · have z1 := V.int.inj (of_decide_eq_true z1)
      rw [eR]
      exact MT.tabD_odd ratS n (es.map toN) hin (by omega)
    · have hev : n % 2 = 0 := by
        have z1 : ¬ _ = _ := of_decide_eq_false z1
        have : ¬ ((n : Nat) : Int) % 2 = 1 := fun h => z1 (congrArg V.int h)
        omega
      refine ⟨_, rfl, tb, kvs, rfl, hkb, rfl, _, rfl, iteB (fun z2 => ⟨sl2, fun t ht => zero ?_ t ht⟩) (fun z2 => ?_)⟩
      · have z2 := V.int.inj (of_decide_eq_true z2)
        rcases MT.tabD_even ratS n (es.map toN) hin hev with ⟨_, h⟩ | h
        · rw [eR]
          exact h
        · rw [h] at lkv
          have : kvs.length = 1 := lkv
          omega
      · rcases MT.tabD_even ratS n (es.map toN) hin hev with ⟨h, _⟩ | h
        · rw [h] at lkv
          have lkv : kvs.length = 0 := lkv
          rw [lkv] at z2
          simp at z2
        · rw [h] at hkv
          cases hkv with
          | cons h1 t =>
            cases t
            rename_i kv
            obtain ⟨kk, v⟩ := kv
            obtain ⟨hk, h2, hv⟩ := h1
            have hk : kk = keyM n (MT.low n) := hk
            subst hk
            have hb : MT.bitsM n (MT.low n) = List.range n := List.filter_eq_self.mpr fun i hi => by
              rw [MT.low_tb]
              exact decide_eq_true (List.mem_range.mp hi)
            have erg : rgV 0 ((n : Nat) : Int) = (keyM n (MT.low n)).map kV := by
              rw [key_vs, hb]
              unfold rgV
              rw [Int.sub_zero, Int.toNat_natCast]
              refine List.map_congr_left fun i _ => ?_
              rw [Int.zero_add]
            refine ⟨_, rfl, _, rfl, ((n : Nat) : Int), rfl, RgOk.of_le (by omega) (by omega) (by omega) (by omega), fun tq htq => ?_⟩
            have x9 := ext_upd (o := .tup (rgV 0 ((n : Nat) : Int))) htq
            have k9 : upd H3 tq (.tup (rgV 0 ((n : Nat) : Int))) tq = some (.tup ((keyM n (MT.low n)).map kV)) := by rw [upd_same, erg]
            have hkb9 := x9.keep _ _ hkb (fun _ z => by cases z)
            refine ⟨tb, v, rfl, ?_, q v _ (e3.trans x9) (FrV.kp x9.kp hv)⟩
            have := DGet.t (k := keyM n (MT.low n)) hkb9 k9
            rw [valV_pos rfl] at this
            exact this
/-! ### data that may be laid -/
def Gd (n : Nat) (d : PyData) : Prop := d.canLay0 = true ∧ d.depth ≤ n
theorem gd_int (i : Int) : Gd 3 (.int i) := ⟨by simp [PyData.canLay0], by simp [PyData.depth]⟩
theorem gd_all {n : Nat} : ∀ {ds : List PyData}, (∀ x ∈ ds, Gd n x) → PyData.canLayAll0 ds = true ∧ PyData.depthAll ds ≤ n
  | [], _ => ⟨by simp [PyData.canLayAll0], by simp [PyData.depthAll]⟩
  | d :: ds, h => by
    obtain ⟨h1, h2⟩ := h d List.mem_cons_self
    obtain ⟨h3, h4⟩ := gd_all fun x m => h x (List.mem_cons_of_mem _ m)
    simp only [PyData.canLayAll0, PyData.depthAll, h1, h3, Bool.and_self, true_and]
    omega
theorem gd_tup {n : Nat} {ds : List PyData} (h : ∀ x ∈ ds, Gd n x) : Gd (n + 1) (.tuple ds) := by
  obtain ⟨h1, h2⟩ := gd_all h
  refine ⟨by simp only [PyData.canLay0, h1], ?_⟩
  simp only [PyData.depth]
  omega
theorem gd_lst {n : Nat} {ds : List PyData} (h : ∀ x ∈ ds, Gd n x) : Gd (n + 1) (.list ds) := by
  obtain ⟨h1, h2⟩ := gd_all h
  refine ⟨by simp only [PyData.canLay0, h1], ?_⟩
  simp only [PyData.depth]
  omega
theorem Gd.up {n m : Nat} {d : PyData} (h : Gd n d) (k : n ≤ m) : Gd m d := ⟨h.1, Nat.le_trans h.2 k⟩
theorem Gd.sh {n : Nat} {d : PyData} (h : Gd n d) (k : n ≤ 64 := by decide) : SeqAt.shaped d = true := by
  unfold SeqAt.shaped
  rw [h.1, Bool.true_and]
  exact decide_eq_true (Nat.le_trans h.2 k)
theorem eqv_self {n : Nat} {d : PyData} (h : Gd n d) : PyData.eqv d d = true := SeqAt.eqv_refl d h.1
def wWhen (p : Prop) (t : TS) : TS := fun D σ H => p ∧ t D σ H
theorem pss_when {X : Cx} {p : Prop} {b : List Stmt} {t : TS} (h : p → PSs X b t) : PSs X b (wWhen p t) := ⟨fun pins s σ H D I q => (h q.1).run pins s σ H D I q.2⟩
def adV : Value → Addr
  | .ref a => a
  | _ => 0
theorem zc_of {K : PySem.W.Frag} {cls : Value} {d : Option Addr} {oe : Obj} (hq : cls = .ref (adV cls) ∧ d = none ∧ ExcC K (adV cls)) (hz : Zc cls d oe) : Zc (.ref (adV cls)) none oe := by
  obtain ⟨h1, h2, _⟩ := hq
  rw [← h1]
  subst h2
  exact hz
def Tg (_ : Top K mg) (_ : Hp) : Prop := True
def Tb (_ : Top K mg) (_ : Heap) : Prop := True
def spLaw (T : Top K mg) : Sp := fun vs H Q _ => ∃ (a : Addr) (ns : List Int), vs = [.ref a] ∧ SqL K H a (ns.map V.int) ∧ ∀ H', Q (.bl true) H'
theorem law_in (T : Top K mg) (H : Hp) (a : Addr) (ns : List Int) (hl : ns.length ≤ 63) (hb : ∀ z ∈ ns, Builtin.Int.intBits z ≤ 1048576) (G : Tg T H) (hS : SqL K H a (ns.map V.int)) : spLaw T [.ref a] H (fun v _ => v = .bl true) fun _ _ _ => False := ⟨a, ns, rfl, hS, fun _ => rfl⟩
def frD (r : Rat) : PyData := .tuple [.int (fq r).1, .int (fq r).2]
def edD (e : EgR) : PyData := .tuple [.int e.1, .int e.2.1, frD e.2.2]
theorem gd_frD (r : Rat) : Gd 4 (frD r) := gd_tup fun x m => by
  simp only [List.mem_cons, List.not_mem_nil, or_false] at m
  rcases m with rfl | rfl <;> exact gd_int _
theorem gd_edD (e : EgR) : Gd 5 (edD e) := gd_tup fun x m => by
  simp only [List.mem_cons, List.not_mem_nil, or_false] at m
  rcases m with rfl | rfl | rfl
  · exact (gd_int _).up (by decide)
  · exact (gd_int _).up (by decide)
  · exact gd_frD _
theorem gd_eds (es : List EgR) : Gd 6 (.list (es.map edD)) := gd_lst fun x m => by
  obtain ⟨e, _, rfl⟩ := List.mem_map.mp m
  exact gd_edD e
theorem fr_dp {H : Hp} {v : V} {r : Rat} (h : FrV K H v r) : Dp K H v (frD r) := by
  obtain ⟨a, rfl, g⟩ := h
  exact .tup g (.cons (.int _) (.cons (.int _) .nil))
theorem eds_dp {H : Hp} {p : Addr} {xs : List V} {es : List EgR} (hp : H p = some (.lst xs)) (h : Paired (EdR K H) xs es) : Dp K H (.ref p) (.list (es.map edD)) := .lst (SqL.of hp) (dpAll_of (fun v e ⟨a, wv, e1, g, k⟩ => e1 ▸ .tup g (.cons (.int _) (.cons (.int _) (.cons (fr_dp k) .nil)))) h)
theorem fr_tup (r : Rat) : tupD 4 (frD r) := by
  refine ⟨by simp, fun y n => ?_⟩
  simp only [List.mem_cons, List.not_mem_nil, or_false] at n
  rcases n with rfl | rfl <;> trivial
/-- the edges of the law, good or not -/
structure Mid (K : PySem.W.Frag) (H0 : Hp) (a : Addr) (cc : Int) (n : Nat) (el : Addr) (xs : List V) (es : List EgR) (H : Hp) : Prop where
  s : Ext H0 H
  n17 : n ≤ 17
  at' : H el = some (.lst xs)
  new : H0 el = none
  ed : Paired (EdR K H) xs es
  len : es.length ≤ 17
  iz : ∀ e ∈ es, SM.Iz 12 36 e.2.2
theorem paired_set {α β : Type} {R : α → β → Prop} : ∀ {as : List α} {bs : List β}, Paired R as bs → ∀ {a : α} {b : β}, R a b → ∀ k, Paired R (as.set k a) (bs.set k b)
  | _, _, .nil, _, _, _, _ => .nil
  | _, _, .cons _ t, _, _, h, 0 => .cons h t
  | _, _, .cons x t, _, _, h, k + 1 => .cons x (paired_set t h k)
def ringE (m i : Nat) : EgR := (((i : Nat) : Int), (((i : Nat) : Int) + 1) % ((m : Nat) : Int), 2)
theorem ok_law {f : Addr} {d : FuncData} (F : Fun K "law" "law" s_law f d) (T : Top K mg) (B : Tb T base) : FnOk P w K mg base CX0 8 f d ["script"] (spLaw T) := by
  refine F.ok sc_law (fun vs H Q E h => ?_) (fun cdv A outer s H vs Q E hr h => ?_)
  · obtain ⟨a, ns, rfl, _⟩ := h
    rfl
  obtain ⟨a, ns, rfl, hS, q⟩ := h
  refine ⟨_, (pss_cons (ps_set (i := 1) sc_law.nd rfl (by first | exact .inl rfl | exact .inr rfl) (pe_callB call_abs (by rfl) T.m_abs (by decide +kernel) (pa_cons (pe_call (ok_law_cell T) (hr.mono (by decide)) (by rfl) T.g_law_cell T.F_law_cell.kp T.b_law_cell .nil pass0 (pa_cons (pv 0) (pa_cons pe_int pa_nil))) pa_nil)))
      (pss_cons (ps_set (i := 2) sc_law.nd rfl (by first | exact .inl rfl | exact .inr rfl) (pe_op op_mod (pv 1) pe_int))
      (pss_cons (ps_set (i := 3) sc_law.nd rfl (by first | exact .inl rfl | exact .inr rfl) (pe_call (ok_law_weighted T) (hr.mono (by decide)) (by rfl) T.g_law_weighted T.F_law_weighted.kp T.b_law_weighted .nil pass0 (pa_cons (pe_call (ok_law_cell T) (hr.mono (by decide)) (by rfl) T.g_law_cell T.F_law_cell.kp T.b_law_cell .nil pass0 (pa_cons (pv 0) (pa_cons pe_int pa_nil))) (pa_cons (pv 2) (pa_cons pe_int pa_nil)))))
      (C8.pss_cut (ps_if (pt_cmpR op_eq (pe_op op_mod (pe_op op_fdivZ (pv 1) pe_int) pe_int) pe_int (nomark _)) (pss_cons (ps_set (i := 2) sc_law.nd rfl (by first | exact .inl rfl | exact .inr rfl) (pe_op op_add pe_int (pe_op op_mod (pe_op op_fdivZ (pv 1) pe_int) pe_int)))
      (pss_one (ps_setLc (i := 3) (own := [("k", 4)]) (g := gName 4) (tt := tYes) rfl sc_law.nd rfl rfl (sw_true rfl rfl rfl (by decide +kernel)) (pi_range1 (by rfl) T.m_range (pa_cons (pv 2) pa_nil)) (blkOk_by (own := [("k", 4)]) (N := n_law) (sc := defScope s_law) (by decide +kernel)) (fun _ _ _ _ _ => (pg_name (i := 4) sc_law.nd rfl (by first | exact .inl rfl | exact .inr rfl))) (fun _ _ _ _ _ => pts_nil) (fun _ _ _ _ _ => (pe_tup (pa_cons (pv 4) (pa_cons (pe_op op_mod (pe_op op_add (pv 4) pe_int) (pv 2)) (pa_cons (pe_tup (pa_cons pe_int (pa_cons pe_int pa_nil))) pa_nil)))))))) pss_nil)
      (C8.pss_cut (ps_if (PW.pt (pw_and (pt_cmpR op_eq (pe_op op_mod (pe_op op_fdivZ (pv 1) pe_int) pe_int) pe_int (nomark _)) (pw_and1 (pt_cmpR op_gt (pe_callB call_len_seq (by rfl) T.m_len (by decide +kernel) (pa_cons (pv 3) pa_nil)) pe_int (nomark _))))) (pss_cons (ps_asg (pe_ix ix_list (pv 3) (pe_un un_neg pe_int) (fun _ _ => rfl)) (pg_tup rfl (pgs_cons (pg_name (i := 5) sc_law.nd rfl (by first | exact .inl rfl | exact .inr rfl)) (pgs_cons (pg_name (i := 6) sc_law.nd rfl (by first | exact .inl rfl | exact .inr rfl)) (pgs_cons (pg_name (i := 7) sc_law.nd rfl (by first | exact .inl rfl | exact .inr rfl)) pgs_nil)))))
      (pss_one (ps_asg (pe_ix ix_tup (pe_tup (pa_cons (pe_tup (pa_cons (pe_un un_neg pe_int) (pa_cons (pv 6) (pa_cons (pv 7) pa_nil)))) (pa_cons (pe_tup (pa_cons (pv 5) (pa_cons (pv 2) (pa_cons (pv 7) pa_nil)))) (pa_cons (pe_tup (pa_cons (pv 2) (pa_cons (pv 6) (pa_cons (pv 7) pa_nil)))) pa_nil)))) (pe_op op_mod (pe_op op_fdivZ (pv 1) pe_int) pe_int) (fun _ _ => rfl)) (pg_sub (pv 3) (pe_un un_neg pe_int) set_list)))) pss_nil)
      (pss_cons (ps_set (i := 8) sc_law.nd rfl (by first | exact .inl rfl | exact .inr rfl) (pe_cmpR op_eq (pe_callB call_len_seq (by rfl) T.m_len (by decide +kernel) (pa_cons (pe_lc (own := [("u", 5), ("v", 6), ("weight", 7)]) (g := gTup K 3 (gCons (gName 5) (gCons (gName 6) (gCons (gName 7) gNil)))) rfl sc_law.nd (pi_list (pv 3)) (blkOk_by (own := [("u", 5), ("v", 6), ("weight", 7)]) (N := n_law) (sc := defScope s_law) (by decide +kernel)) (fun _ _ _ _ _ => (pg_tup rfl (pgs_cons (pg_name (i := 5) sc_law.nd rfl (by first | exact .inl rfl | exact .inr rfl)) (pgs_cons (pg_name (i := 6) sc_law.nd rfl (by first | exact .inl rfl | exact .inr rfl)) (pgs_cons (pg_name (i := 7) sc_law.nd rfl (by first | exact .inl rfl | exact .inr rfl)) pgs_nil))))) (fun _ _ _ _ _ => pts_one (PW.pt (pw_or (pt_cmpR op_lt (pe_callB (call_min2 rfl) (by rfl) T.m_min (by decide +kernel) (pa_cons (pv 5) (pa_cons (pv 6) pa_nil))) pe_int (nomark _)) (pw_or1 (pt_cmpR op_ge (pe_callB (call_max2 rfl) (by rfl) T.m_max (by decide +kernel) (pa_cons (pv 5) (pa_cons (pv 6) pa_nil))) (pv 2) (nomark _)))))) (fun _ _ _ _ _ => pe_int)) pa_nil)) pe_int (nomark _)))
      (pss_cons (ps_set (i := 9) sc_law.nd rfl (by first | exact .inl rfl | exact .inr rfl) (pe_callTy call_list_of (by rfl) T.m_list (by decide +kernel) (pa_cons (pv 3) pa_nil)))
      (C8.pss_cut (ps_try_as (i := 11) (tb := fun W => tAsg (tCallS (spMS T) (WE W) _) (gName 10)) (ts := fun a cls d => wWhen (cls = .ref (adV cls) ∧ d = none ∧ ExcC K (adV cls)) _) (Wout := fun _ _ _ _ => False) rfl rfl sc_law.nd rfl rfl ⟨rfl, by decide, Or.inl T.g_FieldError⟩ takes0 (fun W pn xe tk _ => pss_one (ps_set (i := 10) sc_law.nd rfl (Or.inl rfl) (pe_callS (ok_matching_sum T) (hr.mono (by decide)) (by rfl) T.g_matching_sum T.F_matching_sum.kp T.b_matching_sum (fun σ => passAt tk σ) (pa_cons (pv 2) (pa_cons (pv 9) pa_nil))))) (fun a oe cls d pn hz hf => pss_when fun hq => (pss_cons (ps_if (pt_val (pe_callB (r := rIsE K (adV cls) a) (call_isE hq.2.2 (zc_of hq hz) hf) (by rfl) T.m_isinstance (by decide +kernel) (pa_cons (pv 11) (pa_cons (pe_glob (v := .ref T.f_InvalidWeight) (by rfl) T.g_InvalidWeight rfl) pa_nil)))) (pss_one (ps_ret (pe_and (pe_not (pv 8)) (pe_one (pe_cmpR (r := rEqD K) (op_eqD hr.units) (pv 9) (pv 3) (nomark _)))))) pss_nil)
      (pss_one (ps_ret (pe_and (pv 8) (pe_and (pe_callB (r := rIsE K (adV cls) a) (call_isE hq.2.2 (zc_of hq hz) hf) (by rfl) T.m_isinstance (by decide +kernel) (pa_cons (pv 11) (pa_cons (pe_glob (v := .ref T.f_TooLarge) (by rfl) T.g_TooLarge rfl) pa_nil))) (pe_one (pe_cmpR op_gt (pv 2) pe_int (nomark _))))))))))
      (pss_cons (ps_if (PW.pt (pw_or (pt_not (pt_truth (pv 8) (by intro _; rfl))) (pw_or (pt_cmpR op_gt (pv 2) pe_int (nomark _)) (pw_or (pt_cmpR (op_neD hr.units) (pv 9) (pv 3) (nomark _)) (pw_or1 (pt_not (pt_val (pe_call (ok_law_tuples T 4) (hr.mono (by decide)) (by rfl) T.g_law_tuples T.F_law_tuples.kp T.b_law_tuples .nil pass0 (pa_cons (pv 10) pa_nil))))))))) (pss_one (ps_ret pe_bl)) pss_nil)
      (pss_one (ps_ret (pe_cmpR (op_eqD hr.units) (pv 10) (pe_call (ok_law_dimers T) (hr.mono (by decide)) (by rfl) T.g_law_dimers T.F_law_dimers.kp T.b_law_dimers .nil pass0 (pa_cons (pv 2) (pa_cons (pv 3) pa_nil))) (nomark _))))))))))))), ?_⟩
  refine ⟨_, rfl, a, ns, 0, rfl, hS, cellZ ns 0, rfl, ?_⟩
  have c0 : 0 ≤ (if cellZ ns 0 < 0 then -cellZ ns 0 else cellZ ns 0) := by split <;> omega
  dsimp only [gName]
  generalize (if cellZ ns 0 < 0 then -cellZ ns 0 else cellZ ns 0) = cc at *
  refine ⟨_, rfl, _, _, rfl, rfl, (by decide : (0 : Int) < 7), ?_⟩
  obtain ⟨n, hn, n6⟩ : ∃ n : Nat, (cc % 7 : Int) = n ∧ n ≤ 6 := ⟨(cc % 7).toNat, by omega, by omega⟩
  dsimp only [gName]
  rw [hn]
  refine ⟨_, rfl, a, ns, 1, rfl, hS, _, rfl, cellZ ns 1, n, rfl, by omega, fun el H1 xs es s1 nel hel hes l9 hg hz => ?_⟩
  dsimp only [gName]
  have M0 : Mid K H a cc n el xs es H1 := ⟨s1, by omega, hel, nel, hes, by omega, hz⟩
  refine ⟨fun σ H2 => ∃ n el xs es y4, σ = [some (.ref a), some (.int cc), some (.int ((n : Nat) : Int)), some (.ref el), y4, none, none, none, none, none, none, none] ∧ Mid K H a cc n el xs es H2, ?_, ?_⟩
  · refine ⟨_, rfl, _, _, rfl, rfl, ⟨by decide, by decide⟩, _, _, rfl, rfl, (by decide : (0 : Int) < 16), rfl, _, rfl, iteB (fun z1 => ?_) (fun z1 => ⟨n, el, xs, es, none, rfl, M0⟩)⟩
    refine ⟨_, rfl, _, _, rfl, rfl, ⟨by decide, by decide⟩, _, _, rfl, rfl, (by decide : (0 : Int) < 2), _, _, rfl, rfl, ?_⟩
    obtain ⟨m, hm, m1, m2⟩ : ∃ m : Nat, (16 + cc.fdiv 128 % 2 : Int) = m ∧ 16 ≤ m ∧ m ≤ 17 := ⟨(16 + cc.fdiv 128 % 2).toNat, by omega, by omega, by omega⟩
    dsimp only [gName]
    rw [hm]
    have pm : (0 : Int) < ((m : Nat) : Int) := by omega
    refine ⟨_, rfl, _, rfl, by omega, by omega, fun D hD => lc_range (lo := 0) (n := m) (fun i H3 => Ext H1 H3 ∧ ∃ ys, H3 D = some (.lst ys) ∧ Paired (EdR K H3) ys ((List.range i).map (ringE m))) ⟨ext_upd hD, [], upd_same, .nil⟩ (fun i H3 hi hP => ?_) (fun H3 hP => ?_)⟩
    · obtain ⟨s3, ys, hys, hp⟩ := hP
      have z0 : (0 : Int) + ((i : Nat) : Int) = ((i : Nat) : Int) := Int.zero_add _
      have ly := hp.length
      rw [List.length_map, List.length_range] at ly
      dsimp only [gName]
      rw [z0]
      refine ⟨rfl, _, rfl, _, rfl, _, _, rfl, rfl, _, rfl, _, _, rfl, rfl, pm, sl2, fun t1 h1 => ⟨sl_of (by simp), fun t2 h2 => ?_⟩⟩
      have x4 := ext_upd (o := .tup [.int 2, .int 1]) h1
      have k4 : upd H3 t1 (.tup [.int 2, .int 1]) t1 = some (.tup [.int 2, .int 1]) := upd_same
      have x5 := ext_upd (o := .tup [.int ((i : Nat) : Int), .int ((((i : Nat) : Int) + 1) % ((m : Nat) : Int)), .ref t1]) h2
      have hys5 := x5.lst (x4.lst hys)
      refine ⟨ys, hys5, sl_lt (by omega), (s3.trans (x4.trans x5)).own hD, ys ++ [.ref t2], upd_same, ?_⟩
      rw [List.range_succ, List.map_append]
      exact paired_snoc (edr_upd hys5 (edr_up (x4.trans x5) hp)) ⟨t2, .ref t1, rfl, sqt_updL hys5 (SqT.of upd_same), t1, rfl, sqt_updL hys5 (SqT.of (x5.keep _ _ k4 (fun _ z => by cases z)))⟩
    · obtain ⟨s3, ys, hys, hp⟩ := hP
      refine ⟨m, D, ys, _, _, rfl, s1.trans s3, m2, hys, s1.free hD, hp, by rw [List.length_map, List.length_range]; exact m2, fun e he => ?_⟩
      obtain ⟨k, _, rfl⟩ := List.mem_map.mp he
      have := iz_nat (k := 2) (i := 1) (X := 36) (by decide)
      rwa [Nat.pow_one] at this
  rintro σ H2 ⟨n, el, xs, es, y4, rfl, M⟩
  refine ⟨fun σ H3 => ∃ n el xs es y4 y5 y6 y7, σ = [some (.ref a), some (.int cc), some (.int ((n : Nat) : Int)), some (.ref el), y4, y5, y6, y7, none, none, none, none] ∧ Mid K H a cc n el xs es H3, ?_, ?_⟩
  · refine ⟨_, rfl, _, _, rfl, rfl, ⟨by decide, by decide⟩, _, _, rfl, rfl, (by decide : (0 : Int) < 4), rfl, _, rfl, iteB (fun z1 => ?_) (fun z1 => iteF ⟨n, el, xs, es, y4, _, _, _, rfl, M⟩)⟩
    refine ⟨_, rfl, el, xs, rfl, .inl (SqL.of M.at'), _, _, rfl, rfl, _, rfl, iteB (fun z2 => ?_) (fun z2 => ⟨n, el, xs, es, y4, _, _, _, rfl, M⟩)⟩
    have z2 : (0 : Int) < ((xs.length : Nat) : Int) := of_decide_eq_true z2
    have lx := M.ed.length
    obtain ⟨x0, hx0⟩ : ∃ x0, xs[xs.length - 1]? = some x0 := ⟨_, List.getElem?_eq_getElem (by omega)⟩
    have ixm : ixN xs.length (-1) = some (xs.length - 1) := by
      unfold ixN
      rw [if_neg (by decide), if_pos (by omega)]
      congr 1
      omega
    obtain ⟨⟨eu, ev, wt⟩, hek, a0, wv, rfl, ha0, wa, rfl, hwa⟩ := paired_at M.ed hx0
    have ha0 : SqT K H2 a0 [.int eu, .int ev, .ref wa] := ha0
    have iw : SM.Iz 12 36 wt := M.iz _ (List.mem_of_getElem? hek)
    refine ⟨_, rfl, 1, rfl, el, xs, _, .ref a0, rfl, rfl, SqL.of M.at', by unfold atI; rw [ixm]; exact hx0, a0, _, rfl, ha0, rfl, _, _, rfl, _, _, rfl, _, _, rfl, rfl, ?_⟩
    refine ⟨1, rfl, _, rfl, _, rfl, sl_of (by simp), fun p1 hp1 => ⟨_, rfl, _, rfl, _, rfl, sl_of (by simp), fun p2 hp2 => ⟨_, rfl, _, rfl, _, rfl, sl_of (by simp), fun p3 hp3 => ⟨sl_of (by simp), fun p4 hp4 => ?_⟩⟩⟩⟩
    have x1 := ext_upd (o := .tup [.int (-1), .int ev, .ref wa]) hp1
    have k1 : upd H2 p1 (.tup [.int (-1), .int ev, .ref wa]) p1 = some (.tup [.int (-1), .int ev, .ref wa]) := upd_same
    have x2 := ext_upd (o := .tup [.int eu, .int ((n : Nat) : Int), .ref wa]) hp2
    have k2 : upd (upd H2 p1 (.tup [.int (-1), .int ev, .ref wa])) p2 (.tup [.int eu, .int ((n : Nat) : Int), .ref wa]) p2 = some (.tup [.int eu, .int ((n : Nat) : Int), .ref wa]) := upd_same
    have x3 := ext_upd (o := .tup [.int ((n : Nat) : Int), .int ev, .ref wa]) hp3
    have k3 : upd (upd (upd H2 p1 (.tup [.int (-1), .int ev, .ref wa])) p2 (.tup [.int eu, .int ((n : Nat) : Int), .ref wa])) p3 (.tup [.int ((n : Nat) : Int), .int ev, .ref wa]) p3 = some (.tup [.int ((n : Nat) : Int), .int ev, .ref wa]) := upd_same
    have x4 := ext_upd (o := .tup [.ref p1, .ref p2, .ref p3]) hp4
    have g1 := ((x2.trans x3).trans x4).keep _ _ k1 (fun _ z => by cases z)
    have g2 := (x3.trans x4).keep _ _ k2 (fun _ z => by cases z)
    have g3 := x4.keep _ _ k3 (fun _ z => by cases z)
    have x14 := ((x1.trans x2).trans x3).trans x4
    obtain ⟨t, e', ht, hte, hie⟩ : ∃ (t : Addr) (e' : EgR), atI [V.ref p1, .ref p2, .ref p3] (cc.fdiv 32 % 3) = some (.ref t) ∧ EdR K (upd (upd (upd (upd H2 p1 (.tup [.int (-1), .int ev, .ref wa])) p2 (.tup [.int eu, .int ((n : Nat) : Int), .ref wa])) p3 (.tup [.int ((n : Nat) : Int), .int ev, .ref wa])) p4 (.tup [.ref p1, .ref p2, .ref p3])) (.ref t) e' ∧ SM.Iz 12 36 e'.2.2 := by
      have : cc.fdiv 32 % 3 = 0 ∨ cc.fdiv 32 % 3 = 1 ∨ cc.fdiv 32 % 3 = 2 := by omega
      rcases this with h | h | h
      · exact ⟨p1, (-1, ev, wt), by rw [h]; rfl, ⟨p1, .ref wa, rfl, SqT.of g1, wa, rfl, x14.tup hwa⟩, iw⟩
      · exact ⟨p2, (eu, ((n : Nat) : Int), wt), by rw [h]; rfl, ⟨p2, .ref wa, rfl, SqT.of g2, wa, rfl, x14.tup hwa⟩, iw⟩
      · exact ⟨p3, (((n : Nat) : Int), ev, wt), by rw [h]; rfl, ⟨p3, .ref wa, rfl, SqT.of g3, wa, rfl, x14.tup hwa⟩, iw⟩
    have hxs4 := x14.lst M.at'
    refine ⟨_, rfl, _, _, rfl, rfl, ⟨by decide, by decide⟩, _, _, rfl, rfl, (by decide : (0 : Int) < 3), p4, _, _, .ref t, rfl, rfl, SqT.of upd_same, ht, ?_⟩
    refine ⟨_, rfl, 1, rfl, el, xs, _, _, rfl, rfl, hxs4, ixm, n, el, _, es.set (xs.length - 1) e', y4, _, _, _, rfl, (M.s.trans x14).own M.new, M.n17, upd_same, M.new, edr_upd hxs4 (paired_set (edr_up x14 M.ed) hte _), by rw [List.length_set]; exact M.len, fun e he => ?_⟩
    rcases List.mem_or_eq_of_mem_set he with he | he
    · exact M.iz e he
    · rw [he]
      exact hie
  rintro σ H3 ⟨n, el, xs, es, y4, y5, y6, y7, rfl, M⟩
  have lx := M.ed.length
  refine ⟨_, rfl, el, rfl, ⟨_, SqL.of M.at'⟩, fun D hD => lc_list (xs := xs) (fun i H4 => Ext H3 H4 ∧ H4 D = some (.lst (List.replicate ((es.take i).filter fun e => !decide (inB (n : Int) (e.1, e.2.1))).length (V.int 1)))) ⟨ext_upd hD, upd_same⟩ (fun i H4 _ h => SqL.of (h.1.lst M.at')) (fun i x H4 hi hP => ?_) (fun H4 hP => ?_)⟩
  · obtain ⟨s4, hD4⟩ := hP
    obtain ⟨⟨eu, ev, wt⟩, hek, a0, wv, rfl, ha0, wa, rfl, hwa⟩ := paired_at (edr_up s4 M.ed) hi
    have ha0 : SqT K H4 a0 [.int eu, .int ev, .ref wa] := ha0
    have ll := List.length_filter_le (fun e : EgR => !decide (inB (n : Int) (e.1, e.2.1))) (es.take i)
    rw [List.length_take] at ll
    have l17 := M.len
    rw [take_snoc hek, List.filter_append]
    have bad : ¬ inB (n : Int) (eu, ev) → ∃ acc, H4 D = some (.lst acc) ∧ acc.length < sizeLine ∧ Ext H3 (upd H4 D (.lst (acc ++ [V.int 1]))) ∧ upd H4 D (.lst (acc ++ [V.int 1])) D = some (.lst (List.replicate ((es.take i).filter (fun e => !decide (inB (n : Int) (e.1, e.2.1))) ++ [(eu, ev, wt)].filter (fun e => !decide (inB (n : Int) (e.1, e.2.1)))).length (V.int 1))) := fun hb => by
      refine ⟨_, hD4, sl_lt (by rw [List.length_replicate]; omega), s4.own hD, ?_⟩
      rw [upd_same, List.filter_cons_of_pos (p := fun e : EgR => !decide (inB (n : Int) (e.1, e.2.1))) (a := (eu, ev, wt)) (by show (!decide (inB (n : Int) (eu, ev))) = true; rw [decide_eq_false hb]; rfl), List.filter_nil, List.length_append, List.length_singleton, List.replicate_succ']
    refine ⟨a0, _, rfl, ha0, rfl, _, _, rfl, _, _, rfl, _, _, rfl, rfl, rfl, _, rfl, _, rfl, _, _, rfl, _, _, rfl, rfl, _, rfl, ite2 (fun b1 => ?_) (fun b1 => ?_)⟩
    · have b1 : (if ev < eu then ev else eu) < 0 := of_decide_eq_true b1
      refine iteT (bad fun h => ?_)
      obtain ⟨a1, a2, a3, a4⟩ := h
      have a1 : 0 ≤ eu := a1
      have a3 : 0 ≤ ev := a3
      split at b1 <;> omega
    · have b1 : ¬ (if ev < eu then ev else eu) < 0 := fun z => b1 (decide_eq_true z)
      refine ⟨_, rfl, _, rfl, _, _, rfl, _, rfl, _, _, rfl, rfl, _, rfl, iteB (fun b2 => bad fun h => ?_) (fun b2 => ⟨s4, ?_⟩)⟩
      · have b2 : ((n : Nat) : Int) ≤ (if ev > eu then ev else eu) := of_decide_eq_true b2
        obtain ⟨a1, a2, a3, a4⟩ := h
        have a2 : eu < (n : Int) := a2
        have a4 : ev < (n : Int) := a4
        split at b2 <;> omega
      · have b2 : ¬ ((n : Nat) : Int) ≤ (if ev > eu then ev else eu) := of_decide_eq_false b2
        have hb : inB (n : Int) (eu, ev) := by
          refine ⟨?_, ?_, ?_, ?_⟩
          · show 0 ≤ eu
            split at b1 <;> omega
          · show eu < (n : Int)
            split at b2 <;> omega
          · show 0 ≤ ev
            split at b1 <;> omega
          · show ev < (n : Int)
            split at b2 <;> omega
        rw [List.filter_cons_of_neg (p := fun e : EgR => !decide (inB (n : Int) (e.1, e.2.1))) (a := (eu, ev, wt)) (by show ¬ (!decide (inB (n : Int) (eu, ev))) = true; rw [decide_eq_true hb]; decide), List.filter_nil, List.append_nil]
        exact hD4
  · obtain ⟨s4, hD4⟩ := hP
    rw [lx, List.take_length] at hD4
    have eg : decide (V.int (((List.replicate (es.filter fun e => !decide (inB (n : Int) (e.1, e.2.1))).length (V.int 1)).length : Nat) : Int) = V.int 0) = decide (goodR n es) := by
      refine decide_eq_decide.mpr ?_
      rw [List.length_replicate]
      constructor
      · intro h e he
        have h := V.int.inj h
        have h0 : (es.filter fun e => !decide (inB (n : Int) (e.1, e.2.1))) = [] := List.length_eq_zero_iff.mp (by omega)
        have := List.filter_eq_nil_iff.mp h0 e he
        by_cases q : inB (n : Int) (e.1, e.2.1)
        · exact q
        · rw [decide_eq_false q] at this
          exact absurd rfl this
      · intro h
        rw [List.filter_eq_nil_iff.mpr fun e he => by rw [decide_eq_true (h e he)]; decide]
        rfl
    refine ⟨D, _, rfl, .inl (SqL.of hD4), rfl, ?_⟩
    rw [eg]
    dsimp only [gName]
    have hxs4 := s4.lst M.at'
    refine ⟨_, rfl, el, xs, rfl, .inl (SqL.of hxs4), fun cl hcl => ?_⟩
    have x5 := ext_upd (o := .lst xs) hcl
    have k5 : upd H4 cl (.lst xs) cl = some (.lst xs) := upd_same
    have hxs5 := x5.lst hxs4
    have hes5 := edr_up (s4.trans x5) M.ed
    dsimp only [gName]
    have l17 := M.len
    have n17 := M.n17
    generalize upd H4 cl (.lst xs) = H5 at *
    refine ⟨fun σ H6 => ∃ v y11, σ = [some (.ref a), some (.int cc), some (.int ((n : Nat) : Int)), some (.ref el), y4, y5, y6, y7, some (.bl (decide (goodR n es))), some (.ref cl), some v, y11] ∧ Ext H5 H6 ∧ goodR n es ∧ n ≤ 16 ∧ FrV K H6 v (sumR n es), ?_, ?_⟩
    · refine ⟨_, rfl, _, rfl, n, cl, xs, es, rfl, SqL.of k5, hes5, by omega, M.iz, fun hg hn v H6 s6 hv => ?_, fun hg => ?_, fun hg hn => ?_⟩
      · exact ⟨v, none, rfl, s6, hg, hn, hv⟩
      · refine ⟨true, T.xm_InvalidWeight, fun _ a0 ha0 => ⟨⟨rfl, rfl, T.ec_InvalidWeight⟩, ?_⟩, fun z => Bool.noConfusion z⟩
        rw [decide_eq_false hg]
        refine ⟨_, rfl, _, .ref T.f_InvalidWeight, true, rfl, fun u r => r, T.ki_InvalidWeight, _, rfl, iteT ?_⟩
        refine ⟨_, rfl, _, rfl, _, rfl, iteT ⟨_, rfl, _, rfl, _, _, eds_dp k5 hes5, eds_dp hxs5 hes5, (gd_eds _).sh, (gd_eds _).sh, ?_⟩⟩
        rw [eqv_self (gd_eds _)]
        exact q _
      · refine ⟨true, T.xm_TooLarge, fun _ a0 ha0 => ⟨⟨rfl, rfl, T.ec_TooLarge⟩, ?_⟩, fun z => Bool.noConfusion z⟩
        rw [decide_eq_true hg]
        refine ⟨_, rfl, _, .ref T.f_InvalidWeight, false, rfl, fun u r => r, T.kn_TooLarge, _, rfl, iteF ?_⟩
        refine ⟨_, rfl, _, rfl, iteT ⟨_, rfl, _, .ref T.f_TooLarge, true, rfl, fun u r => r, T.ki_TooLarge, _, rfl, iteT ⟨_, rfl, _, _, rfl, rfl, ?_⟩⟩⟩
        show Q (V.bl (decide ((16 : Int) < ((n : Nat) : Int)))) _
        rw [decide_eq_true (show (16 : Int) < ((n : Nat) : Int) by omega)]
        exact q _
    rintro σ H6 ⟨v, y11, rfl, s6, hg, hn, hv⟩
    rw [decide_eq_true hg]
    have d1 := eds_dp (s6.lst k5) (edr_up s6 hes5)
    have d2 := eds_dp (s6.lst hxs5) (edr_up s6 hes5)
    refine ⟨_, rfl, _, rfl, iteF ⟨_, rfl, _, _, rfl, rfl, _, rfl, ?_⟩⟩
    rw [decide_eq_false (show ¬ (16 : Int) < ((n : Nat) : Int) by omega)]
    refine iteF ⟨_, rfl, _, rfl, _, _, d1, d2, (gd_eds _).sh, (gd_eds _).sh, ?_⟩
    rw [eqv_self (gd_eds _)]
    refine ⟨_, rfl, iteF ⟨_, rfl, v, frD (sumR n es), rfl, fr_dp hv, fr_tup _, fun H7 s7 => ⟨_, rfl, iteF ?_⟩⟩⟩
    have s57 := s6.trans s7.ext
    refine ⟨_, rfl, _, rfl, _, rfl, n, el, xs, es, rfl, SqL.of (s57.lst hxs5), edr_up s57 hes5, hg, hn, by omega, M.iz, fun v2 H8 s8 hv2 => ?_⟩
    refine ⟨_, _, fr_dp (hv.kp (s7.ext.trans s8).kp), fr_dp hv2, (gd_frD _).sh, (gd_frD _).sh, ?_⟩
    rw [eqv_self (gd_frD _)]
    exact q _
theorem tabG0 {H : Hp} {p : Addr} (h : H p = some (.tbl #[])) : GxR.TabG H p := ⟨#[], h, by simp [TriplesOk]⟩
end
theorem all_mk {l : PySem.W.OpenLaw} {q : Program} {w : World} {K : PySem.W.Frag} {h : Heap} {mg : Str → Option Value} {fa : Addr} (X : K.In h) (G : h.Ns mainGlobals mg) (hfa : mg "law" = some (.ref fa)) (AT : LamX.AllTab q K h)
    {f0 f1 f2 f3 f4 f5 f6 f7 f8 f9 f10 f11 f12 f13 f14 f15 f16 f17 X_FieldError X_InvalidWeight X_TooLarge : Addr}
    {oc0 kV0 dc0 pm0 ct0 cd0 oc1 kV1 dc1 pm1 ct1 cd1 oc2 kV2 dc2 pm2 ct2 cd2 oc3 kV3 dc3 pm3 ct3 cd3 oc4 kV4 dc4 pm4 ct4 cd4 oc5 kV5 dc5 pm5 ct5 cd5 oc6 kV6 dc6 pm6 ct6 cd6 oc7 kV7 dc7 pm7 ct7 cd7 oc8 kV8 dc8 pm8 ct8 cd8 oc9 kV9 dc9 pm9 ct9 cd9 oc10 kV10 dc10 pm10 ct10 cd10 oc11 kV11 dc11 pm11 ct11 cd11 oc12 kV12 dc12 pm12 ct12 cd12 oc13 kV13 dc13 pm13 ct13 cd13 oc14 kV14 dc14 pm14 ct14 cd14 oc15 kV15 dc15 pm15 ct15 cd15 oc16 kV16 dc16 pm16 ct16 cd16 oc17 kV17 dc17 pm17 ct17 cd17 : Value}
    {od0 an0 od1 an1 od2 an2 od3 an3 od4 an4 od5 an5 od6 an6 od7 an7 od8 an8 od9 an9 od10 an10 od11 an11 od12 an12 od13 an13 od14 an14 od15 an15 od16 an16 od17 an17 : Option Addr}
    {sl0 sl1 sl2 sl3 sl4 sl5 sl6 sl7 sl8 sl9 sl10 sl11 sl12 sl13 sl14 sl15 sl16 sl17 : Array (Option Value)}
    {tk_MOST_VERTICES : Tok}
    (a0 : PySem.W.nsIn K mainGlobals "fraction" = some (some (.ref f0)))
    (l0 : K.lookup f0 = some ⟨oc0, od0, .func (PySem.W.fnOf "fraction" "fraction" (defArgs s_fraction) (defBody s_fraction) (defScope s_fraction) .none kV0 dc0 pm0 an0 cd0 ct0), sl0⟩)
    (x0 : PySem.W.codeIn K cd0 "fraction" = true)
    (k0 : PySem.W.keepIn K (.ref f0) = true)
    (a1 : PySem.W.nsIn K mainGlobals "add" = some (some (.ref f1)))
    (l1 : K.lookup f1 = some ⟨oc1, od1, .func (PySem.W.fnOf "add" "add" (defArgs s_add) (defBody s_add) (defScope s_add) .none kV1 dc1 pm1 an1 cd1 ct1), sl1⟩)
    (x1 : PySem.W.codeIn K cd1 "add" = true)
    (k1 : PySem.W.keepIn K (.ref f1) = true)
    (a2 : PySem.W.nsIn K mainGlobals "multiply" = some (some (.ref f2)))
    (l2 : K.lookup f2 = some ⟨oc2, od2, .func (PySem.W.fnOf "multiply" "multiply" (defArgs s_multiply) (defBody s_multiply) (defScope s_multiply) .none kV2 dc2 pm2 an2 cd2 ct2), sl2⟩)
    (x2 : PySem.W.codeIn K cd2 "multiply" = true)
    (k2 : PySem.W.keepIn K (.ref f2) = true)
    (a3 : PySem.W.nsIn K mainGlobals "matching_sum" = some (some (.ref f3)))
    (l3 : K.lookup f3 = some ⟨oc3, od3, .func (PySem.W.fnOf "matching_sum" "matching_sum" (defArgs s_matching_sum) (defBody s_matching_sum) (defScope s_matching_sum) .none kV3 dc3 pm3 an3 cd3 ct3), sl3⟩)
    (x3 : PySem.W.codeIn K cd3 "matching_sum" = true)
    (k3 : PySem.W.keepIn K (.ref f3) = true)
    (a4 : PySem.W.nsIn K mainGlobals "_check_graph" = some (some (.ref f4)))
    (l4 : K.lookup f4 = some ⟨oc4, od4, .func (PySem.W.fnOf "_check_graph" "_check_graph" (defArgs s_check_graph) (defBody s_check_graph) (defScope s_check_graph) .none kV4 dc4 pm4 an4 cd4 ct4), sl4⟩)
    (x4 : PySem.W.codeIn K cd4 "_check_graph" = true)
    (k4 : PySem.W.keepIn K (.ref f4) = true)
    (a5 : PySem.W.nsIn K mainGlobals "_links" = some (some (.ref f5)))
    (l5 : K.lookup f5 = some ⟨oc5, od5, .func (PySem.W.fnOf "_links" "_links" (defArgs s_links) (defBody s_links) (defScope s_links) .none kV5 dc5 pm5 an5 cd5 ct5), sl5⟩)
    (x5 : PySem.W.codeIn K cd5 "_links" = true)
    (k5 : PySem.W.keepIn K (.ref f5) = true)
    (a6 : PySem.W.nsIn K mainGlobals "_sum_over_matchings" = some (some (.ref f6)))
    (l6 : K.lookup f6 = some ⟨oc6, od6, .func (PySem.W.fnOf "_sum_over_matchings" "_sum_over_matchings" (defArgs s_sum_over_matchings) (defBody s_sum_over_matchings) (defScope s_sum_over_matchings) .none kV6 dc6 pm6 an6 cd6 ct6), sl6⟩)
    (x6 : PySem.W.codeIn K cd6 "_sum_over_matchings" = true)
    (k6 : PySem.W.keepIn K (.ref f6) = true)
    (a7 : PySem.W.nsIn K mainGlobals "_law_cell" = some (some (.ref f7)))
    (l7 : K.lookup f7 = some ⟨oc7, od7, .func (PySem.W.fnOf "_law_cell" "_law_cell" (defArgs s_law_cell) (defBody s_law_cell) (defScope s_law_cell) .none kV7 dc7 pm7 an7 cd7 ct7), sl7⟩)
    (x7 : PySem.W.codeIn K cd7 "_law_cell" = true)
    (k7 : PySem.W.keepIn K (.ref f7) = true)
    (a8 : PySem.W.nsIn K mainGlobals "_law_mix" = some (some (.ref f8)))
    (l8 : K.lookup f8 = some ⟨oc8, od8, .func (PySem.W.fnOf "_law_mix" "_law_mix" (defArgs s_law_mix) (defBody s_law_mix) (defScope s_law_mix) .none kV8 dc8 pm8 an8 cd8 ct8), sl8⟩)
    (x8 : PySem.W.codeIn K cd8 "_law_mix" = true)
    (k8 : PySem.W.keepIn K (.ref f8) = true)
    (a9 : PySem.W.nsIn K mainGlobals "_law_row" = some (some (.ref f9)))
    (l9 : K.lookup f9 = some ⟨oc9, od9, .func (PySem.W.fnOf "_law_row" "_law_row" (defArgs s_law_row) (defBody s_law_row) (defScope s_law_row) .none kV9 dc9 pm9 an9 cd9 ct9), sl9⟩)
    (x9 : PySem.W.codeIn K cd9 "_law_row" = true)
    (k9 : PySem.W.keepIn K (.ref f9) = true)
    (a10 : PySem.W.nsIn K mainGlobals "_law_tuples" = some (some (.ref f10)))
    (l10 : K.lookup f10 = some ⟨oc10, od10, .func (PySem.W.fnOf "_law_tuples" "_law_tuples" (defArgs s_law_tuples) (defBody s_law_tuples) (defScope s_law_tuples) .none kV10 dc10 pm10 an10 cd10 ct10), sl10⟩)
    (x10 : PySem.W.codeIn K cd10 "_law_tuples" = true)
    (k10 : PySem.W.keepIn K (.ref f10) = true)
    (a11 : PySem.W.nsIn K mainGlobals "_law_gcd" = some (some (.ref f11)))
    (l11 : K.lookup f11 = some ⟨oc11, od11, .func (PySem.W.fnOf "_law_gcd" "_law_gcd" (defArgs s_law_gcd) (defBody s_law_gcd) (defScope s_law_gcd) .none kV11 dc11 pm11 an11 cd11 ct11), sl11⟩)
    (x11 : PySem.W.codeIn K cd11 "_law_gcd" = true)
    (k11 : PySem.W.keepIn K (.ref f11) = true)
    (a12 : PySem.W.nsIn K mainGlobals "_law_frac" = some (some (.ref f12)))
    (l12 : K.lookup f12 = some ⟨oc12, od12, .func (PySem.W.fnOf "_law_frac" "_law_frac" (defArgs s_law_frac) (defBody s_law_frac) (defScope s_law_frac) .none kV12 dc12 pm12 an12 cd12 ct12), sl12⟩)
    (x12 : PySem.W.codeIn K cd12 "_law_frac" = true)
    (k12 : PySem.W.keepIn K (.ref f12) = true)
    (a13 : PySem.W.nsIn K mainGlobals "_law_add" = some (some (.ref f13)))
    (l13 : K.lookup f13 = some ⟨oc13, od13, .func (PySem.W.fnOf "_law_add" "_law_add" (defArgs s_law_add) (defBody s_law_add) (defScope s_law_add) .none kV13 dc13 pm13 an13 cd13 ct13), sl13⟩)
    (x13 : PySem.W.codeIn K cd13 "_law_add" = true)
    (k13 : PySem.W.keepIn K (.ref f13) = true)
    (a14 : PySem.W.nsIn K mainGlobals "_law_mul" = some (some (.ref f14)))
    (l14 : K.lookup f14 = some ⟨oc14, od14, .func (PySem.W.fnOf "_law_mul" "_law_mul" (defArgs s_law_mul) (defBody s_law_mul) (defScope s_law_mul) .none kV14 dc14 pm14 an14 cd14 ct14), sl14⟩)
    (x14 : PySem.W.codeIn K cd14 "_law_mul" = true)
    (k14 : PySem.W.keepIn K (.ref f14) = true)
    (a15 : PySem.W.nsIn K mainGlobals "_law_dimers" = some (some (.ref f15)))
    (l15 : K.lookup f15 = some ⟨oc15, od15, .func (PySem.W.fnOf "_law_dimers" "_law_dimers" (defArgs s_law_dimers) (defBody s_law_dimers) (defScope s_law_dimers) .none kV15 dc15 pm15 an15 cd15 ct15), sl15⟩)
    (x15 : PySem.W.codeIn K cd15 "_law_dimers" = true)
    (k15 : PySem.W.keepIn K (.ref f15) = true)
    (a16 : PySem.W.nsIn K mainGlobals "_law_weighted" = some (some (.ref f16)))
    (l16 : K.lookup f16 = some ⟨oc16, od16, .func (PySem.W.fnOf "_law_weighted" "_law_weighted" (defArgs s_law_weighted) (defBody s_law_weighted) (defScope s_law_weighted) .none kV16 dc16 pm16 an16 cd16 ct16), sl16⟩)
    (x16 : PySem.W.codeIn K cd16 "_law_weighted" = true)
    (k16 : PySem.W.keepIn K (.ref f16) = true)
    (a17 : PySem.W.nsIn K mainGlobals "law" = some (some (.ref f17)))
    (l17 : K.lookup f17 = some ⟨oc17, od17, .func (PySem.W.fnOf "law" "law" (defArgs s_law) (defBody s_law) (defScope s_law) .none kV17 dc17 pm17 an17 cd17 ct17), sl17⟩)
    (x17 : PySem.W.codeIn K cd17 "law" = true)
    (k17 : PySem.W.keepIn K (.ref f17) = true)
    (n_MOST_VERTICES : PySem.W.nsIn K mainGlobals "MOST_VERTICES" = some (some (.int 16 tk_MOST_VERTICES)))
    (ax_FieldError : PySem.W.nsIn K mainGlobals "FieldError" = some (some (.ref X_FieldError)))
    (q_FieldError : PySem.W.excIn K X_FieldError veB "ValueError.__new__" = true)
    (kx_FieldError : PySem.W.keepIn K (.ref X_FieldError) = true)
    (bx_FieldError : PySem.W.subIn K (.ref X_FieldError) (.type "BaseException") = some true)
    (yx_FieldError : PySem.W.typeIn K (.ref X_FieldError) = some (.type "type"))
    (ax_InvalidWeight : PySem.W.nsIn K mainGlobals "InvalidWeight" = some (some (.ref X_InvalidWeight)))
    (q_InvalidWeight : PySem.W.excIn K X_InvalidWeight veB "ValueError.__new__" = true)
    (kx_InvalidWeight : PySem.W.keepIn K (.ref X_InvalidWeight) = true)
    (bx_InvalidWeight : PySem.W.subIn K (.ref X_InvalidWeight) (.type "BaseException") = some true)
    (yx_InvalidWeight : PySem.W.typeIn K (.ref X_InvalidWeight) = some (.type "type"))
    (ax_TooLarge : PySem.W.nsIn K mainGlobals "TooLarge" = some (some (.ref X_TooLarge)))
    (q_TooLarge : PySem.W.excIn K X_TooLarge veB "ValueError.__new__" = true)
    (kx_TooLarge : PySem.W.keepIn K (.ref X_TooLarge) = true)
    (bx_TooLarge : PySem.W.subIn K (.ref X_TooLarge) (.type "BaseException") = some true)
    (yx_TooLarge : PySem.W.typeIn K (.ref X_TooLarge) = some (.type "type"))
    (i_gcd : PySem.W.nsIn K mainGlobals "gcd" = some (some (.builtin "math.gcd")))
    (z_abs : PySem.W.nsIn K mainGlobals "abs" = some none)
    (z_all : PySem.W.nsIn K mainGlobals "all" = some none)
    (z_bool : PySem.W.nsIn K mainGlobals "bool" = some none)
    (z_enumerate : PySem.W.nsIn K mainGlobals "enumerate" = some none)
    (z_int : PySem.W.nsIn K mainGlobals "int" = some none)
    (z_isinstance : PySem.W.nsIn K mainGlobals "isinstance" = some none)
    (z_len : PySem.W.nsIn K mainGlobals "len" = some none)
    (z_list : PySem.W.nsIn K mainGlobals "list" = some none)
    (z_max : PySem.W.nsIn K mainGlobals "max" = some none)
    (z_min : PySem.W.nsIn K mainGlobals "min" = some none)
    (z_range : PySem.W.nsIn K mainGlobals "range" = some none)
    (z_sorted : PySem.W.nsIn K mainGlobals "sorted" = some none)
    (z_tuple : PySem.W.nsIn K mainGlobals "tuple" = some none)
    (xm_InvalidWeight : PySem.W.exmOne K (.ref X_InvalidWeight) (.ref X_FieldError) = some true)
    (ki_InvalidWeight : PySem.W.kitOne K (.ref X_InvalidWeight) (.ref X_InvalidWeight) = some true)
    (ehg_InvalidWeight : PySem.W.findIn K (.ref X_InvalidWeight) "__getattribute__" = some (some (.builtin "BaseException.__getattribute__")))
    (ehk_InvalidWeight : PySem.W.findIn K (.ref X_InvalidWeight) "__getattr__" = some none)
    (ehd_InvalidWeight : PySem.W.hasDictIn K X_InvalidWeight = true)
    (eha_InvalidWeight : PySem.W.findIn K (.ref X_InvalidWeight) "__class__" = some (some (.builtin "object.__class__")))
    (ehn_InvalidWeight : PySem.W.specialIn K (.builtin "object.__class__") "__get__" = some (some (.builtin "getset_descriptor.__get__")))
    (eht_InvalidWeight : PySem.W.takesIn K (.builtin "object.__class__") = some true)
    (ehm_InvalidWeight : PySem.W.mroIn K X_InvalidWeight (.type "object") = some true)
    (xm_TooLarge : PySem.W.exmOne K (.ref X_TooLarge) (.ref X_FieldError) = some true)
    (ki_TooLarge : PySem.W.kitOne K (.ref X_TooLarge) (.ref X_TooLarge) = some true)
    (kn_TooLarge : PySem.W.kitOne K (.ref X_TooLarge) (.ref X_InvalidWeight) = some false)
    (ehg_TooLarge : PySem.W.findIn K (.ref X_TooLarge) "__getattribute__" = some (some (.builtin "BaseException.__getattribute__")))
    (ehk_TooLarge : PySem.W.findIn K (.ref X_TooLarge) "__getattr__" = some none)
    (ehd_TooLarge : PySem.W.hasDictIn K X_TooLarge = true)
    (eha_TooLarge : PySem.W.findIn K (.ref X_TooLarge) "__class__" = some (some (.builtin "object.__class__")))
    (ehn_TooLarge : PySem.W.specialIn K (.builtin "object.__class__") "__get__" = some (some (.builtin "getset_descriptor.__get__")))
    (eht_TooLarge : PySem.W.takesIn K (.builtin "object.__class__") = some true)
    (ehm_TooLarge : PySem.W.mroIn K X_TooLarge (.type "object") = some true) :
    LamX.LawAtS l w K CX0 8 63 "script" mg fa h := by
  have e := hfa.symm.trans (PySem.W.mg_of X G a17)
  cases e
  have F0 := fun_mk (st := s_fraction) l0 x0 k0
  have b0 := F0.binds (ps := ["numerator", "denominator"]) fun _ _ _ _ _ _ us hl => match us, hl with | [_, _], _ => rfl
  have F1 := fun_mk (st := s_add) l1 x1 k1
  have b1 := F1.binds (ps := ["a", "b"]) fun _ _ _ _ _ _ us hl => match us, hl with | [_, _], _ => rfl
  have F2 := fun_mk (st := s_multiply) l2 x2 k2
  have b2 := F2.binds (ps := ["a", "b"]) fun _ _ _ _ _ _ us hl => match us, hl with | [_, _], _ => rfl
  have F3 := fun_mk (st := s_matching_sum) l3 x3 k3
  have b3 := F3.binds (ps := ["count", "edges"]) fun _ _ _ _ _ _ us hl => match us, hl with | [_, _], _ => rfl
  have F4 := fun_mk (st := s_check_graph) l4 x4 k4
  have b4 := F4.binds (ps := ["count", "edges"]) fun _ _ _ _ _ _ us hl => match us, hl with | [_, _], _ => rfl
  have F5 := fun_mk (st := s_links) l5 x5 k5
  have b5 := F5.binds (ps := ["count", "edges", "zero", "summed"]) fun _ _ _ _ _ _ us hl => match us, hl with | [_, _, _, _], _ => rfl
  have F6 := fun_mk (st := s_sum_over_matchings) l6 x6 k6
  have b6 := F6.binds (ps := ["links", "alone", "zero", "one", "summed", "multiplied"]) fun _ _ _ _ _ _ us hl => match us, hl with | [_, _, _, _, _, _], _ => rfl
  have F7 := fun_mk (st := s_law_cell) l7 x7 k7
  have b7 := F7.binds (ps := ["script", "k"]) fun _ _ _ _ _ _ us hl => match us, hl with | [_, _], _ => rfl
  have F8 := fun_mk (st := s_law_mix) l8 x8 k8
  have b8 := F8.binds (ps := ["cell", "k"]) fun _ _ _ _ _ _ us hl => match us, hl with | [_, _], _ => rfl
  have F9 := fun_mk (st := s_law_row) l9 x9 k9
  have b9 := F9.binds (ps := ["cell", "count", "bound"]) fun _ _ _ _ _ _ us hl => match us, hl with | [_, _, _], _ => rfl
  have F10 := fun_mk (st := s_law_tuples) l10 x10 k10
  have b10 := F10.binds (ps := ["thing"]) fun _ _ _ _ _ _ us hl => match us, hl with | [_], _ => rfl
  have F11 := fun_mk (st := s_law_gcd) l11 x11 k11
  have b11 := F11.binds (ps := ["a", "b"]) fun _ _ _ _ _ _ us hl => match us, hl with | [_, _], _ => rfl
  have F12 := fun_mk (st := s_law_frac) l12 x12 k12
  have b12 := F12.binds (ps := ["a", "b"]) fun _ _ _ _ _ _ us hl => match us, hl with | [_, _], _ => rfl
  have F13 := fun_mk (st := s_law_add) l13 x13 k13
  have b13 := F13.binds (ps := ["p", "q"]) fun _ _ _ _ _ _ us hl => match us, hl with | [_, _], _ => rfl
  have F14 := fun_mk (st := s_law_mul) l14 x14 k14
  have b14 := F14.binds (ps := ["p", "q"]) fun _ _ _ _ _ _ us hl => match us, hl with | [_, _], _ => rfl
  have F15 := fun_mk (st := s_law_dimers) l15 x15 k15
  have b15 := F15.binds (ps := ["count", "edges"]) fun _ _ _ _ _ _ us hl => match us, hl with | [_, _], _ => rfl
  have F16 := fun_mk (st := s_law_weighted) l16 x16 k16
  have b16 := F16.binds (ps := ["cell", "count", "most"]) fun _ _ _ _ _ _ us hl => match us, hl with | [_, _, _], _ => rfl
  have F17 := fun_mk (st := s_law) l17 x17 k17
  let T : Top K mg := ⟨f0, _, F0, b0, PySem.W.mg_of X G a0, f1, _, F1, b1, PySem.W.mg_of X G a1, f2, _, F2, b2, PySem.W.mg_of X G a2, f3, _, F3, b3, PySem.W.mg_of X G a3, f4, _, F4, b4, PySem.W.mg_of X G a4, f5, _, F5, b5, PySem.W.mg_of X G a5, f6, _, F6, b6, PySem.W.mg_of X G a6, f7, _, F7, b7, PySem.W.mg_of X G a7, f8, _, F8, b8, PySem.W.mg_of X G a8, f9, _, F9, b9, PySem.W.mg_of X G a9, f10, _, F10, b10, PySem.W.mg_of X G a10, f11, _, F11, b11, PySem.W.mg_of X G a11, f12, _, F12, b12, PySem.W.mg_of X G a12, f13, _, F13, b13, PySem.W.mg_of X G a13, f14, _, F14, b14, PySem.W.mg_of X G a14, f15, _, F15, b15, PySem.W.mg_of X G a15, f16, _, F16, b16, PySem.W.mg_of X G a16, tk_MOST_VERTICES, PySem.W.mg_of X G n_MOST_VERTICES, X_FieldError, PySem.W.mg_of X G ax_FieldError, q_FieldError, kx_FieldError, bx_FieldError, yx_FieldError, X_InvalidWeight, PySem.W.mg_of X G ax_InvalidWeight, q_InvalidWeight, kx_InvalidWeight, bx_InvalidWeight, yx_InvalidWeight, X_TooLarge, PySem.W.mg_of X G ax_TooLarge, q_TooLarge, kx_TooLarge, bx_TooLarge, yx_TooLarge, PySem.W.mg_of X G i_gcd, PySem.W.mg_none_of X G z_abs, PySem.W.mg_none_of X G z_all, PySem.W.mg_none_of X G z_bool, PySem.W.mg_none_of X G z_enumerate, PySem.W.mg_none_of X G z_int, PySem.W.mg_none_of X G z_isinstance, PySem.W.mg_none_of X G z_len, PySem.W.mg_none_of X G z_list, PySem.W.mg_none_of X G z_max, PySem.W.mg_none_of X G z_min, PySem.W.mg_none_of X G z_range, PySem.W.mg_none_of X G z_sorted, PySem.W.mg_none_of X G z_tuple, xm_InvalidWeight, ki_InvalidWeight, ⟨ehg_InvalidWeight, ehk_InvalidWeight, bx_InvalidWeight, ehd_InvalidWeight, eha_InvalidWeight, ehn_InvalidWeight, eht_InvalidWeight, ehm_InvalidWeight⟩, xm_TooLarge, ki_TooLarge, kn_TooLarge, ⟨ehg_TooLarge, ehk_TooLarge, bx_TooLarge, ehd_TooLarge, eha_TooLarge, ehn_TooLarge, eht_TooLarge, ehm_TooLarge⟩⟩
  refine ⟨_, [], spLaw T, ?_, ?_, ?_, fun s u => .of_eq rfl, fun H a ns hl hb ht hS => law_in T H a ns hl hb ⟨⟩ hS, fun base _ _ tb => ok_law F17 T ⟨⟩⟩
  · intro p hp
    cases hp
  · intro p hp
    cases hp
  · intro p hp
    cases hp
end KP
open PySem PySem.W PyProof.Rows
set_option maxHeartbeats 0 in
theorem PySem.Challenge.cw_spinfield_k21_matching_sums_holds : PySem.Challenge.rw_spinfield_k21_matching_sums.Holds := by
  w_on; o_law; k_head; (case hw => w_witness2)
  k_fill
  refine LamX.walk_ofAll (l := PySem.Challenge.rw_spinfield_k21_matching_sums) (n := 63) (k := 8) (x := "script") (CX := fun _ => L2.CX0) rfl (by decide) rfl ⟨rfl, by decide, by decide⟩ (fun w h Y => PySem.W.kIn_of Y) ?F (fun _ _ _ _ _ h => h)
  case F =>
    intro w mg fa h Y KX G hmg AT
    refine' KP.all_mk KX G hmg AT ?a0 ?l0 ?x0 ?k0 ?a1 ?l1 ?x1 ?k1 ?a2 ?l2 ?x2 ?k2 ?a3 ?l3 ?x3 ?k3 ?a4 ?l4 ?x4 ?k4 ?a5 ?l5 ?x5 ?k5 ?a6 ?l6 ?x6 ?k6 ?a7 ?l7 ?x7 ?k7 ?a8 ?l8 ?x8 ?k8 ?a9 ?l9 ?x9 ?k9 ?a10 ?l10 ?x10 ?k10 ?a11 ?l11 ?x11 ?k11 ?a12 ?l12 ?x12 ?k12 ?a13 ?l13 ?x13 ?k13 ?a14 ?l14 ?x14 ?k14 ?a15 ?l15 ?x15 ?k15 ?a16 ?l16 ?x16 ?k16 ?a17 ?l17 ?x17 ?k17 ?n_MOST_VERTICES ?ax_FieldError ?q_FieldError ?kx_FieldError ?bx_FieldError ?yx_FieldError ?ax_InvalidWeight ?q_InvalidWeight ?kx_InvalidWeight ?bx_InvalidWeight ?yx_InvalidWeight ?ax_TooLarge ?q_TooLarge ?kx_TooLarge ?bx_TooLarge ?yx_TooLarge ?i_gcd ?z_abs ?z_all ?z_bool ?z_enumerate ?z_int ?z_isinstance ?z_len ?z_list ?z_max ?z_min ?z_range ?z_sorted ?z_tuple ?xm_InvalidWeight ?ki_InvalidWeight ?ehg_InvalidWeight ?ehk_InvalidWeight ?ehd_InvalidWeight ?eha_InvalidWeight ?ehn_InvalidWeight ?eht_InvalidWeight ?ehm_InvalidWeight ?xm_TooLarge ?ki_TooLarge ?kn_TooLarge ?ehg_TooLarge ?ehk_TooLarge ?ehd_TooLarge ?eha_TooLarge ?ehn_TooLarge ?eht_TooLarge ?ehm_TooLarge
    (case a0 => k_is); (case l0 => k_is); (case x0 => k_is); (case k0 => k_is); (case a1 => k_is); (case l1 => k_is); (case x1 => k_is); (case k1 => k_is); (case a2 => k_is); (case l2 => k_is); (case x2 => k_is); (case k2 => k_is); (case a3 => k_is); (case l3 => k_is); (case x3 => k_is); (case k3 => k_is); (case a4 => k_is); (case l4 => k_is); (case x4 => k_is); (case k4 => k_is); (case a5 => k_is); (case l5 => k_is); (case x5 => k_is); (case k5 => k_is); (case a6 => k_is); (case l6 => k_is); (case x6 => k_is); (case k6 => k_is); (case a7 => k_is); (case l7 => k_is); (case x7 => k_is); (case k7 => k_is); (case a8 => k_is); (case l8 => k_is); (case x8 => k_is); (case k8 => k_is); (case a9 => k_is); (case l9 => k_is); (case x9 => k_is); (case k9 => k_is); (case a10 => k_is); (case l10 => k_is); (case x10 => k_is); (case k10 => k_is); (case a11 => k_is); (case l11 => k_is); (case x11 => k_is); (case k11 => k_is); (case a12 => k_is); (case l12 => k_is); (case x12 => k_is); (case k12 => k_is); (case a13 => k_is); (case l13 => k_is); (case x13 => k_is); (case k13 => k_is); (case a14 => k_is); (case l14 => k_is); (case x14 => k_is); (case k14 => k_is); (case a15 => k_is); (case l15 => k_is); (case x15 => k_is); (case k15 => k_is); (case a16 => k_is); (case l16 => k_is); (case x16 => k_is); (case k16 => k_is); (case a17 => k_is); (case l17 => k_is); (case x17 => k_is); (case k17 => k_is); (case n_MOST_VERTICES => k_is); (case ax_FieldError => k_is); (case q_FieldError => kernel_rfl); (case kx_FieldError => k_is); (case bx_FieldError => k_is); (case yx_FieldError => k_is); (case ax_InvalidWeight => k_is); (case q_InvalidWeight => kernel_rfl); (case kx_InvalidWeight => k_is); (case bx_InvalidWeight => k_is); (case yx_InvalidWeight => k_is); (case ax_TooLarge => k_is); (case q_TooLarge => kernel_rfl); (case kx_TooLarge => k_is); (case bx_TooLarge => k_is); (case yx_TooLarge => k_is); (case i_gcd => k_is); (case z_abs => k_is); (case z_all => k_is); (case z_bool => k_is); (case z_enumerate => k_is); (case z_int => k_is); (case z_isinstance => k_is); (case z_len => k_is); (case z_list => k_is); (case z_max => k_is); (case z_min => k_is); (case z_range => k_is); (case z_sorted => k_is); (case z_tuple => k_is); (case xm_InvalidWeight => kernel_rfl); (case ki_InvalidWeight => kernel_rfl); (case ehg_InvalidWeight => k_is); (case ehk_InvalidWeight => k_is); (case ehd_InvalidWeight => k_is); (case eha_InvalidWeight => k_is); (case ehn_InvalidWeight => k_is); (case eht_InvalidWeight => k_is); (case ehm_InvalidWeight => k_is); (case xm_TooLarge => kernel_rfl); (case ki_TooLarge => kernel_rfl); (case kn_TooLarge => kernel_rfl); (case ehg_TooLarge => k_is); (case ehk_TooLarge => k_is); (case ehd_TooLarge => k_is); (case eha_TooLarge => k_is); (case ehn_TooLarge => k_is); (case eht_TooLarge => k_is); (case ehm_TooLarge => k_is)
