import PyProof.Rows.All
import Wide.All
import OpenK.AllK
import Wide.FinOn
import HandS.ForMost
import HandS.AnyAll
import HandS.GenList
import HandS.EndTab
import PyProof.TupleOfGen
import HandS.SortRule
import HandS.Conv
import HandS.EndOwn
import HandS.EndBits
import HandS.Zip
import HandS.TupLe
import HandS.ForExc
import HandS.ExcIs
import HandS.Style
import HandS.TupAny
import HandS.IsInst
import HandS.CallLocal
import HandS.Wide
import HandS.Codes
import HandS.DictComp
import KE.KBits
import PyProof.SumWalkG
import KE.GoesEnum
import PyProof.Walks
import PyProof.MinMaxWalk
import HandS.TupSets
import HandS.Deep
import HandS.Text
import HandS.Gcd
import HandS.TupMul
import PySem.Challenge.RW_spinfield_k22_matching_polynomials
set_option Elab.async false
set_option linter.all false
set_option maxRecDepth 100000
set_option maxHeartbeats 4000000
/-! Generator expressions over the layer: the generator's own frame as a context, its turns, what wakes it. -/
namespace GXP
open PySem PySem.Spec PyProof.Rows L2
/-- the generator's frame while its consumer stands at A -/
abbrev gcx (X : Cx) (A : Around) (s : Shared) (H : Hp) (ce : Env) (fp : List Addr) : Cx :=
  { X with A := A, s_0 := s, H_0 := H, env := ce, outer := X.stack, stack := ce :: X.stack, ex := fp, fn := fun _ => false, calm := true, pn := [], xe := fun _ _ => False }
/-- the cells of the frame that are taken over -/
theorem clo_look {cells : List (Str × Addr)} {names : List (Str × NameKind)} (hf : ∀ y ∈ names, y.2 = .free → ∃ c, cells.lookup y.1 = some c) {y : Str} {c : Addr} (e : (cloFrom cells names []).lookup y = some c) : cells.lookup y = some c ∧ (y, NameKind.free) ∈ names := by
  rcases cloFrom_mem (PySem.mem_of_lookup e) with z | ⟨z, rfl⟩
  · cases z
  · obtain ⟨d, hd⟩ := hf _ z rfl
    have hd : cells.lookup y = some d := hd
    rw [hd]
    exact ⟨rfl, z⟩
theorem gcx_start {X : Cx} {pins : List (Addr × Obj)} {σ : L2.St} {H : Hp} {s s5 : Shared} {A : Around} {ce : Env} {scope : Scope} {own : List (Str × Nat)} {fp : List Addr} {m0 : Str → Option Value}
    (I : Inv X pins σ H s) (ok : BlkOk X.N X.env.scope scope own) (hN : X.N.Nodup) (nocell : ∀ y ∈ scope.names, y.2 ≠ .cell) (hfp : ∀ b ∈ fp, FpOk X pins H b ∧ b < s.heap.objs.size)
    (hsc : ce.scope = scope) (hL : ce.locals = s.heap.objs.size) (hgl : ce.globals = mainGlobals) (hbl : ce.builtins = builtinsNs) (hcl : ce.cells = cloFrom X.env.cells scope.names []) (hfr : ce.frame = some ce.locals)
    (hA : A.frames = some (ce :: X.stack)) (hh : A.handled = none) (kp : ∀ b o, s.heap.get? b = some o → s5.heap.get? b = some o) (ns : s5.heap.Ns ce.locals m0) (hos : s5.os = s.os) (hb : AllBare s5.gens) :
    Inv (gcx X A s H ce fp) [] (wipe σ (own.map (·.2))) H s5 := by
  have hfree : ∀ y ∈ scope.names, y.2 = .free → ∃ c, X.env.cells.lookup y.1 = some c := fun y hy e => (ok.free y hy e).elim (fun k => I.ok.has _ (.inl k)) (fun k => I.ok.has _ (.inr k))
  have look : ∀ {y c}, ce.cells.lookup y = some c → X.env.cells.lookup y = some c ∧ (y, NameKind.free) ∈ scope.names := fun {y c} e => clo_look hfree (by rw [← hcl]; exact e)
  have cellLt : ∀ {y c}, X.env.cells.lookup y = some c → c < s.heap.objs.size := fun {y c} e => let ⟨_, z⟩ := I.cell y c e; z.lt
  have freeHas : ∀ {y}, scope.names.lookup y = some .free → ∃ c, ce.cells.lookup y = some c ∧ X.env.cells.lookup y = some c := fun {y} e => by
    obtain ⟨c, hc⟩ := mem_lookup (cloFrom_has (cells := X.env.cells) (acc := []) (PySem.mem_of_lookup e))
    rw [← hcl] at hc
    exact ⟨c, hc, (look hc).1⟩
  have okG : (gcx X A s H ce fp).Ok := by
    refine { mod := I.ok.mod, kind := ?kd, glob := hgl, blt := hbl, above := Nat.le_of_eq hL.symm, inj := ?inj, has := ?has, cab := fun _ _ z _ => (by cases z), hd := fun _ => hh, frames := hA, stk := .inr ⟨rfl, hfr⟩, exf := ?exf, bs := I.bs, bsz := Nat.le_trans I.ok.bsz I.sz, noex := ?noex, exfs := ?exfs, funs := I.stack, frf := I.stkFree }
    case kd =>
      show ce.scope.kind = _
      rw [hsc]
      exact ok.kind
    case inj => exact fun y z c e1 e2 => I.ok.inj y z c (look e1).1 (look e2).1
    case has =>
      intro y hy
      have hy : ce.scope.names.lookup y = some .cell ∨ ce.scope.names.lookup y = some .free := hy
      rw [hsc] at hy
      rcases hy with hy | hy
      · exact absurd rfl (nocell _ (PySem.mem_of_lookup hy))
      · exact let ⟨c, h, _⟩ := freeHas hy; ⟨c, h⟩
    case exf =>
      refine fun b hb => ⟨?_, fun y c e z => (hfp b hb).1.2.2.2.2.1 y c (look e).1 z⟩
      show b ≠ ce.locals
      rw [hL]
      exact Nat.ne_of_lt (hfp b hb).2
    case noex =>
      intro b o e hb
      rcases (hfp b hb).1.2.2.2.1 with z | z
      · exact I.ok.noex b o e z
      · have h1 := Heap.lt_size e
        have h2 := I.ok.bsz
        exact absurd (Nat.lt_of_lt_of_le h1 (Nat.le_trans h2 z)) (Nat.lt_irrefl _)
    case exfs =>
      intro b hb z
      rcases List.mem_cons.mp (I.stkSub b z) with z | z
      · exact (hfp b hb).1.2.1 z
      · exact (hfp b hb).1.2.2.1 z
  refine { ok := okG, os := hos, bare := hb, base := Un.kept kp, loc := ⟨m0, ns, ?loc⟩, cell := ?cell, free := ?free, freeC := fun y c e => I.freeC y c (look e).1, pin := fun p hp => absurd (show p ∈ ([] : List (Addr × Obj)) ++ [] from hp) (by simp), hok := I.hok.kept kp, len := by rw [wipe_length]; exact I.len }
  case loc =>
    intro i y v e1 e2 e3
    obtain ⟨e2, hne⟩ := wipe_some e2
    have e3 : ce.scope.names.lookup y = some .local ∨ ce.scope.names.lookup y = some .cell ∨ ce.scope.names.lookup y = some .free := e3
    rw [hsc] at e3
    have hfr : scope.names.lookup y = some .free := by
      rcases e3 with k | k | k
      · exfalso
        rcases ok.own _ (PySem.mem_of_lookup k) (.inl rfl) with h | h
        · obtain ⟨p, hp, hpy⟩ := List.mem_map.mp h
          have h3 := ok.ix p hp
          have : p.1 = y := hpy
          rw [this] at h3
          exact hne (List.mem_map.mpr ⟨p, hp, nodup_ix hN h3 e1⟩)
        · exact h (List.mem_of_getElem? e1)
      · exact absurd rfl (nocell _ (PySem.mem_of_lookup k))
      · exact k
    obtain ⟨c, h1, h2⟩ := freeHas hfr
    have hvis : Vis X.env.scope y := (ok.free _ (PySem.mem_of_lookup hfr) rfl).elim (fun k => .inr (.inl k)) (fun k => .inr (.inr k))
    obtain ⟨m, hn, hl⟩ := I.loc
    obtain ⟨u, r, q⟩ := hl i y v e1 e2 hvis
    refine ⟨u, r, .inr ⟨.inr (by show ce.scope.names.lookup y = _; rw [hsc]; exact hfr), ?_⟩⟩
    rcases q with ⟨k, _⟩ | ⟨_, d, hd, z⟩
    · have k : X.env.scope.names.lookup y = some .local := k
      rcases ok.free _ (PySem.mem_of_lookup hfr) rfl with k' | k' <;> rw [show X.env.scope.names.lookup y = _ from k'] at k <;> cases k
    · rw [h2] at hd
      cases hd
      exact ⟨c, h1, z.keeps kp⟩
  case cell =>
    intro y c e
    obtain ⟨v, z⟩ := I.cell y c (look e).1
    exact ⟨v, z.keeps kp⟩
  case free =>
    show H ce.locals = none
    rw [hL]
    exact I.hok.fresh (Nat.le_refl _)
/-- while the generator sleeps, its consumer writes at cw alone -/
structure Doz (cw : List Addr) (s s' : Shared) : Prop where
  os : s'.os = s.os
  bare : AllBare s'.gens
  keep : ∀ b o, b ∉ cw → s.heap.get? b = some o → s'.heap.get? b = some o
  there : ∀ b ∈ cw, ∃ o, s'.heap.get? b = some o ∧ ∀ v, o.data ≠ .cell v
/-- what stands at cw is left alone by a turn -/
def KeptAt (cw : List Addr) (s₀ s : Shared) : Prop := ∀ b ∈ cw, ∀ o, s₀.heap.get? b = some o → s.heap.get? b = some o
/-- what a consumer does with an item: the items so far, the item, the heap, and what the generator wants to go on -/
abbrev Cy := List V → V → Hp → (List V → Hp → Prop) → Prop
/-- how the items so far show in what the consumer keeps at cw -/
structure Lnk (cw : List Addr) (Lk : List V → Heap → Prop) : Prop where
  st : ∀ ys h h', Lk ys h → (∀ b ∈ cw, ∀ o, h.get? b = some o → h'.get? b = some o) → Lk ys h'
def GYld (Y : Cx) (gp : List (Addr × Obj)) (cw : List Addr) (Lk : List V → Heap → Prop) (cy : Cy) : Protocol := fun _ s₀ v s kap =>
  ∃ (ys : List V) (y : V) (σ : L2.St) (H : Hp) (Nx : List V → Hp → Prop), Inv Y gp σ H s ∧ RelV y v ∧ KeptAt cw s₀ s ∧ (∀ b ∈ cw, H b = none) ∧ Lk ys s.heap ∧ cy ys y H Nx ∧ ∀ ys', Nx ys' H → ∀ s', Doz cw s s' → Lk ys' s'.heap → kap (.send .none) s'
def GFin (Y : Cx) (gp : List (Addr × Obj)) (cw : List Addr) (Lk : List V → Heap → Prop) (Qe : List V → Hp → Prop) : GenEnd := fun _ s₀ r s =>
  r = .ok .next ∧ ∃ (ys : List V) (σ : L2.St) (H : Hp), Inv Y gp σ H s ∧ KeptAt cw s₀ s ∧ (∀ b ∈ cw, H b = none) ∧ Lk ys s.heap ∧ Qe ys H
/-- the turns of a generator expression: W by the turn, a measure and the items so far -/
def Turns (J : It) (g : TG) (tt : TT) (te : TE) (vs : List Nat) (σ : L2.St) (cy : Cy) (Qe : List V → Hp → Prop) (W : Nat → Nat → List V → Hp → Prop) : Prop :=
  ∀ i m ys H, W i m ys H → (J.stop i H ∧ Qe ys H) ∨ (J.go i H ∧ 0 < m ∧ ∃ Nx : List V → Hp → Prop, (∀ ys' H', Nx ys' H' → ∃ m', m' < m ∧ W (i + 1) m' ys' H') ∧
    ∀ x H', J.yld i H x H' → g x (wipe σ vs) H' fun σ2 H2 => wipe σ2 vs = wipe σ vs ∧ tt σ2 H2 fun b H3 => if b = true then te σ2 H3 fun y H4 => cy ys y H4 Nx else Nx ys H3)
/-- the iterator's and the consumer's objects in the generator's frame -/
structure GPlace (Y : Cx) (gp : List (Addr × Obj)) (fp cw : List Addr) : Prop where
  fx : ∀ b ∈ fp, b ∈ Y.ex ∧ b ≠ Y.env.locals ∧ b ∉ Y.fs ∧ (∀ x c, Y.env.cells.lookup x = some c → c ≠ b) ∧ (∀ p ∈ Y.pn ++ gp, p.1 ≠ b) ∧ b ∉ cw
  cx : ∀ b ∈ cw, Y.s_0.heap.objs.size ≤ b ∧ b ≠ Y.env.locals ∧ b ∉ Y.fs ∧ (∀ x c, Y.env.cells.lookup x = some c → c ≠ b) ∧ ∀ p ∈ Y.pn ++ gp, p.1 ≠ b
theorem GPlace.fpOk {Y : Cx} {gp : List (Addr × Obj)} {fp cw : List Addr} (G : GPlace Y gp fp cw) {s₀ : Shared} {H : Hp} (n : ∀ b ∈ fp, H b = none) : ∀ b ∈ fp, FpOk Y (gp ++ pinsAt cw s₀.heap) H b := fun b hb => by
  obtain ⟨h1, h2, h3, h4, h5, h6⟩ := G.fx b hb
  refine ⟨n b hb, h2, h3, .inl h1, h4, fun p hp => ?_⟩
  rw [← List.append_assoc] at hp
  rcases List.mem_append.mp hp with hp | hp
  · exact h5 p hp
  · intro z
    have h7 := (of_pinsAt hp).1
    rw [z] at h7
    exact h6 h7
/-- the consumer's objects are pinned as they stand -/
theorem GPlace.pin {Y : Cx} {gp : List (Addr × Obj)} {fp cw : List Addr} (G : GPlace Y gp fp cw) {σ : L2.St} {H : Hp} {s : Shared} (I : Inv Y gp σ H s) (n : ∀ b ∈ cw, H b = none) (t : ∀ b ∈ cw, ∃ o, s.heap.get? b = some o ∧ ∀ v, o.data ≠ .cell v) :
    Inv Y (gp ++ pinsAt cw s.heap) σ H s :=
  I.pinned (fun b hb => let ⟨h1, h2, h3, h4, h5⟩ := G.cx b hb; ⟨n b hb, h2, h3, .inr h1, h4, h5⟩) t
theorem kept_of {Y : Cx} {gp pl : List (Addr × Obj)} {cw : List Addr} {σ : L2.St} {H : Hp} {s₀ s : Shared} (I : Inv Y ((gp ++ pinsAt cw s₀.heap) ++ pl) σ H s) : KeptAt cw s₀ s := fun b hb o e =>
  (I.pin (b, o) (List.mem_append_right _ (List.mem_append_left _ (List.mem_append_right _ (mem_pinsAt hb e))))).1
/-- asleep: only cw is written -/
theorem GPlace.doz {Y : Cx} {gp : List (Addr × Obj)} {fp cw : List Addr} (G : GPlace Y gp fp cw) {σ : L2.St} {H : Hp} {s s' : Shared} (I : Inv Y gp σ H s) (n : ∀ b ∈ cw, H b = none) (z : Doz cw s s') : Inv Y gp σ H s' := by
  obtain ⟨z1, z2, z3, _⟩ := z
  have nt : ∀ b u, H b = some u → b ∉ cw := fun b u q hb => by
    rw [n b hb] at q
    cases q
  obtain ⟨hh, g, d, t, o⟩ := s'
  have ho : o = s.os := z1
  subst ho
  refine I.step (g' := g) (t' := t) (d' := d) (ch := cw) (fun b hb => ?_) (fun b ob _ _ hc q _ => z3 b ob hc q) (fun b ob _ _ hc q _ => ⟨ob.slots, z3 b ob hc q⟩) (fun _ _ _ _ k => k) (fun b ob hc q => ⟨ob, z3 b ob hc q⟩) (fun _ _ q => q) (fun _ _ _ q => q)
    (fun b ps q => ⟨#[], by rw [q]; simp⟩) (fun m hm => ?_) (fun b u q => ?_) z2
  · obtain ⟨h1, h2, h3, h4, h5⟩ := G.cx b hb
    exact ⟨.inr h1, h2, h4, h5⟩
  · obtain ⟨ob, es, ep, ho, r⟩ := hm
    exact ⟨ob, es, ep, z3 _ ob (fun hb => (G.cx _ hb).2.1 rfl) ho, r⟩
  · refine (I.hok b u q).stay (fun c v hc y => z3 c v ?_ y) (fun _ y => y) fun _ _ y => y
    rcases hc with y | y
    · rw [y]
      exact nt b u q
    · exact nt c _ y
section
variable {Y : Cx} {Aw : Around} {elt tg iter : Expr} {ifs : List Expr} {scope : Scope} {pos : Pos} {it : Addr} {fp cw : List Addr} {gp : List (Addr × Obj)} {tn : Nat → Heap → Prop} {J : It} {g : TG} {tt : TT} {te : TE} {vs : List Nat} {σ : L2.St} {cy : Cy} {Qe : List V → Hp → Prop} {Lk : List V → Heap → Prop}
  {W : Nat → Nat → List V → Hp → Prop}
abbrev gxE (elt tg iter : Expr) (ifs : List Expr) (scope : Scope) (pos : Pos) : Expr := .GeneratorExp elt [⟨tg, iter, ifs, 0⟩] scope pos
theorem gx_loop (hA : Aw.over (.compLoop (gxE elt tg iter ifs scope pos) 0 (.ref it) .none Y.env) [] = Y.A) (hx : Y.xe = fun _ _ => False) (hco : Y.env.scope.isCoroutine = false) (hc : Y.calm = true)
    (T : Turn Y.prog Y.w Y.K tg J fp it tn) (pg : PG Y tg g) (pt : PTs Y ifs tt) (pe : PE Y elt te) (G : GPlace Y gp fp cw) (hLk : Lnk cw Lk) (hW : Turns J g tt te vs σ cy Qe W) :
    ∀ (m n i : Nat) (ys : List V) (s₀ s : Shared) (H : Hp), m ≤ n → Inv Y (gp ++ pinsAt cw s₀.heap) (wipe σ vs) H s → (∀ b ∈ cw, ∃ o, s₀.heap.get? b = some o) → Lk ys s₀.heap → tn i s.heap → (∀ b ∈ fp, H b = none) → W i m ys H →
      Seg (model Y.prog Y.w) Aw (GFin Y gp cw Lk Qe) (GYld Y gp cw Lk cy) n s₀ (.compLoop (gxE elt tg iter ifs scope pos) 0 (.ref it) .none Y.env) ((model Y.prog Y.w).den (.compLoop (gxE elt tg iter ifs scope pos) 0 (.ref it) .none Y.env)) [] s := by
  have cwn : ∀ {s₀ s : Shared} {pl : List (Addr × Obj)} {σ' : L2.St} {H : Hp}, (∀ b ∈ cw, ∃ o, s₀.heap.get? b = some o) → Inv Y ((gp ++ pinsAt cw s₀.heap) ++ pl) σ' H s → ∀ b ∈ cw, H b = none := fun {s₀ s pl σ' H} h I b hb => by
    obtain ⟨o, e⟩ := h b hb
    exact (I.pin (b, o) (List.mem_append_right _ (List.mem_append_left _ (List.mem_append_right _ (mem_pinsAt hb e))))).2.1
  have nil : ∀ {l : List (Addr × Obj)} {σ' : L2.St} {H : Hp} {s : Shared}, Inv Y l σ' H s → Inv Y (l ++ []) σ' H s := fun {l σ' H s} I => by
    rw [List.append_nil]
    exact I
  intro m
  induction m using Nat.strongRecOn with
  | ind m ih =>
    intro n i ys s₀ s H hmn I hcw lk st nf w
    have fk := G.fpOk (s₀ := s₀) nf
    show Seg _ _ _ _ _ _ _ ((compTurn (gxE elt tg iter ifs scope pos) 0 (.ref it) .none Y.env).onRaise (leaving Y.env)) [] s
    rw [compTurn_gen elt tg iter ifs scope pos, Sem.onRaise_eq_wrap]
    refine seg_bind_wrap (wpAny_standAt (seg_bind_wrap ?_))
    rw [hA]
    rcases hW i m ys H w with ⟨stop, q⟩ | ⟨go, m0, Nx, hNx, step⟩
    · refine thnF (T.done Y rfl rfl rfl hc i _ s _ H _ I fk st stop) fun r s6 ⟨hr, I6⟩ => ?_
      subst hr
      exact seg_end (.ok .next) ⟨rfl, ys, _, H, I6.unpinned, kept_of (nil I6), cwn hcw (nil I6), hLk.st _ _ _ lk (kept_of (nil I6)), q⟩
    · refine thnF (T.item Y rfl rfl rfl hc i _ s _ H _ I fk st go) fun r s6 ⟨u, hr, h6⟩ => ?_
      subst hr
      refine seg_bind_wrap ?_
      rw [hA]
      refine thnF h6 fun _ s7 ⟨x, H7, I7, r7, y7, st7, n7⟩ => ?_
      have I7' := I7.pinned (G.fpOk n7) (T.obj _ _ st7)
      have kfp : ∀ {s' : Shared} {σ' : L2.St} {H' : Hp}, Inv Y ((gp ++ pinsAt cw s₀.heap) ++ pinsAt fp s7.heap) σ' H' s' → ∀ b ∈ fp, (∀ o, s7.heap.get? b = some o → s'.heap.get? b = some o) ∧ H' b = none := fun {s' σ' H'} I' b hb => by
        obtain ⟨o, e, _⟩ := T.obj _ _ st7 b hb
        obtain ⟨z1, z2, _⟩ := I'.pin (b, o) (List.mem_append_right _ (List.mem_append_right _ (mem_pinsAt hb e)))
        refine ⟨fun o' e' => ?_, z2⟩
        rw [e] at e'
        cases e'
        exact z1
      have exF : ∀ {e : Value} {s' : Shared} {Z : Prop}, Y.xe e s' → Z := fun {e s' Z} h => by
        rw [hx] at h
        exact False.elim h
      refine seg_bind_wrap ?_
      rw [hA]
      refine wpAny_mono (pg.run _ s7 _ H7 x u _ I7' r7 (step x H7 y7)) (fun _ s8 ⟨σ8, H8, I8, hw8, q8⟩ => ?_) fun _ _ h => exF h
      refine seg_bind_wrap ?_
      rw [hA]
      refine wpAny_mono (pt.run _ s8 σ8 H8 _ I8 q8) (fun b s9 ⟨H9, I9, q9⟩ => ?_) fun _ _ h => exF h
      have hl : (wipe σ vs).length = σ8.length := by rw [← hw8, wipe_length]
      have weak : ∀ {l : List (Addr × Obj)} {H' : Hp} {s' : Shared}, Inv Y l σ8 H' s' → Inv Y l (wipe σ vs) H' s' := fun {l H' s'} I' => I'.weak hl fun j v e => by
        rw [← hw8] at e
        exact (wipe_some e).1
      cases b with
      | false =>
        rw [if_neg Bool.false_ne_true] at q9
        obtain ⟨m', hm, w'⟩ := hNx _ _ q9
        simp only [Bool.false_eq_true, if_false]
        exact seg_again rfl (ih m' hm n (i + 1) ys s₀ s9 H9 (by omega) (weak I9.unpinned) hcw lk (T.keep _ _ _ st7 fun b hb => (kfp I9 b hb).1) (fun b hb => (kfp I9 b hb).2) w')
      | true =>
        rw [if_pos rfl] at q9
        simp only [if_true]
        have hy : ∀ v, yieldOut Y.env v = yieldValue v := fun v => by
          unfold yieldOut
          rw [hco]
          rfl
        simp only [hy]
        rw [Sem.bind_eq_wrap', Sem.bind_eq_wrap', Sem.wrap_wrap, Sem.wrap_wrap]
        refine seg_wrap ?_
        rw [hA]
        refine wpAny_mono (pe.run _ s9 σ8 H9 _ I9 q9) (fun v s10 ⟨y, H10, I10, r10, q10⟩ => ?_) fun _ _ h => exF h
        obtain ⟨n', rfl⟩ : ∃ n', n = n' + 1 := ⟨n - 1, by omega⟩
        have Ig : Inv Y gp σ8 H10 s10 := I10.pins_of fun p hp => I10.pin p (List.mem_append_right _ (List.mem_append_left _ (List.mem_append_left _ hp)))
        refine seg_at (seg_yield rfl rfl rfl ⟨ys, y, σ8, H10, Nx, Ig, r10, kept_of I10, cwn hcw I10, hLk.st _ _ _ lk (kept_of I10), q10, fun ys' hys s' hz lk' => ?_⟩)
        obtain ⟨m', hm, w'⟩ := hNx ys' H10 hys
        have nc := cwn hcw I10
        have Iz := G.doz Ig nc hz
        refine seg_again rfl (ih m' hm n' (i + 1) ys' s' s' H10 (by omega) (weak (G.pin Iz nc hz.there)) (fun b hb => let ⟨o, e, _⟩ := hz.there b hb; ⟨o, e⟩) lk' (T.keep _ _ _ st7 fun b hb o e => ?_) (fun b hb => (kfp I10 b hb).2) w')
        exact hz.keep b o (G.fx b hb).2.2.2.2.2 ((kfp I10 b hb).1 o e)
end
section
variable {Y : Cx} {Aw : Around} {elt tg iter : Expr} {ifs : List Expr} {scope : Scope} {pos : Pos} {it : Addr} {fp cw : List Addr} {gp : List (Addr × Obj)} {tn : Nat → Heap → Prop} {J : It} {g : TG} {tt : TT} {te : TE} {vs : List Nat} {σ : L2.St} {cy : Cy} {Qe : List V → Hp → Prop} {Lk : List V → Heap → Prop}
  {W : Nat → Nat → List V → Hp → Prop}
theorem gx_first (hA : Aw.over (.compLoop (gxE elt tg iter ifs scope pos) 0 (.ref it) .none Y.env) [] = Y.A) (hx : Y.xe = fun _ _ => False) (hco : Y.env.scope.isCoroutine = false) (hc : Y.calm = true)
    (T : Turn Y.prog Y.w Y.K tg J fp it tn) (pg : PG Y tg g) (pt : PTs Y ifs tt) (pe : PE Y elt te) (G : GPlace Y gp fp cw) (hLk : Lnk cw Lk) (hW : Turns J g tt te vs σ cy Qe W)
    {m : Nat} {s : Shared} {H : Hp} (I : Inv Y gp (wipe σ vs) H s) (nc : ∀ b ∈ cw, H b = none) (hcw : ∀ b ∈ cw, ∃ o, s.heap.get? b = some o ∧ ∀ v, o.data ≠ .cell v) (lk : Lk [] s.heap) (st : tn 0 s.heap) (nf : ∀ b ∈ fp, H b = none) (w : W 0 m [] H) :
    Seg (model Y.prog Y.w) Aw (GFin Y gp cw Lk Qe) (GYld Y gp cw Lk cy) m s (.compStart (gxE elt tg iter ifs scope pos) 0 (.ref it) .none Y.env) ((model Y.prog Y.w).den (.compStart (gxE elt tg iter ifs scope pos) 0 (.ref it) .none Y.env)) [] s := by
  have go := gx_loop (pos := pos) hA hx hco hc T pg pt pe G hLk hW m m 0 [] s s H (Nat.le_refl _) (G.pin I nc hcw) (fun b hb => let ⟨o, e, _⟩ := hcw b hb; ⟨o, e⟩) lk st nf w
  show Seg _ _ _ _ _ _ _ ((compStart (gxE elt tg iter ifs scope pos) 0 (.ref it) .none Y.env).onRaise (leaving Y.env)) [] s
  unfold compStart
  rw [Sem.onRaise_eq_wrap]
  show Seg _ _ _ _ _ _ _ ((ask >>= _).wrap _ _ _ _) [] s
  refine seg_bind_wrap (wpAny_askSetting ?_)
  split
  · exact seg_again rfl go
  · have last := T.self (Aw.over (.compStart (gxE elt tg iter ifs scope pos) 0 (.ref it) .none Y.env) []) 0 s
    first
      | exact seg_bind_wrap (wpAny_rule (seg_bind_wrap (wpAny_standAt (seg_bind_wrap (last _ _ st (seg_again rfl go))))))
      | (refine seg_bind_wrap (wpAny_rule ?_); show Seg _ _ _ _ _ _ _ ((standAt iter.pos >>= _).wrap _ _ _ _) [] s; exact seg_bind_wrap (wpAny_standAt (seg_bind_wrap (last _ _ st (seg_again rfl go)))))
end
/-- a generator that was made in X's code: what stood then, its frame's objects, its own object -/
structure GMk (X : Cx) (pins : List (Addr × Obj)) (σ : L2.St) (sg : Shared) (Hg : Hp) (fp : List Addr) (a g : Addr) (go : Obj) : Prop where
  inv : Inv X pins σ Hg sg
  fx : ∀ b ∈ fp, FpOk X pins Hg b
  isGen : ∀ h : Heap, h.get? a = some go → h.IsGen a g
/-- it sleeps; ys is out, at most n more come -/
structure GRun (Y : Cx) (cw : List Addr) (Lk : List V → Heap → Prop) (cy : Cy) (Qe : List V → Hp → Prop) (a g : Addr) (go : Obj) (Aw : Around) (n : Nat) (ys : List V) (s : Shared) : Prop where
  here : s.heap.get? a = some go
  lim : s.heap.NoLimit
  run : ∃ gs, s.gens[g]? = some gs ∧ ∀ s', Doz cw s s' → Lk ys s'.heap → gs.Goes (model Y.prog Y.w) Aw (GFin Y [(a, go)] cw Lk Qe) (GYld Y [(a, go)] cw Lk cy) n (.send .none) s'
theorem Doz.turn {cw : List Addr} {s s' s'' : Shared} (x : Doz cw s s') (y : Doz cw s' s'') : Doz cw s s'' :=
  ⟨y.os.trans x.os, y.bare, fun b o hb e => y.keep b o hb (x.keep b o hb e), y.there⟩
theorem GRun.doz {Y : Cx} {cw : List Addr} {Lk : List V → Heap → Prop} {cy : Cy} {Qe : List V → Hp → Prop} {a g : Addr} {go : Obj} {Aw : Around} {n : Nat} {ys : List V} {s s' : Shared} (R : GRun Y cw Lk cy Qe a g go Aw n ys s) (z : Doz cw s s') (ha : a ∉ cw) (hs : cStatics ∉ cw) (hg : s'.gens = s.gens) :
    GRun Y cw Lk cy Qe a g go Aw n ys s' := by
  obtain ⟨h1, ⟨mc, hn, hnn⟩, gs, h3, h4⟩ := R
  exact ⟨z.keep _ _ ha h1, ⟨mc, hn.at' fun o e => z.keep _ o hs e, hnn⟩, gs, by rw [hg]; exact h3, fun s2 y lk => h4 s2 (z.turn y) lk⟩
section
variable {X : Cx} {pins : List (Addr × Obj)} {σ : L2.St} {sg : Shared} {Hg : Hp} {fp cw : List Addr} {a g : Addr} {go : Obj} {A A1 : Around} {ce : Env} {cy : Cy} {Qe : List V → Hp → Prop} {Lk : List V → Heap → Prop} {s : Shared} {E : Value → Shared → Prop}
/-- back in the consumer's frame -/
theorem GMk.back (M : GMk X pins σ sg Hg fp a g go) {σ' : L2.St} {H : Hp} {s1 s' : Shared} (I : Inv (gcx X A1 sg Hg ce fp) [(a, go)] σ' H s1) (ho : s'.os = s1.os) (kp : ∀ b o, s1.heap.get? b = some o → s'.heap.get? b = some o) (hb : AllBare s'.gens) : Inv X pins σ H s' :=
  M.inv.call' (ch := fp) (ho.trans I.os) (I.base.trans (Un.kept kp)) (I.hok.kept kp) hb fun b hb => ⟨(M.fx b hb).2.2.2.1, (M.fx b hb).2.1, (M.fx b hb).2.2.2.2.1, (M.fx b hb).2.2.2.2.2⟩
/-- what next(generator) gives -/
def GNext (X : Cx) (pins : List (Addr × Obj)) (σ : L2.St) (Y : Cx) (cw : List Addr) (Lk : List V → Heap → Prop) (cy : Cy) (Qe : List V → Hp → Prop) (a g : Addr) (go : Obj) (A : Around) (n : Nat) (s : Shared) (r : Option Value) (s' : Shared) : Prop :=
  KeptAt cw s s' ∧ match r with
  | none => ∃ ys H, Inv X pins σ H s' ∧ (∀ b ∈ cw, H b = none) ∧ Lk ys s'.heap ∧ Qe ys H
  | some v => ∃ ys y H Nx, Inv X pins σ H s' ∧ RelV y v ∧ (∀ b ∈ cw, H b = none) ∧ Lk ys s'.heap ∧ cy ys y H Nx ∧ ∀ ys', Nx ys' H → ∀ s2, Doz cw s' s2 → Lk ys' s2.heap → s2.gens = s'.gens → ∃ n', n = n' + 1 ∧ GRun Y cw Lk cy Qe a g go A n' ys' s2
theorem gx_next (M : GMk X pins σ sg Hg fp a g go) (hLk : Lnk cw Lk) (ha : a ∉ cw) (hs : cStatics ∉ cw) {n : Nat} {ys : List V} (hh : A.handled = none) (hd : A.depth < recursionLimit) (R : GRun (gcx X A1 sg Hg ce fp) cw Lk cy Qe a g go A.in1 n ys s) (hb : AllBare s.gens) (hcw : ∀ b ∈ cw, ∃ o, s.heap.get? b = some o ∧ ∀ v, o.data ≠ .cell v)
    (lk : Lk ys s.heap) : wpAny (model X.prog X.w) A (pyNext (.ref a)) (GNext X pins σ (gcx X A1 sg Hg ce fp) cw Lk cy Qe a g go A.in1 n s) E s := by
  obtain ⟨h1, h2, gs, h3, h4⟩ := R
  have hgl : g < s.gens.size := (Array.getElem?_eq_some_iff.mp h3).1
  have z0 : Doz cw s (s.setGen g .running) := ⟨rfl, allBare_setGen hb rfl, fun _ _ _ e => e, hcw⟩
  refine GenW.wpAny_gsz (n := g + 1) hgl ?_
  refine wpAny_pyNext_genexpQ (P := fun _ s₀ s1 => ∃ (ys : List V) (σ' : L2.St) (H : Hp), Inv (gcx X A1 sg Hg ce fp) [(a, go)] σ' H s1 ∧ KeptAt cw s₀ s1 ∧ (∀ b ∈ cw, H b = none) ∧ Lk ys s1.heap ∧ Qe ys H)
    hh h2 hd (M.isGen _ h1) h3 (h4 _ z0 lk) (fun v s1 gs' hbare hv => ?_) fun s1 hp h' hk => ?_
  · obtain ⟨ys1, y, σ', H, Nx, I, r, kc, nc, lk1, q, wake⟩ := hv
    intro hsz
    have hsz1 : g < s1.gens.size := by
      rw [GenW.setGen_size] at hsz
      exact hsz
    refine ⟨kc, ys1, y, H, Nx, M.back I rfl (fun _ _ e => e) (allBare_setGen I.bare hbare), r, nc, lk1, q, fun ys' hN s2 z lk2 hgs => ?_⟩
    have w2 := wake ys' hN s2 ⟨z.os, z.bare, z.keep, z.there⟩ lk2
    cases n with
    | zero => exact w2.elim
    | succ n' =>
      have R1 : GRun (gcx X A1 sg Hg ce fp) cw Lk cy Qe a g go A.in1 n' ys' (s1.setGen g gs') :=
        ⟨(I.pin (a, go) (List.mem_append_right _ (List.mem_singleton.mpr rfl))).1, I.nolimit, gs', setGen_at hsz1, fun s2 z lk2 => wake ys' hN s2 ⟨z.os, z.bare, z.keep, z.there⟩ lk2⟩
      exact ⟨n', rfl, R1.doz z ha hs hgs⟩
  · obtain ⟨ys1, σ', H, I, kc, nc, lk1, q⟩ := hp
    intro _
    refine ⟨fun b hb o e => hk _ _ (kc b hb o e), ys1, H, M.back I rfl hk (allBare_setGen I.bare rfl), nc, hLk.st _ _ _ lk1 fun b _ o e => hk b o e, q⟩
end
theorem over_gx {A : Around} {elt tg iter : Expr} {ifs : List Expr} {scope : Scope} {pos : Pos} {it : Addr} {ce : Env} : A.over (.compLoop (gxE elt tg iter ifs scope pos) 0 (.ref it) .none ce) [] = A.deeper ce := by
  first
    | rfl
    | (obtain ⟨hd, d, fr, gs, u⟩ := A; simp [Around.over, Around.deeper, marksOver, frameCount, unitsOf, envsOf, guardsOf, pushEnvs, pushGuards, Code.envs, Code.env?, Code.isFrame, Code.guards, Code.isGuard, Code.weight, Code.frames, Code.isCreation, Code.isCaller, Code.cUnits])
/-- the generator has been made and has not begun; at most m items come -/
structure GReady (X : Cx) (pins : List (Addr × Obj)) (σ : L2.St) (m : Nat) (cy : Cy) (Qe : List V → Hp → Prop) (a : Addr) (s : Shared) : Prop where
  ex : ∃ (g : Addr) (go : Obj) (sg : Shared) (Hg : Hp) (fp : List Addr) (ce : Env), GMk X pins σ sg Hg fp a g go ∧ Inv X pins σ Hg s ∧ s.heap.get? a = some go ∧ s.heap.NoLimit ∧
    ∀ (cw : List Addr) (Lk : List V → Heap → Prop) (A : Around) (s2 : Shared), Lnk cw Lk → A.handled = none → A.frames = some X.stack → A.depth ≤ X.A.depth + 1 → A.units ≤ X.A.units + 8 → (∀ b ∈ cw, s.heap.objs.size ≤ b) →
      (∀ b o, s.heap.get? b = some o → s2.heap.get? b = some o) → (∀ b ∈ cw, ∃ o, s2.heap.get? b = some o ∧ ∀ v, o.data ≠ .cell v) → s2.os = s.os → s2.gens = s.gens → Lk [] s2.heap →
      GRun (gcx X (A.deeper ce) sg Hg ce fp) cw Lk cy Qe a g go A m [] s2
section
variable {X : Cx} {pins : List (Addr × Obj)} {σ : L2.St} {H : Hp} {s : Shared} {c P : Addr} {elt iter tg : Expr} {ifs : List Expr} {scope : Scope} {gpos : Pos} {own : List (Str × Nat)} {wi : TI} {g : TG} {tt : TT} {te : TE} {k : Nat} {cy : Cy} {Qe : List V → Hp → Prop}
theorem gx_make (hr : Room (k + 1) X.A) (TB : LamX.TabB X.base X.mg c P) (hcode : X.env.code = .ref c) (hco : scope.isCoroutine = false) (ok : BlkOk X.N X.env.scope scope own) (hN : X.N.Nodup) (nocell : ∀ y ∈ scope.names, y.2 ≠ .cell)
    (h0 : scope.names.lookup (".0" : Str) = some NameKind.local) (hi : PI X tg iter wi)
    (pg : ∀ (A : Around) (s : Shared) (H : Hp) (C : Addr) (cl : List (Str × Addr)) (code : Value) (bi : Addr) (fp : List Addr), Room k A → PG (gcx X A s H (genEnv scope cl C code bi X.env) fp) tg g)
    (pt : ∀ (A : Around) (s : Shared) (H : Hp) (C : Addr) (cl : List (Str × Addr)) (code : Value) (bi : Addr) (fp : List Addr), Room k A → PTs (gcx X A s H (genEnv scope cl C code bi X.env) fp) ifs tt)
    (pe : ∀ (A : Around) (s : Shared) (H : Hp) (C : Addr) (cl : List (Str × Addr)) (code : Value) (bi : Addr) (fp : List Addr), Room k A → PE (gcx X A s H (genEnv scope cl C code bi X.env) fp) elt te)
    (hs : ∀ v, genFold iter X.env v = pure v) (I : Inv X pins σ H s)
    (h : wi σ H fun J H1 => GxR.TabG H1 P ∧ ∀ H2, GxR.Tabbed P H1 H2 → ∃ W m, W 0 m [] H2 ∧ Turns J g tt te (own.map (·.2)) σ cy Qe W) :
    wpAny (model X.prog X.w) X.A (eval (gxE elt tg iter ifs scope gpos) X.env) (fun u s' => ∃ a m, u = .ref a ∧ GReady X pins σ m cy Qe a s') X.xe s := by
  have hfree : ∀ y ∈ scope.names, y.2 = .free → ∃ c, X.env.cells.lookup y.1 = some c := fun y hy e => (ok.free y hy e).elim (fun z => I.ok.has _ (.inl z)) (fun z => I.ok.has _ (.inr z))
  refine wpAny_GeneratorExp_make hco (closure_ok hfree) nocell h0 ok.kind (by have := hr.dp; omega) ?_ hs
  refine thn (hi.run pins s σ H _ I h) fun xv s1 hx => thn hx fun itv s2 h2 => ?_
  obtain ⟨it, fp, tn, J, H2, rfl, I2, T, st2, f2, ⟨ps, hP, ht⟩, q⟩ := h2
  refine ⟨I2.nolimit, ?_⟩
  have hPs : s2.heap.get? P = some { cls := .none, data := .fields ps } := I2.hok P _ hP
  have cd : PySem.W.CodeHd s2.heap c P := TB.code.keeps fun b u e => I2.bk b u e
  have sz : ∀ b ∈ fp, b < s2.heap.objs.size := fun b hb => by
    obtain ⟨o, e, _⟩ := T.obj _ _ st2 b hb
    exact Heap.lt_size e
  have nP : ∀ b ∈ fp, b ≠ P := fun b hb z => by
    have := (f2 b hb).1
    rw [z, hP] at this
    cases this
  have cont : ∀ (code : Value) (h3 : Heap) (tk : Nat) (more : Array Value), Heap.ExtBut P s2.heap h3 → s2.heap.objs.size ≤ h3.objs.size → h3.get? P = some { cls := .none, data := .fields (ps ++ more) } → TriplesOk (ps ++ more).toList →
      wpAny (model X.prog X.w) X.A (builtinsFor X.env.globals X.env.builtins) (fun bi s4 => ∀ h', h'.Ns s4.heap.objs.size (fun y => if y = ".0" then some (.ref it) else none) → Heap.SameBut s4.heap.objs.size (s4.heap.push { cls := .type "frame", data := .dict #[] }) h' →
        ∃ a m, Value.ref h'.objs.size = .ref a ∧ GReady X pins σ m cy Qe a { s4 with
            gens := s4.gens.push (.fresh (.compStart (gxE elt tg iter ifs scope gpos) 0 (.ref it) .none (genEnv scope (cloFrom X.env.cells scope.names []) s4.heap.objs.size code bi X.env))),
            toks := s4.toks + 1 + 1 + 1,
            heap := h'.push { cls := .type "generator", data := .fields #[.int s4.gens.size 0, .str "<genexpr>" (s4.toks + 1), .str (X.env.qual ++ "<genexpr>") (s4.toks + 1 + 1)] } }) X.xe { s2 with heap := h3, toks := tk } := by
    intro code h3 tk more hx3 hsz hP3 ht3
    have kp3 : ∀ b o, b ≠ P → s2.heap.get? b = some o → h3.get? b = some o := fun b o hb e => hx3 b o hb e
    have I3 : Inv X pins σ (upd H2 P (.tbl (ps ++ more))) { s2 with heap := h3, toks := tk } := GxR.inv_tab (g' := s2.gens) (d' := s2.drawn) (t' := tk) I2 hP kp3 hP3 I2.bare
    obtain ⟨W, m, w0, hW⟩ := q (upd H2 P (.tbl (ps ++ more))) ⟨⟨_, upd_same, ht3⟩, fun b hb => upd_ne hb⟩
    have f3 : ∀ b ∈ fp, FpOk X pins (upd H2 P (.tbl (ps ++ more))) b := fun b hb => ⟨by rw [upd_ne (nP b hb)]; exact (f2 b hb).1, (f2 b hb).2⟩
    have st3 : tn 0 h3 := T.keep _ _ _ st2 fun b hb o e => kp3 b o (nP b hb) e
    have sz3 : ∀ b ∈ fp, b < h3.objs.size := fun b hb => Nat.lt_of_lt_of_le (sz b hb) hsz
    obtain ⟨bm, ob, e1, e2, e3, e4, e5, e6, e7, e8⟩ := TB.bm
    refine wpAny_builtinsFor (m := X.mg) (by rw [I3.ok.glob]; exact I3.mod.glob.keeps I3.bk) e1 e2 (I3.bk _ _ e5) e6 e7 e8 ?_
    generalize upd H2 P (.tbl (ps ++ more)) = H3 at I3 w0 f3 hW
    generalize hs3 : ({ s2 with heap := h3, toks := tk } : Shared) = s3 at I3 ⊢
    have e3h : s3.heap = h3 := by rw [← hs3]
    rw [← e3h] at st3 sz3
    intro h' hn' hb'
    have hsz' : h'.objs.size = s3.heap.objs.size + 1 := by rw [hb'.1, Heap.size_push]
    have kp' : ∀ b o, s3.heap.get? b = some o → h'.get? b = some o := fun b o e => hb'.extBut b o (Nat.ne_of_lt (Heap.lt_size e)) (Heap.get?_push_of_some _ e)
    refine ⟨_, m, rfl, ?_⟩
    generalize hgo : ({ cls := .type "generator", data := .fields #[.int s3.gens.size 0, .str "<genexpr>" (s3.toks + 1), .str (X.env.qual ++ "<genexpr>") (s3.toks + 1 + 1)] } : Obj) = go
    have isg : ∀ h : Heap, h.get? h'.objs.size = some go → h.IsGen h'.objs.size s3.gens.size := fun h e => ⟨go, _, _, e, by rw [← hgo], by rw [← hgo], by rw [← hgo]⟩
    have gnc : ∀ v, go.data ≠ .cell v := fun v z => by
      rw [← hgo] at z
      cases z
    have nf : go.data ≠ .freed := fun z => by
      rw [← hgo] at z
      cases z
    have hat : (h'.push go).get? h'.objs.size = some go := by
      rw [← hgo]
      exact Heap.get?_push_size _ rfl
    generalize hce : genEnv scope (cloFrom X.env.cells scope.names []) s3.heap.objs.size code builtinsNs X.env = ce
    have ce1 : ce.scope = scope := by rw [← hce]; rfl
    have ce2 : ce.locals = s3.heap.objs.size := by rw [← hce]; rfl
    have ce3 : ce.globals = mainGlobals := by rw [← hce]; exact I3.ok.glob
    have ce4 : ce.builtins = builtinsNs := by rw [← hce]; rfl
    have ce5 : ce.cells = cloFrom X.env.cells scope.names [] := by rw [← hce]; rfl
    have ce6 : ce.frame = some ce.locals := by rw [← hce]; rfl
    generalize hs5 : ({ s3 with gens := s3.gens.push (.fresh (.compStart (gxE elt tg iter ifs scope gpos) 0 (.ref it) .none ce)), toks := s3.toks + 1 + 1 + 1, heap := h'.push go } : Shared) = s5
    have h5 : s5.heap = h'.push go := by rw [← hs5]
    have g5 : s5.gens = s3.gens.push (.fresh (.compStart (gxE elt tg iter ifs scope gpos) 0 (.ref it) .none ce)) := by rw [← hs5]
    have o5 : s5.os = s3.os := by rw [← hs5]
    have kp5 : ∀ b o, s3.heap.get? b = some o → s5.heap.get? b = some o := fun b o e => by rw [h5]; exact Heap.get?_push_of_some _ (kp' b o e)
    have b5 : AllBare s5.gens := by rw [g5]; exact I3.bare.push rfl
    have M : GMk X pins σ s3 H3 fp h'.objs.size s3.gens.size go := ⟨I3, f3, isg⟩
    have lim5 : s5.heap.NoLimit := I3.nolimit.keeps kp5
    have I5 : Inv X pins σ H3 s5 := I3.call' (ch := []) o5 (Un.kept kp5) (I3.hok.kept kp5) b5 fun b z => by simp at z
    have at5 : s5.heap.get? h'.objs.size = some go := by rw [h5]; exact hat
    have sz5 : s5.heap.objs.size = s3.heap.objs.size + 2 := by rw [h5, Heap.size_push, hsz']
    refine ⟨⟨s3.gens.size, go, s3, H3, fp, ce, M, I5, at5, lim5, fun cw Lk A s6 hLk hh hfr hdp hun hcw kp6 tc os6 gs6 lk => ?_⟩⟩
    have kp36 : ∀ b o, s3.heap.get? b = some o → s6.heap.get? b = some o := fun b o e => kp6 b o (kp5 b o e)
    have hrA : Room k (A.deeper ce) := by
      refine ⟨hh, ?_, ?_⟩
      · have := hr.dp
        show A.depth + 1 + 3 * k + 5 < _
        omega
      · have := hr.un
        show A.units + 3 + 16 * k + 200 < _
        omega
    have nsC : s6.heap.Ns ce.locals (fun y => if y = ".0" then some (.ref it) else none) := by
      rw [ce2]
      exact (hn'.push go).keeps fun b o e => kp6 b o (by rw [h5]; exact e)
    have b6 : AllBare s6.gens := by rw [gs6]; exact b5
    have I6 : Inv (gcx X (A.deeper ce) s3 H3 ce fp) [] (wipe σ (own.map (·.2))) H3 s6 :=
      gcx_start I3 ok hN nocell (fun b hb => ⟨f3 b hb, sz3 b hb⟩) ce1 ce2 ce3 ce4 ce5 ce6 (Around.frames_deeper hfr) hh kp36 nsC (os6.trans o5) b6
    have young : ∀ b, s3.heap.objs.size < b → H3 b = none ∧ b ≠ ce.locals ∧ b ∉ frs X.stack ∧ (∀ x c, ce.cells.lookup x = some c → c ≠ b) := fun b hb => by
      refine ⟨I3.hok.fresh (Nat.le_of_lt hb), by rw [ce2]; exact Nat.ne_of_gt hb, fun z => ?_, fun x d e z => ?_⟩
      · rcases List.mem_cons.mp (I3.stkSub b z) with z | z
        · exact absurd (Nat.lt_trans (by rw [z]; exact I3.lt) hb) (Nat.lt_irrefl _)
        · exact I3.nofs (Nat.le_of_lt hb) z
      · obtain ⟨v, zc⟩ := I6.cell x d e
        rw [ce5] at e
        obtain ⟨u, zd⟩ := I3.cell x d (clo_look hfree e).1
        have := zd.lt
        rw [z] at this
        exact absurd (Nat.lt_trans this hb) (Nat.lt_irrefl _)
    have ga : s3.heap.objs.size < h'.objs.size := by rw [hsz']; exact Nat.lt_succ_self _
    have I6' : Inv (gcx X (A.deeper ce) s3 H3 ce fp) [(h'.objs.size, go)] (wipe σ (own.map (·.2))) H3 s6 := I6.pins_of fun p hp => by
      rw [List.mem_singleton.mp hp]
      obtain ⟨y1, y2, y3, _⟩ := young _ ga
      exact ⟨kp6 _ _ at5, y1, y2, y3, gnc⟩
    have cwlt : ∀ b ∈ cw, s3.heap.objs.size < b ∧ b ≠ h'.objs.size := fun b hb => by
      have h1 : s3.heap.objs.size + 2 ≤ b := by rw [← sz5]; exact hcw b hb
      refine ⟨Nat.lt_of_lt_of_le (Nat.lt_succ_of_lt (Nat.lt_succ_self _)) h1, fun z => ?_⟩
      rw [z, hsz'] at h1
      exact absurd (Nat.lt_of_succ_le h1) (Nat.lt_irrefl _)
    have G : GPlace (gcx X (A.deeper ce) s3 H3 ce fp) [(h'.objs.size, go)] fp cw := by
      refine ⟨fun b hb => ⟨hb, (I6.ok.exf b hb).1, I6.ok.exfs b hb, fun x d e => (I6.ok.exf b hb).2 x d e, fun p hp => ?_, fun z => ?_⟩, fun b hb => ?_⟩
      · rw [List.mem_singleton.mp (show p ∈ [(h'.objs.size, go)] from hp)]
        exact fun z => absurd (Nat.lt_trans (sz3 b hb) (by rw [← z]; exact ga)) (Nat.lt_irrefl _)
      · exact absurd (Nat.lt_trans (sz3 b hb) (cwlt b z).1) (Nat.lt_irrefl _)
      · obtain ⟨y1, y2, y3, y4⟩ := young b (cwlt b hb).1
        refine ⟨Nat.le_of_lt (cwlt b hb).1, y2, y3, y4, fun p hp => ?_⟩
        rw [List.mem_singleton.mp (show p ∈ [(h'.objs.size, go)] from hp)]
        exact (cwlt b hb).2.symm
    have nc : ∀ b ∈ cw, H3 b = none := fun b hb => (young b (cwlt b hb).1).1
    refine ⟨kp6 _ _ at5, lim5.keeps kp6, .fresh (.compStart (gxE elt tg iter ifs scope gpos) 0 (.ref it) .none ce), by rw [gs6, g5]; exact Array.getElem?_push_size .., fun s7 z lk7 => ⟨rfl, ?_⟩⟩
    have I7 := G.doz I6' nc z
    have st7 : tn 0 s7.heap := T.keep _ _ _ st3 fun b hb o e => z.keep b o (fun hc => absurd (Nat.lt_trans (sz3 b hb) (cwlt b hc).1) (Nat.lt_irrefl _)) (kp36 b o e)
    have pg' := pg (A.deeper ce) s3 H3 s3.heap.objs.size (cloFrom X.env.cells scope.names []) code builtinsNs fp hrA
    have pt' := pt (A.deeper ce) s3 H3 s3.heap.objs.size (cloFrom X.env.cells scope.names []) code builtinsNs fp hrA
    have pe' := pe (A.deeper ce) s3 H3 s3.heap.objs.size (cloFrom X.env.cells scope.names []) code builtinsNs fp hrA
    rw [hce] at pg' pt' pe'
    exact gx_first (Y := gcx X (A.deeper ce) s3 H3 ce fp) over_gx rfl (by show ce.scope.isCoroutine = false; rw [ce1]; exact hco) rfl T pg' pt' pe' G hLk hW I7 nc z.there lk7 st7 (fun b hb => (f3 b hb).1) w0
  cases hf : codeAmong gpos ps.toList with
  | none =>
    refine wpAny_genexprCodeX hcode (cd.code hPs ht) (cd.tab hPs) hf fun c' h' tk hx hge hlt hco' _ htab' _ => ?_
    obtain ⟨o1, vs, f1, tf, fl, tg, inF, tx, tt, op, _, _, _, _, _, _, _, _, _, htr, _⟩ := hco'
    exact cont _ h' tk _ hx (Nat.le_trans hge (Nat.le_of_lt hlt)) htab'.2 htr
  | some cv =>
    refine wpAny_genexprCode_hit hcode (cd.code hPs ht) hf ?_
    exact cont cv s2.heap s2.toks #[] (Heap.ExtBut.refl _ _) (Nat.le_refl _) (by rw [Array.append_empty]; exact hPs) (by rw [Array.append_empty]; exact ht)
end
end GXP
namespace GXP
open PySem PySem.Spec PyProof.Rows L2
/-! the consumers -/
/-- the list that the consumer fills -/
abbrev tmpL (acc : Array Value) (c : Nat) : Obj := { cls := .type "list", dict := none, data := .seq acc c, slots := #[] }
def LkT (S : Addr) (ys : List V) (h : Heap) : Prop := ∃ acc c, h.get? S = some (tmpL acc c) ∧ Vals ys acc.toList ∧ ys.length ≤ sizeLine
theorem lnkT (S : Addr) : Lnk [S] (LkT S) := ⟨fun _ _ _ ⟨acc, c, e, r⟩ k => ⟨acc, c, k S (List.mem_singleton.mpr rfl) _ e, r⟩⟩
def cyT : Cy := fun ys y H Nx => ys.length < sizeLine ∧ Nx (ys ++ [y]) H
theorem lnkN : Lnk [] (fun _ _ => True) := ⟨fun _ _ _ _ _ => trivial⟩
/-- all, any: b0 ends it -/
def cyB (b0 : Bool) (Qf : Hp → Prop) : Cy := fun ys y H Nx => ∃ b, y = .bl b ∧ if b = b0 then Qf H else Nx (ys ++ [y]) H
def sumV : List V → Int
  | [] => 0
  | .int z :: r => z + sumV r
  | _ :: r => sumV r
theorem sumV_snoc : ∀ (ys : List V) (z : Int), sumV (ys ++ [.int z]) = sumV ys + z
  | [], z => by simp [sumV]
  | y :: r, z => by
    have ih := sumV_snoc r z
    cases y <;> simp only [List.cons_append, sumV, ih] <;> omega
def LkS (S : Addr) (ys : List V) (h : Heap) : Prop := ∃ t c, h.get? S = some (tmpL #[.int (sumV ys) t] c)
theorem lnkS (S : Addr) : Lnk [S] (LkS S) := ⟨fun _ _ _ ⟨t, c, e⟩ k => ⟨t, c, k S (List.mem_singleton.mpr rfl) _ e⟩⟩
def cyS : Cy := fun ys y H Nx => ∃ z, y = .int z ∧ InLong z ∧ InLong (sumV ys + z) ∧ Nx (ys ++ [y]) H
section
variable {X : Cx} {pins : List (Addr × Obj)} {σ : L2.St} {sg : Shared} {Hg : Hp} {fp : List Addr} {a g S : Addr} {go : Obj} {A A1 : Around} {ce : Env} {Qe : List V → Hp → Prop} {R : Result → Shared → Prop}
theorem gx_drain (M : GMk X pins σ sg Hg fp a g go) (hh : A.handled = none) (hd : A.depth < recursionLimit) (hSa : a ∉ [S]) (hSc : cStatics ∉ [S]) {res : Value}
    (fin : ∀ (s' : Shared) (ys : List V) (H : Hp) (acc : Array Value) (c : Nat), Inv X pins σ H s' → H S = none → s'.heap.get? S = some (tmpL acc c) → Vals ys acc.toList → ys.length ≤ sizeLine → Qe ys H → R (.ok (.ret res)) s') :
    ∀ (n : Nat) (ys : List V) (s : Shared), GRun (gcx X A1 sg Hg ce fp) [S] (LkT S) cyT Qe a g go A.in1.in1 n ys s → LkT S ys s.heap → AllBare s.gens → codeAny (model X.prog X.w) A (.builtin "list.extend.loop" ⟨[.ref S, .ref a, res], []⟩) R s := by
  have E0 := F.entry_extend_loop
  intro n
  induction n with
  | zero =>
    intro ys s G lk hb
    obtain ⟨acc, c, eS, r, hz⟩ := id lk
    refine codeAny_builtin E0 ?_
    rw [Around.under_plainId F.plain_extend_loop]
    refine wpAny_bind (thnF (gx_next M (lnkT S) hSa hSc (A := A.in1) hh hd G hb (fun b hb => ?_) lk) fun r s1 hN => ?_)
    · rw [List.mem_singleton.mp hb]
      exact ⟨_, eS, fun v z => by cases z⟩
    · obtain ⟨kc, hN⟩ := hN
      cases r with
      | none =>
        obtain ⟨ys1, H1, I1, n1, ⟨acc1, c1, e1, r1, z1⟩, q1⟩ := hN
        exact wpAny_pure (fin s1 ys1 H1 acc1 c1 I1 (n1 S (List.mem_singleton.mpr rfl)) e1 r1 z1 q1)
      | some v =>
        obtain ⟨ys1, y, H1, Nx, I1, ry, n1, ⟨acc1, c1, e1, r1, z1⟩, ⟨hlt, hN1⟩, wake⟩ := hN
        have hs : acc1.size < sizeLine := by
          have := r1.length
          simp only [Array.length_toList] at this
          omega
        show wpAny _ A.in1 (updateSeq S (·.push v) >>= _) _ _ _
        refine wpAny_bind (wpAny_updateSeq e1 rfl ?_ (Nat.le_of_lt hs) (by show (acc1.push v).size ≤ sizeLine + 1; rw [Array.size_push]; omega))
        have o1 := Heap.get?_update_self (Obj.mapSeq (·.push v)) e1 rfl
        refine (wake (ys1 ++ [y]) hN1 { s1 with heap := s1.heap.update S (Obj.mapSeq (·.push v)) } ⟨rfl, I1.bare, fun b o hb e => ?_, fun b hb => ?_⟩ ⟨_, _, o1, ?_, ?_⟩ rfl).elim (fun n' h => (Nat.succ_ne_zero n' h.1.symm).elim)
        · exact (Heap.get?_update_other _ _ (fun z => hb (List.mem_singleton.mpr z.symm))).trans e
        · rw [List.mem_singleton.mp hb]
          exact ⟨_, o1, fun v z => by cases z⟩
        · rw [Array.toList_push]
          exact r1.append (.cons ry .nil)
        · rw [List.length_append]
          exact hlt
  | succ n ih =>
    intro ys s G lk hb
    obtain ⟨acc, c, eS, r, hz⟩ := id lk
    refine codeAny_builtin E0 ?_
    rw [Around.under_plainId F.plain_extend_loop]
    refine wpAny_bind (thnF (gx_next M (lnkT S) hSa hSc (A := A.in1) hh hd G hb (fun b hb => ?_) lk) fun r s1 hN => ?_)
    · rw [List.mem_singleton.mp hb]
      exact ⟨_, eS, fun v z => by cases z⟩
    · obtain ⟨kc, hN⟩ := hN
      cases r with
      | none =>
        obtain ⟨ys1, H1, I1, n1, ⟨acc1, c1, e1, r1, z1⟩, q1⟩ := hN
        exact wpAny_pure (fin s1 ys1 H1 acc1 c1 I1 (n1 S (List.mem_singleton.mpr rfl)) e1 r1 z1 q1)
      | some v =>
        obtain ⟨ys1, y, H1, Nx, I1, ry, n1, ⟨acc1, c1, e1, r1, z1⟩, ⟨hlt, hN1⟩, wake⟩ := hN
        have hs : acc1.size < sizeLine := by
          have := r1.length
          simp only [Array.length_toList] at this
          omega
        show wpAny _ A.in1 (updateSeq S (·.push v) >>= _) _ _ _
        refine wpAny_bind (wpAny_updateSeq e1 rfl (wpAny_pure ⟨plainId_quiet F.plain_extend_loop _, ?_⟩) (Nat.le_of_lt hs) (by show (acc1.push v).size ≤ sizeLine + 1; rw [Array.size_push]; omega))
        have o1 := Heap.get?_update_self (Obj.mapSeq (·.push v)) e1 rfl
        have lk2 : LkT S (ys1 ++ [y]) (s1.heap.update S (Obj.mapSeq (·.push v))) := ⟨_, _, o1, by rw [Array.toList_push]; exact r1.append (.cons ry .nil), by rw [List.length_append]; exact hlt⟩
        obtain ⟨n', hn, G'⟩ := wake (ys1 ++ [y]) hN1 { s1 with heap := s1.heap.update S (Obj.mapSeq (·.push v)) } ⟨rfl, I1.bare, fun b o hb e => (Heap.get?_update_other _ _ (fun z => hb (List.mem_singleton.mpr z.symm))).trans e, fun b hb => by
          rw [List.mem_singleton.mp hb]
          exact ⟨_, o1, fun v z => by cases z⟩⟩ lk2 rfl
        cases hn
        exact ih (ys1 ++ [y]) _ G' lk2 I1.bare
end
end GXP
namespace GXP
open PySem PySem.Spec PyProof.Rows L2
section
variable {X : Cx} {pins : List (Addr × Obj)} {σ : L2.St} {sg : Shared} {Hg : Hp} {fp : List Addr} {a g S : Addr} {go : Obj} {A A1 : Around} {ce : Env} {Qe : List V → Hp → Prop} {Qf : Hp → Prop} {R : Result → Shared → Prop}
theorem gx_all (M : GMk X pins σ sg Hg fp a g go) (hh : A.handled = none) (hd : A.depth < recursionLimit)
    (fin : ∀ (s' : Shared) (H : Hp) (b : Bool), Inv X pins σ H s' → (b = true → ∃ ys, Qe ys H) → (b = false → Qf H) → R (.ok (.ret (.bool b))) s') :
    ∀ (n : Nat) (ys : List V) (s : Shared), GRun (gcx X A1 sg Hg ce fp) [] (fun _ _ => True) (cyB false Qf) Qe a g go A.in1.in1 n ys s → AllBare s.gens → codeAny (model X.prog X.w) A (.builtin "all.loop" ⟨[.ref a], []⟩) R s := by
  have E0 := F.entry_all_loop
  intro n
  induction n with
  | zero =>
    intro ys s G hb
    refine codeAny_builtin E0 ?_
    rw [Around.under_plainId F.plain_all_loop]
    refine wpAny_bind (thnF (gx_next M lnkN (by simp) (by simp) (A := A.in1) hh hd G hb (fun b hb => by cases hb) trivial) fun r s1 ⟨_, hN⟩ => ?_)
    cases r with
    | none =>
      obtain ⟨ys1, H1, I1, _, _, q1⟩ := hN
      exact wpAny_bind (wpAny_rule (wpAny_pure (fin s1 H1 true I1 (fun _ => ⟨ys1, q1⟩) (fun z => by cases z))))
    | some v =>
      obtain ⟨ys1, y, H1, Nx, I1, ry, _, _, ⟨b, rfl, q⟩, wake⟩ := hN
      cases ry
      refine wpAny_bind (wpAny_holding (wpAny_truthy_bool (wpAny_bind (wpAny_letGo ?_))))
      cases b with
      | true =>
        rw [if_neg (by decide)] at q
        obtain ⟨n', h, _⟩ := wake _ q s1 ⟨rfl, I1.bare, fun _ _ _ e => e, fun b hb => by cases hb⟩ trivial rfl
        cases h
      | false =>
        rw [if_pos rfl] at q
        exact wpAny_bind (wpAny_rule (wpAny_pure (fin s1 H1 false I1 (fun z => by cases z) (fun _ => q))))
  | succ n ih =>
    intro ys s G hb
    refine codeAny_builtin E0 ?_
    rw [Around.under_plainId F.plain_all_loop]
    refine wpAny_bind (thnF (gx_next M lnkN (by simp) (by simp) (A := A.in1) hh hd G hb (fun b hb => by cases hb) trivial) fun r s1 ⟨_, hN⟩ => ?_)
    cases r with
    | none =>
      obtain ⟨ys1, H1, I1, _, _, q1⟩ := hN
      exact wpAny_bind (wpAny_rule (wpAny_pure (fin s1 H1 true I1 (fun _ => ⟨ys1, q1⟩) (fun z => by cases z))))
    | some v =>
      obtain ⟨ys1, y, H1, Nx, I1, ry, _, _, ⟨b, rfl, q⟩, wake⟩ := hN
      cases ry
      refine wpAny_bind (wpAny_holding (wpAny_truthy_bool (wpAny_bind (wpAny_letGo ?_))))
      cases b with
      | true =>
        rw [if_neg (by decide)] at q
        obtain ⟨n', h, G'⟩ := wake _ q s1 ⟨rfl, I1.bare, fun _ _ _ e => e, fun b hb => by cases hb⟩ trivial rfl
        cases h
        exact wpAny_pure ⟨plainId_quiet F.plain_all_loop _, ih _ s1 G' I1.bare⟩
      | false =>
        rw [if_pos rfl] at q
        exact wpAny_bind (wpAny_rule (wpAny_pure (fin s1 H1 false I1 (fun z => by cases z) (fun _ => q))))
theorem gx_any (M : GMk X pins σ sg Hg fp a g go) (hh : A.handled = none) (hd : A.depth < recursionLimit)
    (fin : ∀ (s' : Shared) (H : Hp) (b : Bool), Inv X pins σ H s' → (b = false → ∃ ys, Qe ys H) → (b = true → Qf H) → R (.ok (.ret (.bool b))) s') :
    ∀ (n : Nat) (ys : List V) (s : Shared), GRun (gcx X A1 sg Hg ce fp) [] (fun _ _ => True) (cyB true Qf) Qe a g go A.in1.in1 n ys s → AllBare s.gens → codeAny (model X.prog X.w) A (.builtin "any.loop" ⟨[.ref a], []⟩) R s := by
  have E0 := F.entry_any_loop
  intro n
  induction n with
  | zero =>
    intro ys s G hb
    refine codeAny_builtin E0 ?_
    rw [Around.under_plainId F.plain_any_loop]
    refine wpAny_bind (thnF (gx_next M lnkN (by simp) (by simp) (A := A.in1) hh hd G hb (fun b hb => by cases hb) trivial) fun r s1 ⟨_, hN⟩ => ?_)
    cases r with
    | none =>
      obtain ⟨ys1, H1, I1, _, _, q1⟩ := hN
      exact wpAny_bind (wpAny_rule (wpAny_pure (fin s1 H1 false I1 (fun _ => ⟨ys1, q1⟩) (fun z => by cases z))))
    | some v =>
      obtain ⟨ys1, y, H1, Nx, I1, ry, _, _, ⟨b, rfl, q⟩, wake⟩ := hN
      cases ry
      refine wpAny_bind (wpAny_holding (wpAny_truthy_bool (wpAny_bind (wpAny_letGo ?_))))
      cases b with
      | false =>
        rw [if_neg (by decide)] at q
        obtain ⟨n', h, _⟩ := wake _ q s1 ⟨rfl, I1.bare, fun _ _ _ e => e, fun b hb => by cases hb⟩ trivial rfl
        cases h
      | true =>
        rw [if_pos rfl] at q
        exact wpAny_bind (wpAny_rule (wpAny_pure (fin s1 H1 true I1 (fun z => by cases z) (fun _ => q))))
  | succ n ih =>
    intro ys s G hb
    refine codeAny_builtin E0 ?_
    rw [Around.under_plainId F.plain_any_loop]
    refine wpAny_bind (thnF (gx_next M lnkN (by simp) (by simp) (A := A.in1) hh hd G hb (fun b hb => by cases hb) trivial) fun r s1 ⟨_, hN⟩ => ?_)
    cases r with
    | none =>
      obtain ⟨ys1, H1, I1, _, _, q1⟩ := hN
      exact wpAny_bind (wpAny_rule (wpAny_pure (fin s1 H1 false I1 (fun _ => ⟨ys1, q1⟩) (fun z => by cases z))))
    | some v =>
      obtain ⟨ys1, y, H1, Nx, I1, ry, _, _, ⟨b, rfl, q⟩, wake⟩ := hN
      cases ry
      refine wpAny_bind (wpAny_holding (wpAny_truthy_bool (wpAny_bind (wpAny_letGo ?_))))
      cases b with
      | false =>
        rw [if_neg (by decide)] at q
        obtain ⟨n', h, G'⟩ := wake _ q s1 ⟨rfl, I1.bare, fun _ _ _ e => e, fun b hb => by cases hb⟩ trivial rfl
        cases h
        exact wpAny_pure ⟨plainId_quiet F.plain_any_loop _, ih _ s1 G' I1.bare⟩
      | true =>
        rw [if_pos rfl] at q
        exact wpAny_bind (wpAny_rule (wpAny_pure (fin s1 H1 true I1 (fun z => by cases z) (fun _ => q))))
theorem gx_sum (M : GMk X pins σ sg Hg fp a g go) (hh : A.handled = none) (hd : A.depth < recursionLimit) (hSa : a ∉ [S]) (hSc : cStatics ∉ [S])
    (fin : ∀ (s' : Shared) (ys : List V) (H : Hp) (t : Tok), Inv X pins σ H s' → H S = none → Qe ys H → R (.ok (.ret (.int (sumV ys) t))) s') :
    ∀ (n : Nat) (ys : List V) (s : Shared), GRun (gcx X A1 sg Hg ce fp) [S] (LkS S) cyS Qe a g go A.in1.in1 n ys s → LkS S ys s.heap → AllBare s.gens → codeAny (model X.prog X.w) A (.builtin "sum.loop" ⟨[.ref a, .ref S, rawInt 0, rawInt 0], []⟩) R s := by
  have E0 := F.entry_sum_loop
  have cwt : ∀ {ys : List V} {s : Shared}, LkS S ys s.heap → ∀ b ∈ [S], ∃ o, s.heap.get? b = some o ∧ ∀ v, o.data ≠ .cell v := fun {ys s} lk b hb => by
    obtain ⟨t, c, e⟩ := lk
    rw [List.mem_singleton.mp hb]
    exact ⟨_, e, fun v z => by cases z⟩
  have turn : ∀ (n : Nat) (ys : List V) (s : Shared), GRun (gcx X A1 sg Hg ce fp) [S] (LkS S) cyS Qe a g go A.in1.in1 n ys s → LkS S ys s.heap → AllBare s.gens →
      (∀ ys2 s2, (∃ n', n = n' + 1 ∧ GRun (gcx X A1 sg Hg ce fp) [S] (LkS S) cyS Qe a g go A.in1.in1 n' ys2 s2) → LkS S ys2 s2.heap → AllBare s2.gens → codeAny (model X.prog X.w) A (.builtin "sum.loop" ⟨[.ref a, .ref S, rawInt 0, rawInt 0], []⟩) R s2) →
      codeAny (model X.prog X.w) A (.builtin "sum.loop" ⟨[.ref a, .ref S, rawInt 0, rawInt 0], []⟩) R s := by
    intro n ys s G lk hb next
    obtain ⟨t, c, eS⟩ := id lk
    refine codeAny_builtin E0 ?_
    rw [Around.under_plainId F.plain_sum_loop]
    show wpAny _ A.in1 (seqItems? (.ref S) >>= _) _ _ s
    refine wpAny_bind (wpAny_seqItems eS rfl ?_)
    show wpAny _ A.in1 (tryCatch (pyNext (.ref a)) _ >>= _) _ _ s
    refine wpAny_bind (wpAny_tryCatch (thnF (gx_next M (lnkS S) hSa hSc (A := A.in1) hh hd G hb (cwt lk) lk) fun r s1 ⟨kc, hN⟩ => ?_))
    have eS1 := kc S (List.mem_singleton.mpr rfl) _ eS
    cases r with
    | none =>
      obtain ⟨ys1, H1, I1, n1, ⟨t1, c1, e1⟩, q1⟩ := hN
      have hd1 := congrArg Obj.data (Option.some.inj (eS1.symm.trans e1))
      simp only [Data.seq.injEq, Array.mk.injEq, List.cons.injEq, Value.int.injEq, and_true] at hd1
      rw [hd1.1.1]
      exact wpAny_pure (fin s1 ys1 H1 _ I1 (n1 S (List.mem_singleton.mpr rfl)) q1)
    | some v =>
      obtain ⟨ys1, y, H1, Nx, I1, ry, n1, ⟨t1, c1, e1⟩, ⟨z, rfl, ⟨f1, f2⟩, ⟨f3, f4⟩, hN1⟩, wake⟩ := hN
      obtain ⟨tz, rfl⟩ := ry
      have hd1 := congrArg Obj.data (Option.some.inj (eS1.symm.trans e1))
      simp only [Data.seq.injEq, Array.mk.injEq, List.cons.injEq, Value.int.injEq, and_true] at hd1
      rw [hd1.1.1]
      have hc : ((decide (-(2 ^ 63) ≤ z) && decide (z < 2 ^ 63)) && (decide (-(2 ^ 63) ≤ sumV ys1 + z) && decide (sumV ys1 + z < 2 ^ 63))) = true := by
        simp only [Bool.and_eq_true, decide_eq_true_eq]
        exact ⟨⟨f1, f2⟩, f3, f4⟩
      show wpAny _ A.in1 (if (_ : Bool) = true then (mkInt (sumV ys1 + z) >>= _) else _) _ _ _
      split
      · refine wpAny_bind (wpAny_mkInt ?_)
        show wpAny _ A.in1 (updateSeq S (fun _ => #[.int (sumV ys1 + z) s1.toks]) >>= _) _ _ _
        have o1 := Heap.get?_update_self (Obj.mapSeq (fun _ => #[Value.int (sumV ys1 + z) s1.toks])) e1 rfl
        have lk2 : LkS S (ys1 ++ [.int z]) (s1.heap.update S (Obj.mapSeq (fun _ => #[Value.int (sumV ys1 + z) s1.toks]))) := ⟨s1.toks, _, by rw [sumV_snoc]; exact o1⟩
        refine wpAny_bind (wpAny_updateSeq e1 rfl (wpAny_pure ⟨plainId_quiet F.plain_sum_loop _, ?_⟩))
        refine next (ys1 ++ [.int z]) _ (wake _ hN1 { s1 with heap := s1.heap.update S (Obj.mapSeq (fun _ => #[Value.int (sumV ys1 + z) s1.toks])), toks := s1.toks + 1 } ⟨rfl, I1.bare, fun b o hb e => (Heap.get?_update_other _ _ (fun q => hb (List.mem_singleton.mpr q.symm))).trans e, cwt lk2⟩ lk2 rfl) lk2 I1.bare
      · rename_i hneg
        exact absurd hc hneg
  intro n
  induction n with
  | zero =>
    intro ys s G lk hb
    exact turn 0 ys s G lk hb fun ys2 s2 ⟨n', h, _⟩ => by cases h
  | succ n ih =>
    intro ys s G lk hb
    refine turn (n + 1) ys s G lk hb fun ys2 s2 ⟨n', h, G'⟩ lk2 hb2 => ?_
    cases h
    exact ih ys2 s2 G' lk2 hb2
end
end GXP
namespace GXP
open PySem PySem.Spec PyProof.Rows L2
section
variable {X : Cx} {pins : List (Addr × Obj)} {σ : L2.St} {a : Addr} {A : Around} {Qe : List V → Hp → Prop} {s : Shared} {m : Nat} {E : Value → Shared → Prop}
theorem gx_collect (hG : GReady X pins σ m cyT Qe a s) (hh : A.handled = none) (hf : A.frames = some X.stack) (hd : A.depth ≤ X.A.depth + 1) (hu : A.units + 2 ≤ X.A.units + 8) (hl : A.depth < recursionLimit) {Q : List Value → Shared → Prop}
    (hQ : ∀ (items : List Value) (s' : Shared) (ys : List V) (H : Hp), Inv X pins σ H s' → Vals ys items → ys.length ≤ sizeLine → Qe ys H → Q items s') : wpAny (model X.prog X.w) A (collect (.ref a)) Q E s := by
  obtain ⟨g, go, sg, Hg, fp, ce, M, I0, ha, lim, ready⟩ := hG.ex
  have hgen := fun (h : Heap) (e : h.get? a = some go) => M.isGen h e
  have hSa : s.heap.objs.size ≠ a := fun z => by
    have := Heap.lt_size ha
    rw [← z] at this
    exact Nat.lt_irrefl _ this
  have hSc : s.heap.objs.size ≠ cStatics := fun z => by
    obtain ⟨_, hn, _⟩ := lim
    have := hn.lt
    rw [← z] at this
    exact Nat.lt_irrefl _ this
  unfold collect
  refine wpAny_bind (wpAny_runValue (codeAny_builtin F.entry_proto_collect ?_))
  rw [Around.under_plainId F.plain_proto_collect]
  show wpAny _ A.in1 (newList [] >>= fun l => again (.builtin "list.__iadd__" ⟨[l, .ref a], []⟩)) _ _ s
  refine wpAny_bind (wpAny_newObj_type (wpAny_pure ⟨plainId_quiet F.plain_list_iadd _, codeAny_builtin F.entry_list_iadd ?_⟩))
  rw [Around.under_plainId F.plain_list_iadd]
  show wpAny _ A.in1 (Builtin.List.listExtendWith (.ref s.heap.objs.size) (.ref a) (.ref s.heap.objs.size)) _ _ _
  unfold Builtin.List.listExtendWith
  have k1 : ∀ b o, s.heap.get? b = some o → (s.heap.push { cls := .type "list", data := .seq ([] : List Value).toArray }).get? b = some o := fun b o e => Heap.get?_push_of_some _ e
  refine wpAny_bind (wpAny_typeOf (Heap.IsGen.typeIs (s := { s with heap := _ }) (hgen _ (k1 _ _ ha))) ?_)
  have q1 : Builtin.List.listSameRef (.ref s.heap.objs.size) (.ref a) = false := by simp [Builtin.List.listSameRef, hSa]
  have q2 : (Value.type "generator" == Value.type "list") = false := by decide
  have q3 : (Value.type "generator" == Value.type "tuple") = false := by decide
  simp only [q1, q2, q3, Bool.or_false, Bool.false_eq_true, if_false]
  refine wpAny_bind (wpAny_pyIter_gen (s := { s with heap := _ }) (hgen _ (k1 _ _ ha)) (wpAny_bind (wpAny_holding ?_)))
  unfold Builtin.List.listLengthHint
  refine wpAny_bind (wpAny_specialOf (Heap.IsGen.typeIs (s := { s with heap := _ }) (hgen _ (k1 _ _ ha))) F.gen_no_len ?_)
  show wpAny _ A.in1 (specialOf (Value.ref a) (Str.ofString "__length_hint__") >>= _) _ _ _
  refine wpAny_bind (wpAny_specialOf (Heap.IsGen.typeIs (s := { s with heap := _ }) (hgen _ (k1 _ _ ha))) F.gen_no_hint (wpAny_pure ?_))
  show wpAny _ A.in1 (rule "list.extend.makes-room" >>= fun _ => Builtin.List.listTouch (.ref s.heap.objs.size) >>= fun _ =>
    again (.builtin "list.extend.loop" ⟨[.ref s.heap.objs.size, .ref a, .ref s.heap.objs.size], []⟩)) _ _ _
  refine wpAny_bind (wpAny_rule (wpAny_bind ?_))
  have o1 : (s.heap.push { cls := .type "list", data := .seq ([] : List Value).toArray }).get? s.heap.objs.size = some { cls := .type "list", data := .seq ([] : List Value).toArray } := Heap.get?_push_size _ rfl
  show wpAny _ A.in1 (updateSeq s.heap.objs.size (·.push .none) >>= fun _ => updateSeq s.heap.objs.size (·.pop)) _ _ _
  refine wpAny_bind (wpAny_updateSeq o1 rfl ?_)
  have o2 := Heap.get?_update_self (Obj.mapSeq (·.push Value.none)) o1 rfl
  refine wpAny_updateSeq o2 rfl (wpAny_pure ⟨plainId_quiet F.plain_extend_loop _, ?_⟩)
  have o3 := Heap.get?_update_self (Obj.mapSeq (·.pop)) o2 rfl
  have k3 : ∀ b o, s.heap.get? b = some o → (((s.heap.push { cls := .type "list", data := .seq ([] : List Value).toArray }).update s.heap.objs.size (Obj.mapSeq (·.push Value.none))).update s.heap.objs.size (Obj.mapSeq (·.pop))).get? b = some o := fun b o e =>
    have hb : s.heap.objs.size ≠ b := fun z => Nat.lt_irrefl b (by have := Heap.lt_size e; rw [z] at this; exact this)
    (Heap.get?_update_other _ _ hb).trans ((Heap.get?_update_other _ _ hb).trans (k1 b o e))
  have lk0 : LkT s.heap.objs.size [] (((s.heap.push { cls := .type "list", data := .seq ([] : List Value).toArray }).update s.heap.objs.size (Obj.mapSeq (·.push Value.none))).update s.heap.objs.size (Obj.mapSeq (·.pop))) := ⟨_, _, o3, .nil, Nat.zero_le _⟩
  have G := ready [s.heap.objs.size] (LkT s.heap.objs.size) A.in1.in1 { s with heap := ((s.heap.push { cls := .type "list", data := .seq ([] : List Value).toArray }).update s.heap.objs.size (Obj.mapSeq (·.push Value.none))).update s.heap.objs.size (Obj.mapSeq (·.pop)) } (lnkT _) hh hf hd hu
    (fun b hb => by rw [List.mem_singleton.mp hb]; exact Nat.le_refl _) k3 (fun b hb => by rw [List.mem_singleton.mp hb]; exact ⟨_, o3, fun v z => by cases z⟩) rfl rfl lk0
  refine gx_drain M hh hl (fun hm => hSa (List.mem_singleton.mp hm).symm) (fun hm => hSc (List.mem_singleton.mp hm).symm) (fun s' ys H acc c I' n' e' r' z' q' => ?_) m [] _ G lk0 I0.bare
  show wpAny _ A (load s.heap.objs.size >>= _) _ _ s'
  exact wpAny_bind (wpAny_load e' (wpAny_pure (hQ acc.toList s' ys H I' r' z' q')))
theorem call_tuple_gx (hr : Room 1 X.A) (hf : X.A.frames = some X.stack) {Q : VK} (hG : GReady X pins σ m cyT (fun ys H => ∀ p, H p = none → Q (.ref p) (upd H p (.tup ys))) a s) :
    wpAny (model X.prog X.w) X.A (call (.type "tuple") [.ref a]) (EP X pins σ Q) E s := by
  obtain ⟨g, go, sg, Hg, fp, ce, M, I0, ha, lim, ready⟩ := id hG.ex
  have hTI : s.TypeIs (.ref a) "generator" := (M.isGen _ ha).typeIs
  refine callType_codes (Q₁ := fun obj s1 => s1.TypeIs obj "tuple" ∧ EP X pins σ Q obj s1) F.called_tuple (F.typeCall_tuple_1 _) F.entry_object_init (codeAny_of_tree ?_) fun obj s1 h1 =>
    ⟨h1.1, F.args_object_init_2 obj _, object_init_meets F.called_tuple.init.lookup F.called_tuple.made (by decide) X.prog X.w X.A.in1 _ s1 ⟨h1.1, rfl, h1.2⟩⟩
  show wpAny _ X.A.in1.in1 (do checkBuiltinCall "tuple.__new__" ⟨[.type "tuple", .ref a], []⟩; again (.builtin "tuple.__new__" ⟨[.type "tuple", .ref a], []⟩)) _ _ s
  refine wpAny_bind (wpAny_of_eq (F.newCall_tuple_1 _) (wpAny_pure ⟨plainId_quiet F.plain_tuple_new _, codeAny_builtin F.entry_tuple_new ?_⟩))
  rw [Around.under_plainId F.plain_tuple_new]
  have hsub := sub_tuple_self
  have hinit := init_tuple_lookup
  have hmh := madeHere_tuple
  have hr1 := hr.dp
  have hr2 := hr.hd
  have col := fun (Q : List Value → Shared → Prop) (E : Value → Shared → Prop) hQ => gx_collect (A := X.A.in1.in1) (E := E) (Q := Q) hG hr2 hf (Nat.le_succ _) (by show X.A.units + 1 + 1 + 2 ≤ _; omega) (by show X.A.depth < _; omega) hQ
  wp_walk using wpAny_typeOf hTI, col
  intro items s' ys H I' r' z' q'
  show wpAny _ _ (Builtin.Tuple.tupleExact items.toArray >>= fun v => ret v) _ _ _
  unfold Builtin.Tuple.tupleExact
  refine wpAny_bind (wpAny_newObj_type (wpAny_pure ?_) ?_)
  · have hn : H s'.heap.objs.size = none := I'.hok.fresh (Nat.le_refl _)
    refine ⟨⟨_, Heap.get?_push_size _ rfl, rfl⟩, .ref s'.heap.objs.size, _, I'.laid (t' := s'.toks) (o := .tup ys) (fun b o e => Heap.get?_push_of_some _ e) (Nat.le_refl _) ⟨z', items, r', ?_⟩, rfl, q' _ hn⟩
    exact ⟨_, Heap.get?_push_size _ rfl, rfl, 0, rfl⟩
  · show items.toArray.size ≤ sizeLine
    rw [List.size_toArray, ← r'.length]
    exact z'
theorem call_all_gx (hr : Room 1 X.A) (hf : X.A.frames = some X.stack) {Q : VK} (hG : GReady X pins σ m (cyB false (Q (.bl false))) (fun _ H => Q (.bl true) H) a s) :
    wpAny (model X.prog X.w) X.A (call (.builtin "all") [.ref a]) (EP X pins σ Q) E s := by
  obtain ⟨g, go, sg, Hg, fp, ce, M, I0, ha, lim, ready⟩ := id hG.ex
  have hr1 := hr.dp
  refine call_function_tree F.kind_all F.plain_all F.entry_all (F.args_all1 _) ?_
  unfold Builtin.«all»
  refine wpAny_bind (m := oneArg "all" _) (wpAny_pure (wpAny_bind (wpAny_pyIter_gen (M.isGen _ ha) (wpAny_pure ⟨plainId_quiet F.plain_all_loop _, ?_⟩))))
  have G := ready [] (fun _ _ => True) X.A.in1.in1 s lnkN hr.hd hf (Nat.le_succ _) (by show X.A.units + 1 + 1 ≤ _; omega) (fun b hb => by cases hb) (fun _ _ e => e) (fun b hb => by cases hb) rfl rfl trivial
  refine gx_all M hr.hd (by omega) (fun s' H b I' h1 h2 => ?_) m [] s G I0.bare
  cases b with
  | true =>
    obtain ⟨_, q⟩ := h1 rfl
    exact ⟨.bl true, H, I', rfl, q⟩
  | false => exact ⟨.bl false, H, I', rfl, h2 rfl⟩
theorem call_any_gx (hr : Room 1 X.A) (hf : X.A.frames = some X.stack) {Q : VK} (hG : GReady X pins σ m (cyB true (Q (.bl true))) (fun _ H => Q (.bl false) H) a s) :
    wpAny (model X.prog X.w) X.A (call (.builtin "any") [.ref a]) (EP X pins σ Q) E s := by
  obtain ⟨g, go, sg, Hg, fp, ce, M, I0, ha, lim, ready⟩ := id hG.ex
  have hr1 := hr.dp
  refine call_function_tree F.kind_any F.plain_any F.entry_any (F.args_any1 _) ?_
  unfold Builtin.«any»
  refine wpAny_bind (m := oneArg "any" _) (wpAny_pure (wpAny_bind (wpAny_pyIter_gen (M.isGen _ ha) (wpAny_pure ⟨plainId_quiet F.plain_any_loop _, ?_⟩))))
  have G := ready [] (fun _ _ => True) X.A.in1.in1 s lnkN hr.hd hf (Nat.le_succ _) (by show X.A.units + 1 + 1 ≤ _; omega) (fun b hb => by cases hb) (fun _ _ e => e) (fun b hb => by cases hb) rfl rfl trivial
  refine gx_any M hr.hd (by omega) (fun s' H b I' h1 h2 => ?_) m [] s G I0.bare
  cases b with
  | false =>
    obtain ⟨_, q⟩ := h1 rfl
    exact ⟨.bl false, H, I', rfl, q⟩
  | true => exact ⟨.bl true, H, I', rfl, h2 rfl⟩
theorem call_sum_gx (hr : Room 1 X.A) (hf : X.A.frames = some X.stack) {Q : VK} (hG : GReady X pins σ m cyS (fun ys H => Q (.int (sumV ys)) H) a s) :
    wpAny (model X.prog X.w) X.A (call (.builtin "sum") [.ref a]) (EP X pins σ Q) E s := by
  obtain ⟨g, go, sg, Hg, fp, ce, M, I0, ha, lim, ready⟩ := id hG.ex
  have hr1 := hr.dp
  have hSa : s.heap.objs.size ≠ a := fun z => by
    have := Heap.lt_size ha
    rw [← z] at this
    exact Nat.lt_irrefl _ this
  have hSc : s.heap.objs.size ≠ cStatics := fun z => by
    obtain ⟨_, hn, _⟩ := lim
    have := hn.lt
    rw [← z] at this
    exact Nat.lt_irrefl _ this
  refine call_function_tree F.kind_sum F.plain_sum F.entry_sum (F.args_sum1 _) ?_
  unfold Builtin.«sum»
  simp only [List.length_cons, List.length_nil]; rw [if_neg (by decide)]
  refine wpAny_bind (wpAny_of_eq (show Builtin.Builtins.bindParams "sum" ["start"] 0 { } = pure [none] from rfl) (wpAny_bind (wpAny_pyIter_gen (M.isGen _ ha) (wpAny_bind (wpAny_mkInt (wpAny_bind (wpAny_pure ?_)))))))
  simp only [List.forIn_cons, List.forIn_nil]; refine wpAny_bind (wpAny_bind (wpAny_bind (wpAny_isInstance (T := "int") (b := false) (typeIs_int _ _ _) PySem.sub_int_str ?_)))
  simp only [Bool.false_eq_true, if_false]; refine wpAny_pure (wpAny_bind (wpAny_bind (wpAny_isInstance (T := "int") (b := false) (typeIs_int _ _ _) sub_int_bytes ?_)))
  simp only [Bool.false_eq_true, if_false]; refine wpAny_pure (wpAny_bind (wpAny_bind (wpAny_isInstance (T := "int") (b := false) (typeIs_int _ _ _) sub_int_bytearray ?_)))
  simp only [Bool.false_eq_true, if_false]; refine wpAny_pure (wpAny_pure (wpAny_bind (wpAny_newObj_type (wpAny_pure ⟨plainId_quiet F.plain_sum_loop _, ?_⟩))))
  have o1 : (s.heap.push { cls := .type "list", data := .seq ([.int 0 s.toks] : List Value).toArray }).get? s.heap.objs.size = some { cls := .type "list", data := .seq ([.int 0 s.toks] : List Value).toArray } := Heap.get?_push_size _ rfl
  have lk0 : LkS s.heap.objs.size [] (s.heap.push { cls := .type "list", data := .seq ([.int 0 s.toks] : List Value).toArray }) := ⟨s.toks, 0, o1⟩
  have G := ready [s.heap.objs.size] (LkS s.heap.objs.size) X.A.in1.in1 { s with heap := s.heap.push { cls := .type "list", data := .seq ([.int 0 s.toks] : List Value).toArray }, toks := s.toks + 1 } (lnkS _) hr.hd hf (Nat.le_succ _) (by show X.A.units + 1 + 1 ≤ _; omega)
    (fun b hb => by rw [List.mem_singleton.mp hb]; exact Nat.le_refl _) (fun b o e => Heap.get?_push_of_some _ e) (fun b hb => by rw [List.mem_singleton.mp hb]; exact ⟨_, o1, fun v z => by cases z⟩) rfl rfl lk0
  refine gx_sum M hr.hd (by omega) (fun hm => hSa (List.mem_singleton.mp hm).symm) (fun hm => hSc (List.mem_singleton.mp hm).symm) (fun s' ys H t I' n' q' => ?_) m [] _ G lk0 I0.bare
  exact ⟨.int (sumV ys), H, I', ⟨t, rfl⟩, q'⟩
end
end GXP
namespace GXP
open PySem PySem.Spec PyProof.Rows L2
/-- F(elt for target in iter if ..): what its reading asks; P the table of the def's code object -/
def tGx (P : Addr) (wi : TI) (g : TG) (tt : TT) (te : TE) (vs : List Nat) (cy : VK → Cy) (Qe : VK → List V → Hp → Prop) : TE := fun σ H Q =>
  wi σ H fun J H1 => GxR.TabG H1 P ∧ ∀ H2, GxR.Tabbed P H1 H2 → ∃ W m, W 0 m [] H2 ∧ Turns J g tt te vs σ (cy Q) (Qe Q) W
section
variable {X : Cx} {c P : Addr} {elt iter tg : Expr} {ifs : List Expr} {scope : Scope} {p pos gpos : Pos} {own : List (Str × Nat)} {wi : TI} {g : TG} {tt : TT} {te : TE} {k : Nat}
/-- what is asked of the expression itself -/
structure GxOk (X : Cx) (k : Nat) (c P : Addr) (elt tg iter : Expr) (ifs : List Expr) (scope : Scope) (own : List (Str × Nat)) (wi : TI) (g : TG) (tt : TT) (te : TE) : Prop where
  hr : Room (k + 1) X.A
  hc : X.calm = true
  tb : LamX.TabB X.base X.mg c P
  code : X.env.code = .ref c
  co : scope.isCoroutine = false
  ok : BlkOk X.N X.env.scope scope own
  nd : X.N.Nodup
  nocell : ∀ y ∈ scope.names, y.2 ≠ .cell
  dot : scope.names.lookup (".0" : Str) = some NameKind.local
  pi : PI X tg iter wi
  pg : ∀ (A : Around) (s : Shared) (H : Hp) (C : Addr) (cl : List (Str × Addr)) (code : Value) (bi : Addr) (fp : List Addr), Room k A → PG (gcx X A s H (genEnv scope cl C code bi X.env) fp) tg g
  pt : ∀ (A : Around) (s : Shared) (H : Hp) (C : Addr) (cl : List (Str × Addr)) (code : Value) (bi : Addr) (fp : List Addr), Room k A → PTs (gcx X A s H (genEnv scope cl C code bi X.env) fp) ifs tt
  pe : ∀ (A : Around) (s : Shared) (H : Hp) (C : Addr) (cl : List (Str × Addr)) (code : Value) (bi : Addr) (fp : List Addr), Room k A → PE (gcx X A s H (genEnv scope cl C code bi X.env) fp) elt te
  fold : ∀ v, genFold iter X.env v = pure v
theorem GxOk.make (G : GxOk X k c P elt tg iter ifs scope own wi g tt te) {cy : Cy} {Qe : List V → Hp → Prop} {pins : List (Addr × Obj)} {s : Shared} {σ : L2.St} {H : Hp} (I : Inv X pins σ H s)
    (h : wi σ H fun J H1 => GxR.TabG H1 P ∧ ∀ H2, GxR.Tabbed P H1 H2 → ∃ W m, W 0 m [] H2 ∧ Turns J g tt te (own.map (·.2)) σ cy Qe W) :
    wpAny (model X.prog X.w) X.A (eval (gxE elt tg iter ifs scope gpos) X.env) (fun u s' => ∃ a m, u = .ref a ∧ GReady X pins σ m cy Qe a s') X.xe s :=
  gx_make G.hr G.tb G.code G.co G.ok G.nd G.nocell G.dot G.pi G.pg G.pt G.pe G.fold I h
theorem pe_tupleGx (hg : Gl X "tuple") (hm : X.mg "tuple" = none) (G : GxOk X k c P elt tg iter ifs scope own wi g tt te)
    (he : starEach [gxE elt tg iter ifs scope gpos] X.env = (false, eval (gxE elt tg iter ifs scope gpos) X.env) :: starEach [] X.env := by rfl) :
    PE X (.Call (.Name "tuple" p) [gxE elt tg iter ifs scope gpos] [] pos) (tGx P wi g tt te (own.map (·.2)) (fun _ => cyT) fun Q ys H => ∀ p, H p = none → Q (.ref p) (upd H p (.tup ys))) := by
  refine ⟨fun pins s σ H Q I h => ?_⟩
  refine wpAny_Call_Name_kw (ld_blt I hg hm (by decide +kernel : bootBuiltins "tuple" = some (.type "tuple")) (PyProof.Rows.callWith_type1 ?_ he (by rfl)))
  rw [he]
  show wpAny _ _ (spliced ((false, eval (gxE elt tg iter ifs scope gpos) X.env) :: backTo pos (starEach [] X.env))) _ _ s
  exact Calls.spliced_cons (thn (G.make I h) fun u s1 ⟨a, m, e, hG⟩ => e ▸ Calls.spliced_nil (call_tuple_gx (G.hr.mono (by omega)) I.ok.frames hG))
theorem pe_allGx (hg : Gl X "all") (hm : X.mg "all" = none) (G : GxOk X k c P elt tg iter ifs scope own wi g tt te)
    (he : starEach [gxE elt tg iter ifs scope gpos] X.env = (false, eval (gxE elt tg iter ifs scope gpos) X.env) :: starEach [] X.env := by rfl) :
    PE X (.Call (.Name "all" p) [gxE elt tg iter ifs scope gpos] [] pos) (tGx P wi g tt te (own.map (·.2)) (fun Q => cyB false (Q (.bl false))) fun Q _ H => Q (.bl true) H) := by
  refine ⟨fun pins s σ H Q I h => ?_⟩
  refine wpAny_Call_Name_kw (ld_blt I hg hm (by decide +kernel : bootBuiltins "all" = some (.builtin "all")) (PyProof.Rows.callWith_builtin1 ?_ he (by rfl)))
  rw [he]
  show wpAny _ _ (spliced ((false, eval (gxE elt tg iter ifs scope gpos) X.env) :: backTo pos (starEach [] X.env))) _ _ s
  exact Calls.spliced_cons (thn (G.make I h) fun u s1 ⟨a, m, e, hG⟩ => e ▸ Calls.spliced_nil (call_all_gx (G.hr.mono (by omega)) I.ok.frames hG))
theorem pe_anyGx (hg : Gl X "any") (hm : X.mg "any" = none) (G : GxOk X k c P elt tg iter ifs scope own wi g tt te)
    (he : starEach [gxE elt tg iter ifs scope gpos] X.env = (false, eval (gxE elt tg iter ifs scope gpos) X.env) :: starEach [] X.env := by rfl) :
    PE X (.Call (.Name "any" p) [gxE elt tg iter ifs scope gpos] [] pos) (tGx P wi g tt te (own.map (·.2)) (fun Q => cyB true (Q (.bl true))) fun Q _ H => Q (.bl false) H) := by
  refine ⟨fun pins s σ H Q I h => ?_⟩
  refine wpAny_Call_Name_kw (ld_blt I hg hm (by decide +kernel : bootBuiltins "any" = some (.builtin "any")) (PyProof.Rows.callWith_builtin1 ?_ he (by rfl)))
  rw [he]
  show wpAny _ _ (spliced ((false, eval (gxE elt tg iter ifs scope gpos) X.env) :: backTo pos (starEach [] X.env))) _ _ s
  exact Calls.spliced_cons (thn (G.make I h) fun u s1 ⟨a, m, e, hG⟩ => e ▸ Calls.spliced_nil (call_any_gx (G.hr.mono (by omega)) I.ok.frames hG))
theorem pe_sumGx (hg : Gl X "sum") (hm : X.mg "sum" = none) (G : GxOk X k c P elt tg iter ifs scope own wi g tt te)
    (he : starEach [gxE elt tg iter ifs scope gpos] X.env = (false, eval (gxE elt tg iter ifs scope gpos) X.env) :: starEach [] X.env := by rfl) :
    PE X (.Call (.Name "sum" p) [gxE elt tg iter ifs scope gpos] [] pos) (tGx P wi g tt te (own.map (·.2)) (fun _ => cyS) fun Q ys H => Q (.int (sumV ys)) H) := by
  refine ⟨fun pins s σ H Q I h => ?_⟩
  refine wpAny_Call_Name_kw (ld_blt I hg hm (by decide +kernel : bootBuiltins "sum" = some (.builtin "sum")) (PyProof.Rows.callWith_builtin1 ?_ he (by rfl)))
  rw [he]
  show wpAny _ _ (spliced ((false, eval (gxE elt tg iter ifs scope gpos) X.env) :: backTo pos (starEach [] X.env))) _ _ s
  exact Calls.spliced_cons (thn (G.make I h) fun u s1 ⟨a, m, e, hG⟩ => e ▸ Calls.spliced_nil (call_sum_gx (G.hr.mono (by omega)) I.ok.frames hG))
end
/-! readings over a list, a tuple, a range: an invariant by the turn, the items so far, the heap -/
section
variable {K : PySem.W.Frag} {a : Addr} {xs : List V} {g : TG} {tt : TT} {te : TE} {vs : List Nat} {σ : L2.St} {cy : Cy} {Qe : List V → Hp → Prop} {H0 : Hp}
theorem gx_tup (Pv : Nat → List V → Hp → Prop) (h0 : Pv 0 [] H0) (hl : ∀ i ys H, i ≤ xs.length → Pv i ys H → SqT K H a xs)
    (hs : ∀ i x ys H, xs[i]? = some x → Pv i ys H → g x (wipe σ vs) H fun σ2 H2 => wipe σ2 vs = wipe σ vs ∧ tt σ2 H2 fun b H3 => if b = true then te σ2 H3 fun y H4 => cy ys y H4 (Pv (i + 1)) else Pv (i + 1) ys H3)
    (hd : ∀ ys H, Pv xs.length ys H → Qe ys H) : ∃ W m, W 0 m [] H0 ∧ Turns (Itt K a) g tt te vs σ cy Qe W := by
  refine ⟨fun i m ys H => m = xs.length - i ∧ i ≤ xs.length ∧ Pv i ys H, xs.length, ⟨rfl, Nat.zero_le _, h0⟩, ?_⟩
  rintro i m ys H ⟨rfl, hi, p⟩
  have q := hl i ys H hi p
  by_cases hlt : i < xs.length
  · refine .inr ⟨⟨xs, _, q, List.getElem?_eq_getElem hlt⟩, by omega, Pv (i + 1), fun ys' H' p' => ⟨_, by omega, rfl, hlt, p'⟩, fun x H' y => ?_⟩
    obtain ⟨rfl, y⟩ := y
    exact hs i x ys _ (y xs q) p
  · have e : i = xs.length := by omega
    subst e
    exact .inl ⟨⟨xs, q, Nat.le_refl _⟩, hd ys H p⟩
theorem gx_list (Pv : Nat → List V → Hp → Prop) (h0 : Pv 0 [] H0) (hl : ∀ i ys H, i ≤ xs.length → Pv i ys H → SqL K H a xs)
    (hs : ∀ i x ys H, xs[i]? = some x → Pv i ys H → g x (wipe σ vs) H fun σ2 H2 => wipe σ2 vs = wipe σ vs ∧ tt σ2 H2 fun b H3 => if b = true then te σ2 H3 fun y H4 => cy ys y H4 (Pv (i + 1)) else Pv (i + 1) ys H3)
    (hd : ∀ ys H, Pv xs.length ys H → Qe ys H) : ∃ W m, W 0 m [] H0 ∧ Turns (Itl K a) g tt te vs σ cy Qe W := by
  refine ⟨fun i m ys H => m = xs.length - i ∧ i ≤ xs.length ∧ Pv i ys H, xs.length, ⟨rfl, Nat.zero_le _, h0⟩, ?_⟩
  rintro i m ys H ⟨rfl, hi, p⟩
  have q := hl i ys H hi p
  by_cases hlt : i < xs.length
  · refine .inr ⟨⟨xs, _, q, List.getElem?_eq_getElem hlt⟩, by omega, Pv (i + 1), fun ys' H' p' => ⟨_, by omega, rfl, hlt, p'⟩, fun x H' y => ?_⟩
    obtain ⟨rfl, y⟩ := y
    exact hs i x ys _ (y xs q) p
  · have e : i = xs.length := by omega
    subst e
    exact .inl ⟨⟨xs, q, Nat.le_refl _⟩, hd ys H p⟩
theorem gx_range {lo : Int} {n : Nat} (Pv : Nat → List V → Hp → Prop) (h0 : Pv 0 [] H0)
    (hs : ∀ i ys H, i < n → Pv i ys H → g (.int (lo + i)) (wipe σ vs) H fun σ2 H2 => wipe σ2 vs = wipe σ vs ∧ tt σ2 H2 fun b H3 => if b = true then te σ2 H3 fun y H4 => cy ys y H4 (Pv (i + 1)) else Pv (i + 1) ys H3)
    (hd : ∀ ys H, Pv n ys H → Qe ys H) : ∃ W m, W 0 m [] H0 ∧ Turns (Itr lo n) g tt te vs σ cy Qe W := by
  refine ⟨fun i m ys H => m = n - i ∧ i ≤ n ∧ Pv i ys H, n, ⟨rfl, Nat.zero_le _, h0⟩, ?_⟩
  rintro i m ys H ⟨rfl, hi, p⟩
  by_cases hlt : i < n
  · refine .inr ⟨hlt, by omega, Pv (i + 1), fun ys' H' p' => ⟨_, by omega, rfl, hlt, p'⟩, fun x H' y => ?_⟩
    obtain ⟨rfl, rfl⟩ := y
    exact hs i ys _ hlt p
  · have e : i = n := by omega
    subst e
    exact .inl ⟨Nat.le_refl _, hd ys H p⟩
end
end GXP
/-! ### sorted(d) of a dict whose keys are pairs of ints, any number of them -/
namespace SDT
open PySem PySem.Spec PyProof.Rows L2
def keyAt (H : Hp) (b : Addr) : Int × Int := match H b with
  | some (.tup [.int i, .int j]) => (i, j)
  | _ => (0, 0)
def keyOf (H : Hp) (v : Value) : Int × Int := match v with
  | .ref b => keyAt H b
  | _ => (0, 0)
theorem keyAt_of {H : Hp} {b : Addr} {i j : Int} (e : H b = some (.tup [.int i, .int j])) : keyAt H b = (i, j) := by
  unfold keyAt
  rw [e]
def pairKey (k : Int × Int) : List Key := [Sum.inl k.1, Sum.inl k.2]
/-- b holds the pair k -/
abbrev PairAt (H : Hp) (k : Int × Int) (b : Addr) : Prop := H b = some (.tup [.int k.1, .int k.2])
def rSortedDT : List V → Hp → VK → Prop := fun vs H Q => ∃ (d : Addr) (kvs : List (List Key × V)) (ks : List (Int × Int)), vs = [V.ref d] ∧ Rd H d (.dT kvs) ∧ kvs.map (·.1) = ks.map pairKey ∧
  ∀ (ys : List (Int × Int)) (bs : List Addr) (p : Addr), ys.Perm ks → ys.Pairwise (fun x y => SrtO.lexB y x = false) → Paired (PairAt H) ys bs → H p = none → Q (.ref p) (upd H p (.lst (bs.map V.ref)))
theorem paired_keys {H : Hp} : ∀ {kvs : List (List Key × V)} {xs : List (List Key × Addr × Value)} {ks : List (Int × Int)}, KT H kvs xs → kvs.map (·.1) = ks.map pairKey → (∀ x ∈ xs, ∃ k : Int × Int, PairAt H k x.2.1) ∧ xs.map (fun x => keyAt H x.2.1) = ks
  | _, _, [], .nil, _ => ⟨fun x m => absurd m List.not_mem_nil, rfl⟩
  | _, _, _ :: _, .nil, e => by cases e
  | _, _, [], .cons _ _, e => by cases e
  | _, _, k :: ks, .cons h t, e => by
    obtain ⟨e1, e2⟩ := List.cons.inj e
    obtain ⟨h1, h2, _⟩ := h
    dsimp only at e1
    rw [e1] at h2
    have q : PairAt H k _ := h2
    obtain ⟨r1, r2⟩ := paired_keys t e2
    refine ⟨fun x m => ?_, ?_⟩
    · rcases List.mem_cons.mp m with rfl | m
      · exact ⟨k, q⟩
      · exact r1 x m
    · rw [List.map_cons, keyAt_of q, r2]
theorem paired_of {H : Hp} : ∀ {bs : List Addr}, (∀ b ∈ bs, ∃ k : Int × Int, PairAt H k b) → Paired (PairAt H) (bs.map (keyAt H)) bs
  | [], _ => .nil
  | b :: bs, h => by
    refine .cons ?_ (paired_of fun x m => h x (List.mem_cons_of_mem _ m))
    obtain ⟨k, e⟩ := h b List.mem_cons_self
    rw [keyAt_of e]
    exact e
theorem refs_of : ∀ {us : List Value}, (∀ u ∈ us, ∃ a, u = Value.ref a) → ∃ bs : List Addr, us = bs.map Value.ref
  | [], _ => ⟨[], rfl⟩
  | u :: us, h => by
    obtain ⟨bs, e⟩ := refs_of (us := us) fun x m => h x (List.mem_cons_of_mem _ m)
    obtain ⟨a, e2⟩ := h u List.mem_cons_self
    exact ⟨a :: bs, by rw [e, e2]; rfl⟩
section
variable {X : Cx}
theorem cr_sortedDT (hc : X.calm = true) : CallR X (.builtin "sorted") rSortedDT := by
  intro pins s σ H xs us Q I r h
  obtain ⟨d, kvs, ks, rfl, hd, hks, q⟩ := h
  obtain ⟨u, rfl, rx⟩ := vals1 r
  cases rx
  obtain ⟨z, hs, ps, pr, o, es, ep, ho, hx, hdt, he, hn⟩ := (show ObjOk X.prog X.w H s.heap d (.dT kvs) from hd.ok I.hok)
  have l1 : es.size = ps.length := size_of_entries he
  have l2 : kvs.length = ps.length := Paired.length pr
  obtain ⟨pk, ek⟩ := paired_keys pr hks
  refine Calls.call_function_entry PyProof.Rows.kind_sorted PyProof.Rows.plain_sorted PyProof.Rows.entry_sorted (PyProof.Rows.args_sorted1 _) ?_
  unfold Builtin.«sorted»
  refine wpAny_bind (m := checkCount "sorted" 1 1 _) (wpAny_pure ?_)
  refine wpAny_bind (PySem.W.kdu_collect (A := X.A.in1) (kdl_raw hs hx hdt) (I.ok.hd hc) ho (by omega) fun h' tk acc hk it => ?_)
  have ea : acc.toList = ps.map fun x => Value.ref x.2.1 := by
    have hl : acc.toList.length = ps.length := by rw [Array.length_toList, it.1]; exact l1
    apply List.ext_getElem?
    intro j
    rw [List.getElem?_map]
    cases hj : acc.toList[j]? with
    | none =>
      have h1 := List.getElem?_eq_none_iff.mp hj
      rw [List.getElem?_eq_none (by omega)]
      all_goals rfl
    | some v =>
      obtain ⟨en, hen, hv⟩ := it.2 j v (by rw [← Array.getElem?_toList]; exact hj)
      have qe := entry_at he j
      rw [hen] at qe
      cases hb : ps[j]? with
      | none =>
        rw [hb] at qe
        exact nomatch (show some en = none from qe)
      | some b =>
        rw [hb] at qe
        have e2 : en = entryOfKey (tupleKind (mixKind X.prog X.w)) b := Option.some.inj qe
        rw [hv, e2]
        all_goals rfl
  have hal : acc.toList.length = ps.length := by rw [ea, List.length_map]
  have I1 : Inv X pins σ H { s with heap := h', toks := tk } := I.kept hk
  refine wpAny_bind (wpAny_newList ?_ (by rw [hal]; omega))
  have hoL : (h'.push (seqObj "list" acc.toList.toArray 0)).get? h'.objs.size = some (seqObj "list" acc.toList.toArray 0) := Heap.get?_push_size _ rfl
  show wpAny _ _ _ _ _ { s with heap := h'.push (seqObj "list" acc.toList.toArray 0), toks := tk }
  have pair : ∀ v ∈ acc.toList, Srt.IsPair (h'.push (seqObj "list" acc.toList.toArray 0)) v (keyOf H v).1 (keyOf H v).2 := fun v m => by
    rw [ea] at m
    obtain ⟨x, hm, rfl⟩ := List.mem_map.mp m
    obtain ⟨k, hk2⟩ := pk x hm
    obtain ⟨_, its2, r2, o2, ho2, hc2, n2, hd2⟩ := I1.hok _ _ hk2
    obtain ⟨u1, u2, rfl, ri, rj⟩ := vals2 r2
    obtain ⟨t1, rfl⟩ := ri
    obtain ⟨t2, rfl⟩ := rj
    have e : keyOf H (Value.ref x.2.1) = k := keyAt_of hk2
    rw [e]
    exact ⟨x.2.1, o2, t1, t2, n2, rfl, Heap.get?_push_of_some _ ho2, hc2, hd2⟩
  refine wpAny_bind (wpAny_holding (wpAny_call_entry PyProof.Rows.slot_list_sort ⟨_, hoL, rfl⟩ PyProof.Rows.entry_list_sort
    (SrtO.list_sort_ord (s := { s with heap := h'.push (seqObj "list" acc.toList.toArray 0), toks := tk }) (SrtO.swo_lex (keyOf H)) hoL (by rw [hal]; omega)
      (fun h2 => SrtO.pairs_sortableO (by omega) pair fun o1 e c => ?_) fun out h1 h2 => ⟨_, rfl, ?_⟩)
    (PyProof.Rows.args_list_sort _)))
  · have e' : some o1 = some (seqObj "list" acc.toList.toArray 0) := e.symm.trans hoL
    cases e'
    exact absurd (Value.type.inj c) (by decide)
  obtain ⟨e', he'⟩ := PyProof.Rows.sortedHeap_at (vs := acc.toList) (out := out.toArray) hoL
  have hm : ∀ u ∈ out, ∃ x ∈ ps, u = Value.ref x.2.1 := fun u hu => by
    have := h2.perm.mem_iff.mp hu
    rw [ea] at this
    obtain ⟨x, hx, e⟩ := List.mem_map.mp this
    exact ⟨x, hx, e.symm⟩
  obtain ⟨bs, rfl⟩ := refs_of (us := out) fun u hu => by
    obtain ⟨x, _, e⟩ := hm u hu
    exact ⟨_, e⟩
  have hb : ∀ b ∈ bs, ∃ k : Int × Int, PairAt H k b := fun b hb => by
    obtain ⟨x, hx, e⟩ := hm _ (List.mem_map.mpr ⟨b, hb, rfl⟩)
    cases e
    exact pk x hx
  have ev : (bs.map Value.ref).map (keyOf H) = bs.map (keyAt H) := by
    rw [List.map_map]
    rfl
  have hp : (bs.map (keyAt H)).Perm ks := by
    have := h2.perm.map (keyOf H)
    rw [ev, ea, List.map_map] at this
    rw [← ek]
    exact this
  have hsr : (bs.map (keyAt H)).Pairwise fun x y => SrtO.lexB y x = false := by
    rw [← ev]
    exact SrtO.srtd_map (f := keyOf H) (lt := SrtO.lexB) h1
  have hlen : (bs.map V.ref).length ≤ sizeLine := by
    have := h2.perm.length_eq
    rw [List.length_map] at this
    rw [List.length_map]
    omega
  refine wpAny_pure ⟨_, rfl, .ref h'.objs.size, upd H h'.objs.size (.lst (bs.map V.ref)), I1.laid (t' := tk) (fun b u e => ?_) (Nat.le_refl _)
    (show ObjOk X.prog X.w _ _ _ (.lst (bs.map V.ref)) from ⟨hlen, bs.map Value.ref, e', vals_refs bs, he'⟩), rfl, q _ bs _ hp hsr (paired_of hb) (I1.hok.fresh (Nat.le_refl _))⟩
  have hb : b < h'.objs.size := Heap.lt_size e
  rw [PyProof.Rows.sortedHeap_old (Nat.ne_of_lt hb) (by rw [size_push']; exact Nat.lt_succ_of_lt hb)]
  exact Heap.get?_push_of_some _ e
end
end SDT
namespace PM
/-- terms: the pair of exponents and the coefficient -/
abbrev Ex := Int × Int
abbrev Trm := Ex × Int
def ltE (p q : Ex) : Prop := p.1 < q.1 ∨ (p.1 = q.1 ∧ p.2 < q.2)
instance (p q : Ex) : Decidable (ltE p q) := by
  unfold ltE
  exact inferInstance
theorem ltE_trans {p q r : Ex} (h : ltE p q) (k : ltE q r) : ltE p r := by
  unfold ltE at *
  omega
theorem ltE_irr {p : Ex} : ¬ ltE p p := by
  unfold ltE
  omega
theorem ltE_ne {p q : Ex} (h : ltE p q) : p ≠ q := fun e => by
  subst e
  exact ltE_irr h
theorem ltE_or {p q : Ex} (h : ¬ ltE p q) (k : p ≠ q) : ltE q p := by
  unfold ltE at *
  have k : ¬ (p.1 = q.1 ∧ p.2 = q.2) := fun z => k (Prod.ext z.1 z.2)
  omega
/-- the value of a list of terms under a weighing of the exponents -/
def lin (f : Ex → Int) : List Trm → Int
  | [] => 0
  | t :: r => t.2 * f t.1 + lin f r
def Eqv (p q : List Trm) : Prop := ∀ f, lin f p = lin f q
theorem Eqv.refl (p : List Trm) : Eqv p p := fun _ => rfl
theorem Eqv.symm {p q : List Trm} (h : Eqv p q) : Eqv q p := fun f => (h f).symm
theorem Eqv.trans {p q r : List Trm} (h : Eqv p q) (k : Eqv q r) : Eqv p r := fun f => (h f).trans (k f)
theorem lin_append (f : Ex → Int) : ∀ p q : List Trm, lin f (p ++ q) = lin f p + lin f q
  | [], q => by simp [lin]
  | t :: r, q => by
    simp only [List.cons_append, lin, lin_append f r q]
    omega
theorem Eqv.append {p p' q q' : List Trm} (h : Eqv p p') (k : Eqv q q') : Eqv (p ++ q) (p' ++ q') := fun f => by
  rw [lin_append, lin_append, h f, k f]
theorem Eqv.perm {p q : List Trm} (h : p.Perm q) : Eqv p q := fun f => by
  induction h with
  | nil => rfl
  | cons x _ ih => simp only [lin, ih]
  | swap x y l =>
    simp only [lin]
    omega
  | trans _ _ a b => exact a.trans b
/-- strictly ascending, no coefficient 0 -/
def Canon (p : List Trm) : Prop := p.Pairwise (fun s t => ltE s.1 t.1) ∧ ∀ t ∈ p, t.2 ≠ 0
theorem lin_zero {f : Ex → Int} : ∀ {p : List Trm}, (∀ t ∈ p, f t.1 = 0) → lin f p = 0
  | [], _ => rfl
  | t :: r, h => by
    rw [lin, h t List.mem_cons_self, lin_zero (p := r) fun s hs => h s (List.mem_cons_of_mem _ hs)]
    simp
theorem canon_uniq : ∀ {p q : List Trm}, Canon p → Canon q → Eqv p q → p = q
  | [], [], _, _, _ => rfl
  | [], t :: r, _, hq, h => by
    exfalso
    have e := h fun x => if x = t.1 then 1 else 0
    have z : lin (fun x => if x = t.1 then (1 : Int) else 0) r = 0 := lin_zero fun s hs => if_neg (ltE_ne ((List.pairwise_cons.mp hq.1).1 s hs)).symm
    simp only [lin, z, if_pos] at e
    exact hq.2 t List.mem_cons_self (by omega)
  | t :: r, [], hp, _, h => by
    exfalso
    have e := h fun x => if x = t.1 then 1 else 0
    have z : lin (fun x => if x = t.1 then (1 : Int) else 0) r = 0 := lin_zero fun s hs => if_neg (ltE_ne ((List.pairwise_cons.mp hp.1).1 s hs)).symm
    simp only [lin, z, if_pos] at e
    exact hp.2 t List.mem_cons_self (by omega)
  | t :: r, u :: w, hp, hq, h => by
    have p1 := List.pairwise_cons.mp hp.1
    have q1 := List.pairwise_cons.mp hq.1
    have key : t.1 = u.1 := by
      by_cases e : t.1 = u.1
      · exact e
      · exfalso
        by_cases l : ltE t.1 u.1
        · have z1 : lin (fun x => if x = t.1 then (1 : Int) else 0) r = 0 := lin_zero fun s hs => if_neg (ltE_ne (p1.1 s hs)).symm
          have z2 : lin (fun x => if x = t.1 then (1 : Int) else 0) (u :: w) = 0 := lin_zero fun s hs => by
            refine if_neg (Ne.symm ?_)
            rcases List.mem_cons.mp hs with rfl | hs
            · exact e
            · exact ltE_ne (ltE_trans l (q1.1 s hs))
          have e2 := h fun x => if x = t.1 then 1 else 0
          rw [z2] at e2
          simp only [lin, z1, if_pos] at e2
          exact hp.2 t List.mem_cons_self (by omega)
        · have l := ltE_or l e
          have z1 : lin (fun x => if x = u.1 then (1 : Int) else 0) w = 0 := lin_zero fun s hs => if_neg (ltE_ne (q1.1 s hs)).symm
          have z2 : lin (fun x => if x = u.1 then (1 : Int) else 0) (t :: r) = 0 := lin_zero fun s hs => by
            refine if_neg (Ne.symm ?_)
            rcases List.mem_cons.mp hs with rfl | hs
            · exact Ne.symm e
            · exact ltE_ne (ltE_trans l (p1.1 s hs))
          have e2 := h fun x => if x = u.1 then 1 else 0
          rw [z2] at e2
          simp only [lin, z1, if_pos] at e2
          exact hq.2 u List.mem_cons_self (by omega)
    have z1 : lin (fun x => if x = t.1 then (1 : Int) else 0) r = 0 := lin_zero fun s hs => if_neg (ltE_ne (p1.1 s hs)).symm
    have z2 : lin (fun x => if x = t.1 then (1 : Int) else 0) w = 0 := lin_zero fun s hs => if_neg (by rw [key]; exact (ltE_ne (q1.1 s hs)).symm)
    have e2 := h fun x => if x = t.1 then 1 else 0
    simp only [lin, z1, z2] at e2
    simp only [if_true, if_pos key.symm] at e2
    have ec : t.2 = u.2 := by omega
    have et : t = u := Prod.ext key ec
    have er : Eqv r w := fun f => by
      have e3 := h f
      simp only [lin, et] at e3
      omega
    rw [et, canon_uniq ⟨p1.2, fun s hs => hp.2 s (List.mem_cons_of_mem _ hs)⟩ ⟨q1.2, fun s hs => hq.2 s (List.mem_cons_of_mem _ hs)⟩ er]
/-- a term put into a list in order -/
def ins (t : Trm) : List Trm → List Trm
  | [] => if t.2 = 0 then [] else [t]
  | u :: r => if ltE t.1 u.1 then (if t.2 = 0 then u :: r else t :: u :: r) else if t.1 = u.1 then (if t.2 + u.2 = 0 then r else (t.1, t.2 + u.2) :: r) else u :: ins t r
def canon (ts : List Trm) : List Trm := ts.foldr ins []
theorem lin_ins (f : Ex → Int) (t : Trm) : ∀ p : List Trm, lin f (ins t p) = t.2 * f t.1 + lin f p
  | [] => by
    unfold ins
    split
    · rename_i h
      rw [h]
      simp [lin]
    · simp [lin]
  | u :: r => by
    unfold ins
    split
    · split
      · rename_i h
        rw [h]
        simp
      · simp [lin]
    · split
      · rename_i e
        split
        · rename_i h
          simp only [lin]
          rw [← e]
          have : t.2 * f t.1 + u.2 * f t.1 = 0 := by
            rw [← Int.add_mul, h, Int.zero_mul]
          omega
        · simp only [lin]
          rw [← e, Int.add_mul]
          omega
      · simp only [lin, lin_ins f t r]
        omega
theorem eqv_canon (ts : List Trm) : Eqv (canon ts) ts := fun f => by
  induction ts with
  | nil => rfl
  | cons t r ih =>
    show lin f (ins t (canon r)) = _
    rw [lin_ins, ih]
    rfl
theorem mem_ins {t s : Trm} : ∀ {p : List Trm}, s ∈ ins t p → s.1 = t.1 ∨ s ∈ p
  | [], h => by
    unfold ins at h
    split at h
    · cases h
    · rw [List.mem_singleton] at h
      exact .inl (by rw [h])
  | u :: r, h => by
    unfold ins at h
    split at h
    · split at h
      · exact .inr h
      · rcases List.mem_cons.mp h with h | h
        · exact .inl (by rw [h])
        · exact .inr h
    · split at h
      · split at h
        · exact .inr (List.mem_cons_of_mem _ h)
        · rcases List.mem_cons.mp h with h | h
          · exact .inl (by rw [h])
          · exact .inr (List.mem_cons_of_mem _ h)
      · rcases List.mem_cons.mp h with h | h
        · exact .inr (h ▸ List.mem_cons_self)
        · rcases mem_ins h with h | h
          · exact .inl h
          · exact .inr (List.mem_cons_of_mem _ h)
theorem canon_ins {t : Trm} : ∀ {p : List Trm}, Canon p → Canon (ins t p)
  | [], _ => by
    unfold ins
    split
    · exact ⟨List.Pairwise.nil, fun s hs => by cases hs⟩
    · rename_i h
      exact ⟨List.pairwise_singleton _ _, fun s hs => by
        rw [List.mem_singleton] at hs
        rw [hs]
        exact h⟩
  | u :: r, hp => by
    have p1 := List.pairwise_cons.mp hp.1
    have tl : Canon r := ⟨p1.2, fun s hs => hp.2 s (List.mem_cons_of_mem _ hs)⟩
    unfold ins
    split
    · rename_i l
      split
      · exact hp
      · rename_i h
        refine ⟨List.pairwise_cons.mpr ⟨fun s hs => ?_, hp.1⟩, fun s hs => ?_⟩
        · rcases List.mem_cons.mp hs with rfl | hs
          · exact l
          · exact ltE_trans l (p1.1 s hs)
        · rcases List.mem_cons.mp hs with rfl | hs
          · exact h
          · exact hp.2 s hs
    · rename_i l
      split
      · rename_i e
        split
        · exact tl
        · rename_i h
          refine ⟨List.pairwise_cons.mpr ⟨fun s hs => ?_, p1.2⟩, fun s hs => ?_⟩
          · show ltE t.1 s.1
            rw [e]
            exact p1.1 s hs
          · rcases List.mem_cons.mp hs with rfl | hs
            · exact h
            · exact hp.2 s (List.mem_cons_of_mem _ hs)
      · rename_i e
        have ih := canon_ins (t := t) tl
        refine ⟨List.pairwise_cons.mpr ⟨fun s hs => ?_, ih.1⟩, fun s hs => ?_⟩
        · rcases mem_ins hs with h | h
          · rw [h]
            exact ltE_or l e
          · exact p1.1 s h
        · rcases List.mem_cons.mp hs with rfl | hs
          · exact hp.2 s List.mem_cons_self
          · exact ih.2 s hs
theorem canon_canon (ts : List Trm) : Canon (canon ts) := by
  induction ts with
  | nil => exact ⟨List.Pairwise.nil, fun s hs => by cases hs⟩
  | cons t r ih => exact canon_ins ih
theorem canon_of {p ts : List Trm} (h : Canon p) (e : Eqv p ts) : p = canon ts := canon_uniq h (canon_canon ts) (e.trans (eqv_canon ts).symm)
theorem canon_congr {p q : List Trm} (h : Eqv p q) : canon p = canon q := canon_uniq (canon_canon p) (canon_canon q) ((eqv_canon p).trans (h.trans (eqv_canon q).symm))
theorem canon_self {p : List Trm} (h : Canon p) : canon p = p := (canon_of h (Eqv.refl p)).symm
/-! products -/
def addE (p q : Ex) : Ex := (p.1 + q.1, p.2 + q.2)
def mulT (p q : List Trm) : List Trm := p.flatMap fun x => q.map fun y => (addE x.1 y.1, x.2 * y.2)
theorem lin_scale (f : Ex → Int) (x : Trm) : ∀ q : List Trm, lin f (q.map fun y => (addE x.1 y.1, x.2 * y.2)) = x.2 * lin (fun y => f (addE x.1 y)) q
  | [] => by simp [lin]
  | y :: r => by
    simp only [List.map_cons, lin, lin_scale f x r]
    rw [Int.mul_add, Int.mul_assoc]
theorem lin_mul (f : Ex → Int) (q : List Trm) : ∀ p : List Trm, lin f (mulT p q) = lin (fun x => lin (fun y => f (addE x y)) q) p
  | [] => rfl
  | x :: r => by
    show lin f ((q.map fun y => (addE x.1 y.1, x.2 * y.2)) ++ mulT r q) = _
    rw [lin_append, lin_scale, lin_mul f q r]
    rfl
theorem lin_congr {f g : Ex → Int} (h : ∀ x, f x = g x) (p : List Trm) : lin f p = lin g p := by
  rw [show f = g from funext h]
theorem lin_add (f g : Ex → Int) : ∀ p : List Trm, lin (fun x => f x + g x) p = lin f p + lin g p
  | [] => by simp [lin]
  | t :: r => by
    simp only [lin, lin_add f g r]
    rw [Int.mul_add]
    omega
theorem lin_smul (c : Int) (f : Ex → Int) : ∀ p : List Trm, lin (fun x => c * f x) p = c * lin f p
  | [] => by simp [lin]
  | t :: r => by
    simp only [lin, lin_smul c f r]
    rw [Int.mul_add, Int.mul_left_comm]
theorem lin_const0 : ∀ p : List Trm, lin (fun _ => 0) p = 0
  | [] => rfl
  | t :: r => by simp [lin, lin_const0 r]
theorem lin_swap (g : Ex → Ex → Int) (q : List Trm) : ∀ p : List Trm, lin (fun x => lin (fun y => g x y) q) p = lin (fun y => lin (fun x => g x y) p) q
  | [] => by simp only [lin, lin_const0]
  | t :: r => by
    simp only [lin]
    rw [lin_swap g q r, lin_add, lin_smul]
theorem Eqv.mul {p p' q q' : List Trm} (h : Eqv p p') (k : Eqv q q') : Eqv (mulT p q) (mulT p' q') := fun f => by
  rw [lin_mul, lin_mul, h, lin_congr fun x => k _]
theorem mul_comm (p q : List Trm) : Eqv (mulT p q) (mulT q p) := fun f => by
  rw [lin_mul, lin_mul, lin_swap]
  refine lin_congr (fun y => lin_congr (fun x => ?_) _) _
  unfold addE
  rw [Int.add_comm, Int.add_comm x.2]
theorem mul_assoc (p q r : List Trm) : Eqv (mulT (mulT p q) r) (mulT p (mulT q r)) := fun f => by
  rw [lin_mul, lin_mul, lin_mul]
  refine lin_congr (fun x => ?_) _
  rw [lin_mul]
  refine lin_congr (fun y => lin_congr (fun z => ?_) _) _
  unfold addE
  simp only [Int.add_assoc]
def one : List Trm := [((0, 0), 1)]
theorem one_mul (p : List Trm) : Eqv (mulT one p) p := fun f => by
  rw [lin_mul]
  show (1 : Int) * lin _ p + 0 = _
  rw [Int.one_mul, Int.add_zero]
  refine lin_congr (fun y => ?_) _
  unfold addE
  simp
/-- powers -/
def pw (p : List Trm) : Nat → List Trm
  | 0 => one
  | n + 1 => mulT (pw p n) p
theorem pw_add (p : List Trm) (i : Nat) : ∀ j, Eqv (mulT (pw p i) (pw p j)) (pw p (i + j))
  | 0 => (mul_comm _ _).trans (one_mul _)
  | j + 1 => (mul_assoc _ _ _).symm.trans (Eqv.mul (pw_add p i j) (Eqv.refl p))
theorem pw_congr {p q : List Trm} (h : Eqv p q) : ∀ n, Eqv (pw p n) (pw q n)
  | 0 => Eqv.refl _
  | n + 1 => Eqv.mul (pw_congr h n) h
/-! the size of coefficients -/
def norm : List Trm → Nat
  | [] => 0
  | t :: r => t.2.natAbs + norm r
theorem norm_append : ∀ p q : List Trm, norm (p ++ q) = norm p + norm q
  | [], q => by simp [norm]
  | t :: r, q => by
    simp only [List.cons_append, norm, norm_append r q]
    omega
theorem norm_ins (t : Trm) : ∀ p : List Trm, norm (ins t p) ≤ t.2.natAbs + norm p
  | [] => by
    unfold ins
    split <;> simp [norm]
  | u :: r => by
    unfold ins
    split
    · split <;> simp [norm]
    · split
      · split
        · simp only [norm]
          omega
        · simp only [norm]
          omega
      · have := norm_ins t r
        simp only [norm]
        omega
theorem norm_canon : ∀ ts : List Trm, norm (canon ts) ≤ norm ts
  | [] => Nat.le_refl _
  | t :: r => by
    show norm (ins t (canon r)) ≤ _
    have h1 := norm_ins t (canon r)
    have h2 := norm_canon r
    simp only [norm]
    omega
theorem norm_scale (x : Trm) : ∀ q : List Trm, norm (q.map fun y => (addE x.1 y.1, x.2 * y.2)) = x.2.natAbs * norm q
  | [] => by simp [norm]
  | y :: r => by
    simp only [List.map_cons, norm, norm_scale x r]
    rw [Nat.mul_add, Int.natAbs_mul]
theorem norm_mul (q : List Trm) : ∀ p : List Trm, norm (mulT p q) = norm p * norm q
  | [] => by simp [norm, mulT]
  | x :: r => by
    show norm ((q.map fun y => (addE x.1 y.1, x.2 * y.2)) ++ mulT r q) = _
    rw [norm_append, norm_scale, norm_mul q r]
    simp only [norm]
    rw [Nat.add_mul]
theorem norm_mem {t : Trm} : ∀ {p : List Trm}, t ∈ p → t.2.natAbs ≤ norm p
  | u :: r, h => by
    rcases List.mem_cons.mp h with rfl | h
    · simp only [norm]
      omega
    · have := norm_mem h
      simp only [norm]
      omega
theorem length_canon_le : ∀ ts : List Trm, (canon ts).length ≤ ts.length
  | [] => Nat.le_refl _
  | t :: r => by
    have h : ∀ p : List Trm, (ins t p).length ≤ p.length + 1 := by
      intro p
      induction p with
      | nil =>
        unfold ins
        split <;> simp
      | cons u w ih =>
        unfold ins
        split
        · split <;> simp
        · split
          · split <;> simp <;> omega
          · simp only [List.length_cons]
            omega
    have h2 := length_canon_le r
    have h3 := h (canon r)
    show (ins t (canon r)).length ≤ _
    simp only [List.length_cons]
    omega
theorem length_mul (p q : List Trm) : (mulT p q).length = p.length * q.length := by
  induction p with
  | nil => simp [mulT]
  | cons x r ih =>
    show ((q.map fun y => (addE x.1 y.1, x.2 * y.2)) ++ mulT r q).length = _
    rw [List.length_append, List.length_map, ih, List.length_cons, Nat.add_mul]
    omega
/-! a dict that gathers: pairs in the order in which they came, no key twice -/
def look (d : List Trm) (k : Ex) : Int := match d.find? (fun p => decide (p.1 = k)) with
  | some p => p.2
  | none => 0
def put (d : List Trm) (k : Ex) (v : Int) : List Trm := if d.any (fun p => decide (p.1 = k)) then d.map (fun p => if p.1 = k then (p.1, v) else p) else d ++ [(k, v)]
def addTo (d : List Trm) (t : Trm) : List Trm := put d t.1 (look d t.1 + t.2)
def gather (ts : List Trm) : List Trm := ts.foldl addTo []
def keys (d : List Trm) : List Ex := d.map (·.1)
theorem keys_put (d : List Trm) (k : Ex) (v : Int) : keys (put d k v) = if k ∈ keys d then keys d else keys d ++ [k] := by
  have h : (d.any fun p => decide (p.1 = k)) = true ↔ k ∈ keys d := by
    rw [List.any_eq_true]
    unfold keys
    constructor
    · rintro ⟨p, hp, e⟩
      exact List.mem_map.mpr ⟨p, hp, of_decide_eq_true e⟩
    · intro h
      obtain ⟨p, hp, e⟩ := List.mem_map.mp h
      exact ⟨p, hp, decide_eq_true e⟩
  unfold put
  by_cases hk : k ∈ keys d
  · rw [if_pos (h.mpr hk), if_pos hk]
    unfold keys
    rw [List.map_map]
    refine List.map_congr_left fun p _ => ?_
    show (if p.1 = k then (p.1, v) else p).1 = p.1
    split <;> rfl
  · rw [if_neg (fun z => hk (h.mp z)), if_neg hk]
    unfold keys
    rw [List.map_append]
    rfl
theorem nodup_put {d : List Trm} (h : (keys d).Nodup) (k : Ex) (v : Int) : (keys (put d k v)).Nodup := by
  rw [keys_put]
  split
  · exact h
  · rename_i hk
    rw [List.nodup_append]
    refine ⟨h, List.pairwise_singleton _ _, fun a ha b hb => ?_⟩
    rw [List.mem_singleton] at hb
    rw [hb]
    exact fun e => hk (e ▸ ha)
theorem look_none {d : List Trm} {k : Ex} (h : k ∉ keys d) : look d k = 0 := by
  unfold look
  rw [List.find?_eq_none.mpr]
  intro p hp e
  exact h (List.mem_map.mpr ⟨p, hp, of_decide_eq_true e⟩)
theorem look_cons (p : Trm) (d : List Trm) (k : Ex) : look (p :: d) k = if p.1 = k then p.2 else look d k := by
  unfold look
  rw [List.find?_cons]
  by_cases h : p.1 = k
  · simp [h]
  · simp [h]
theorem lin_map_put (f : Ex → Int) (k : Ex) (v : Int) : ∀ {d : List Trm}, (keys d).Nodup → k ∈ keys d → lin f (d.map fun p => if p.1 = k then (p.1, v) else p) = lin f d + (v - look d k) * f k
  | [], _, h => by simp [keys] at h
  | p :: r, hn, hk => by
    have n1 : p.1 ∉ keys r ∧ (keys r).Nodup := List.nodup_cons.mp hn
    rw [look_cons]
    simp only [List.map_cons, lin]
    by_cases e : p.1 = k
    · rw [if_pos e, if_pos e]
      have z : r.map (fun p => if p.1 = k then (p.1, v) else p) = r := by
        refine (List.map_congr_left fun q hq => if_neg fun z => n1.1 (List.mem_map.mpr ⟨q, hq, by rw [z, e]⟩)).trans (List.map_id' r)
      rw [z, ← e, Int.sub_mul]
      show v * f p.1 + lin f r = _
      omega
    · have hk2 : k ∈ keys r := by
        rcases List.mem_cons.mp (show k ∈ p.1 :: keys r from hk) with z | z
        · exact absurd z.symm e
        · exact z
      rw [if_neg e, if_neg e, lin_map_put f k v n1.2 hk2]
      omega
theorem lin_put (f : Ex → Int) {d : List Trm} (hn : (keys d).Nodup) (k : Ex) (v : Int) : lin f (put d k v) = lin f d + (v - look d k) * f k := by
  have h : (d.any fun p => decide (p.1 = k)) = true ↔ k ∈ keys d := by
    rw [List.any_eq_true]
    unfold keys
    constructor
    · rintro ⟨p, hp, e⟩
      exact List.mem_map.mpr ⟨p, hp, of_decide_eq_true e⟩
    · intro h
      obtain ⟨p, hp, e⟩ := List.mem_map.mp h
      exact ⟨p, hp, decide_eq_true e⟩
  unfold put
  by_cases hk : k ∈ keys d
  · rw [if_pos (h.mpr hk), lin_map_put f k v hn hk]
  · rw [if_neg (fun z => hk (h.mp z)), lin_append, look_none hk]
    simp [lin]
theorem gather_go (f : Ex → Int) : ∀ (ts d : List Trm), (keys d).Nodup → (keys (ts.foldl addTo d)).Nodup ∧ lin f (ts.foldl addTo d) = lin f d + lin f ts
  | [], d, h => ⟨h, by simp [lin]⟩
  | t :: r, d, h => by
    have n := nodup_put h t.1 (look d t.1 + t.2)
    obtain ⟨h1, h2⟩ := gather_go f r (addTo d t) n
    refine ⟨h1, ?_⟩
    show lin f (r.foldl addTo (addTo d t)) = _
    rw [h2]
    unfold addTo
    rw [lin_put f h]
    simp only [lin]
    rw [show look d t.1 + t.2 - look d t.1 = t.2 by omega]
    omega
theorem gather_nodup (ts : List Trm) : (keys (gather ts)).Nodup := (gather_go (fun _ => 0) ts [] List.nodup_nil).1
theorem gather_eqv (ts : List Trm) : Eqv (gather ts) ts := fun f => by
  have h := (gather_go f ts [] List.nodup_nil).2
  simp only [lin] at h
  unfold gather
  omega
theorem length_put (d : List Trm) (k : Ex) (v : Int) : (put d k v).length ≤ d.length + 1 := by
  unfold put
  split
  · rw [List.length_map]
    omega
  · rw [List.length_append]
    exact Nat.le_refl _
theorem length_gather_go : ∀ (ts d : List Trm), (ts.foldl addTo d).length ≤ d.length + ts.length
  | [], d => Nat.le_refl _
  | t :: r, d => by
    have h1 := length_gather_go r (addTo d t)
    have h2 : (addTo d t).length ≤ d.length + 1 := length_put _ _ _
    show (r.foldl addTo (addTo d t)).length ≤ _
    simp only [List.length_cons]
    omega
theorem look_of_mem : ∀ {d : List Trm} {p : Trm}, (keys d).Nodup → p ∈ d → look d p.1 = p.2
  | q :: r, p, hn, hp => by
    have n1 : q.1 ∉ keys r ∧ (keys r).Nodup := List.nodup_cons.mp hn
    rw [look_cons]
    rcases List.mem_cons.mp hp with rfl | hp
    · rw [if_pos rfl]
    · rw [if_neg (fun e => n1.1 (List.mem_map.mpr ⟨p, hp, e.symm⟩)), look_of_mem n1.2 hp]
/-- what is read off by keys in order -/
def read (d : List Trm) (ks : List Ex) : List Trm := (ks.filter fun k => decide (look d k ≠ 0)).map fun k => (k, look d k)
theorem lin_read (f : Ex → Int) (d : List Trm) : ∀ ks : List Ex, lin f (read d ks) = lin f (ks.map fun k => (k, look d k))
  | [] => rfl
  | k :: r => by
    have ih := lin_read f d r
    unfold read at *
    rw [List.filter_cons]
    by_cases h : look d k = 0
    · simp only [h, ne_eq, not_true_eq_false, decide_false, Bool.false_eq_true, if_false, List.map_cons, lin]
      rw [ih]
      simp
    · rw [if_pos (decide_eq_true h)]
      simp only [List.map_cons, lin, ih]
theorem map_look {d : List Trm} (hn : (keys d).Nodup) : (keys d).map (fun k => (k, look d k)) = d := by
  unfold keys
  rw [List.map_map]
  refine (List.map_congr_left fun p hp => ?_).trans (List.map_id' d)
  show (p.1, look d p.1) = p
  rw [look_of_mem hn hp]
theorem read_canon {ts d : List Trm} {ks : List Ex} (hn : (keys d).Nodup) (he : Eqv d ts) (hp : ks.Perm (keys d)) (hs : ks.Pairwise fun a b => ¬ ltE b a) : read d ks = canon ts := by
  refine canon_of ⟨?_, fun t ht => ?_⟩ fun f => ?_
  · have h2 : ks.Pairwise ltE := by
      exact (List.Pairwise.and hs (hp.nodup_iff.mpr hn)).imp fun h => ltE_or h.1 (Ne.symm h.2)
    unfold read
    rw [List.pairwise_map]
    exact h2.sublist List.filter_sublist
  · obtain ⟨k, hk, rfl⟩ := List.mem_map.mp ht
    exact of_decide_eq_true (List.mem_filter.mp hk).2
  · rw [lin_read]
    have h3 : (ks.map fun k => (k, look d k)).Perm d := by
      have := hp.map fun k => (k, look d k)
      rw [map_look hn] at this
      exact this
    rw [Eqv.perm h3 f]
    exact he f
end PM
/-! ### heaps that grow: what is no table stays, tables stay tables -/
namespace EXT
open PySem PySem.Spec PyProof.Rows L2 SDT PM
structure Ext (H H' : Hp) : Prop where
  keep : ∀ b x, H b = some x → (∀ ps, x ≠ .tbl ps) → H' b = some x
  tabs : ∀ b ps, H b = some (.tbl ps) → ∃ qs, H' b = some (.tbl qs) ∧ (TriplesOk ps.toList → TriplesOk qs.toList)
theorem Ext.tab {H H' : Hp} (s : Ext H H') {b : Addr} (h : GxR.TabG H b) : GxR.TabG H' b := by
  obtain ⟨ps, h1, h2⟩ := h
  obtain ⟨qs, g1, g2⟩ := s.tabs b ps h1
  exact ⟨qs, g1, g2 h2⟩
theorem Ext.refl (H : Hp) : Ext H H := ⟨fun _ _ e _ => e, fun _ ps h => ⟨ps, h, id⟩⟩
theorem Ext.trans {H H1 H2 : Hp} (a : Ext H H1) (b : Ext H1 H2) : Ext H H2 := ⟨fun c x e n => b.keep c x (a.keep c x e n) n, fun c ps h => by
  obtain ⟨qs, g1, g2⟩ := a.tabs c ps h
  obtain ⟨rs, k1, k2⟩ := b.tabs c qs g1
  exact ⟨rs, k1, fun z => k2 (g2 z)⟩⟩
theorem Ext.own {H H1 : Hp} {d : Addr} {o : HO} (s : Ext H H1) (hd : H d = none) : Ext H (upd H1 d o) := by
  refine ⟨fun b x e n => ?_, fun b ps h => ?_⟩
  · rw [upd_ne (ne_of_none e hd)]
    exact s.keep b x e n
  · obtain ⟨qs, g1, g2⟩ := s.tabs b ps h
    exact ⟨qs, by rw [upd_ne (ne_of_none h hd)]; exact g1, g2⟩
theorem ext_upd {H : Hp} {p : Addr} {o : HO} (h : H p = none) : Ext H (upd H p o) := (Ext.refl H).own h
theorem Ext.new {H H1 : Hp} {p : Addr} {o : HO} (s : Ext H H1) (h : H1 p = none) : Ext H (upd H1 p o) := s.trans (ext_upd h)
theorem ext_tabbed {H H' : Hp} {P : Addr} (t : GxR.TabG H P) (h : GxR.Tabbed P H H') : Ext H H' := by
  obtain ⟨ps, e0, _⟩ := t
  refine ⟨fun b x e n => ?_, fun b qs g => ?_⟩
  · rw [h.2 b (fun z => ?_)]
    · exact e
    · rw [z, e0] at e
      exact n ps (Option.some.inj e).symm
  · by_cases z : b = P
    · obtain ⟨rs, g1, g2⟩ := h.1
      rw [z]
      exact ⟨rs, g1, fun _ => g2⟩
    · exact ⟨qs, by rw [h.2 b z]; exact g, id⟩
theorem Ext.tabbed {H H1 H2 : Hp} {P : Addr} (s : Ext H H1) (t : GxR.TabG H1 P) (h : GxR.Tabbed P H1 H2) : Ext H H2 := s.trans (ext_tabbed t h)
theorem Ext.free {H H' : Hp} {p : Addr} (s : Ext H H') (h : H' p = none) : H p = none := by
  cases e : H p with
  | none => rfl
  | some x =>
    cases x with
    | tbl ps =>
      obtain ⟨qs, g, _⟩ := s.tabs p ps e
      rw [h] at g
      cases g
    | _ =>
      have := s.keep p _ e (fun ps z => by cases z)
      rw [h] at this
      cases this
theorem _root_.L2.Same.ext {H H' : Hp} (s : Same H H') : Ext H H' := ⟨fun b x e _ => s b x e, fun b ps e => ⟨ps, s _ _ e, id⟩⟩
section
variable {K : PySem.W.Frag} {H H' : Hp} (s : Ext H H')
include s
theorem Ext.rdL {a : Addr} {xs : List V} (h : Rd H a (.lst xs)) : Rd H' a (.lst xs) := by
  rcases h with h | ⟨o, h⟩
  · exact .inl (s.keep _ _ h (fun _ z => by cases z))
  · exact .inr ⟨o, s.keep _ _ h (fun _ z => by cases z)⟩
theorem Ext.rdT {a : Addr} {xs : List V} (h : Rd H a (.tup xs)) : Rd H' a (.tup xs) := by
  rcases h with h | ⟨o, h⟩
  · exact .inl (s.keep _ _ h (fun _ z => by cases z))
  · exact .inr ⟨o, s.keep _ _ h (fun _ z => by cases z)⟩
theorem Ext.seq {a : Addr} {xs : List V} (h : SqL K H a xs) : SqL K H' a xs := h.imp s.rdL id
theorem Ext.tup {a : Addr} {xs : List V} (h : SqT K H a xs) : SqT K H' a xs := h.imp s.rdT id
theorem Ext.at {a : Addr} {xs : List V} (h : H a = some (.tup xs)) : H' a = some (.tup xs) := s.keep _ _ h (fun _ z => by cases z)
theorem Ext.dt {a : Addr} {xs : List (List Key × V)} (h : H a = some (.dT xs)) : H' a = some (.dT xs) := s.keep _ _ h (fun _ z => by cases z)
theorem Ext.lst {a : Addr} {xs : List V} (h : H a = some (.lst xs)) : H' a = some (.lst xs) := s.keep _ _ h (fun _ z => by cases z)
end
mutual
theorem dp_ext {K : PySem.W.Frag} {H H' : Hp} (s : Ext H H') : ∀ {v : V} {d : PyData}, Dp K H v d → Dp K H' v d
  | _, _, .non => .non
  | _, _, .bl b => .bl b
  | _, _, .int i => .int i
  | _, _, .str x => .str x
  | _, _, .lst h t => .lst (s.seq h) (dpAll_ext s t)
  | _, _, .tup h t => .tup (s.tup h) (dpAll_ext s t)
theorem dpAll_ext {K : PySem.W.Frag} {H H' : Hp} (s : Ext H H') : ∀ {vs : List V} {ds : List PyData}, DpAll K H vs ds → DpAll K H' vs ds
  | _, _, .nil => .nil
  | _, _, .cons h t => .cons (dp_ext s h) (dpAll_ext s t)
end
theorem Ext.pairs {H H' : Hp} (s : Ext H H') : ∀ {ks : List (Int × Int)} {bs : List Addr}, Paired (PairAt H) ks bs → Paired (PairAt H') ks bs
  | _, _, .nil => .nil
  | _, _, .cons h t => .cons (s.at h) (s.pairs t)
/-! ### terms and polynomials in the heap -/
/-- v is the term t -/
def TermAt (K : PySem.W.Frag) (H : Hp) (v : V) (t : Trm) : Prop := ∃ a b, v = .ref a ∧ SqT K H a [.ref b, .int t.2] ∧ SqT K H b [.int t.1.1, .int t.1.2]
/-- the same, the key known to be one -/
def TermT (H : Hp) (v : V) (t : Trm) : Prop := ∃ a b, v = .ref a ∧ H a = some (.tup [.ref b, .int t.2]) ∧ PairAt H t.1 b
theorem TermT.at {K : PySem.W.Frag} {H : Hp} {v : V} {t : Trm} (h : TermT H v t) : TermAt K H v t := by
  obtain ⟨a, b, e, h1, h2⟩ := h
  exact ⟨a, b, e, .inl (.inl h1), .inl (.inl h2)⟩
theorem Ext.termT {H H' : Hp} (s : Ext H H') {v : V} {t : Trm} (h : TermT H v t) : TermT H' v t := by
  obtain ⟨a, b, e, h1, h2⟩ := h
  exact ⟨a, b, e, s.at h1, s.at h2⟩
theorem Ext.term {K : PySem.W.Frag} {H H' : Hp} (s : Ext H H') {v : V} {t : Trm} (h : TermAt K H v t) : TermAt K H' v t := by
  obtain ⟨a, b, e, h1, h2⟩ := h
  exact ⟨a, b, e, s.tup h1, s.tup h2⟩
theorem paired_imp {α β : Type} {R R' : α → β → Prop} (h : ∀ a b, R a b → R' a b) : ∀ {as : List α} {bs : List β}, Paired R as bs → Paired R' as bs
  | _, _, .nil => .nil
  | _, _, .cons x t => .cons (h _ _ x) (paired_imp h t)
/-- the item of a pairing at a place -/
theorem paired_at {α β : Type} {R : α → β → Prop} : ∀ {as : List α} {bs : List β} {i : Nat} {a : α}, Paired R as bs → as[i]? = some a → ∃ b, bs[i]? = some b ∧ R a b
  | _, _, _, _, .nil, h => by simp at h
  | _, _, 0, _, .cons x t, h => by
    simp only [List.getElem?_cons_zero, Option.some.injEq] at h
    subst h
    exact ⟨_, rfl, x⟩
  | _, _, i + 1, _, .cons x t, h => by
    simp only [List.getElem?_cons_succ] at h
    obtain ⟨b, h1, h2⟩ := paired_at t h
    exact ⟨b, by simpa using h1, h2⟩
theorem paired_app {α β : Type} {R : α → β → Prop} : ∀ {as : List α} {bs : List β} {as' : List α} {bs' : List β}, Paired R as bs → Paired R as' bs' → Paired R (as ++ as') (bs ++ bs')
  | _, _, _, _, .nil, k => k
  | _, _, _, _, .cons x t, k => .cons x (paired_app t k)
theorem paired_snoc {α β : Type} {R : α → β → Prop} {as : List α} {bs : List β} {a : α} {b : β} (h : Paired R as bs) (x : R a b) : Paired R (as ++ [a]) (bs ++ [b]) := paired_app h (.cons x .nil)
/-- vs are the terms ts -/
abbrev Terms (K : PySem.W.Frag) (H : Hp) (vs : List V) (ts : List Trm) : Prop := Paired (TermAt K H) vs ts
abbrev TermsT (H : Hp) (vs : List V) (ts : List Trm) : Prop := Paired (TermT H) vs ts
theorem Ext.terms {K : PySem.W.Frag} {H H' : Hp} (s : Ext H H') {vs : List V} {ts : List Trm} (h : Terms K H vs ts) : Terms K H' vs ts := paired_imp (fun _ _ => s.term) h
theorem Ext.termsT {H H' : Hp} (s : Ext H H') {vs : List V} {ts : List Trm} (h : TermsT H vs ts) : TermsT H' vs ts := paired_imp (fun _ _ => s.termT) h
theorem terms_of {K : PySem.W.Frag} {H : Hp} {vs : List V} {ts : List Trm} (h : TermsT H vs ts) : Terms K H vs ts := paired_imp (fun _ _ h => h.at) h
/-- a tuple of terms at p -/
def PolyAt (K : PySem.W.Frag) (H : Hp) (p : Addr) (ts : List Trm) : Prop := ∃ vs, SqT K H p vs ∧ Terms K H vs ts
def PolyT (H : Hp) (p : Addr) (ts : List Trm) : Prop := ∃ vs, H p = some (.tup vs) ∧ TermsT H vs ts
theorem PolyT.at {K : PySem.W.Frag} {H : Hp} {p : Addr} {ts : List Trm} (h : PolyT H p ts) : PolyAt K H p ts := by
  obtain ⟨vs, h1, h2⟩ := h
  exact ⟨vs, .inl (.inl h1), terms_of h2⟩
theorem Ext.poly {K : PySem.W.Frag} {H H' : Hp} (s : Ext H H') {p : Addr} {ts : List Trm} (h : PolyAt K H p ts) : PolyAt K H' p ts := by
  obtain ⟨vs, h1, h2⟩ := h
  exact ⟨vs, s.tup h1, s.terms h2⟩
theorem Ext.polyT {H H' : Hp} (s : Ext H H') {p : Addr} {ts : List Trm} (h : PolyT H p ts) : PolyT H' p ts := by
  obtain ⟨vs, h1, h2⟩ := h
  exact ⟨vs, s.at h1, s.termsT h2⟩
/-- a term, a polynomial as data -/
def termD (t : Trm) : PyData := .tuple [.tuple [.int t.1.1, .int t.1.2], .int t.2]
def polyD (ts : List Trm) : PyData := .tuple (ts.map termD)
theorem TermAt.dp {K : PySem.W.Frag} {H : Hp} {v : V} {t : Trm} (h : TermAt K H v t) : Dp K H v (termD t) := by
  obtain ⟨a, b, rfl, h1, h2⟩ := h
  exact .tup h1 (.cons (.tup h2 (.cons (.int _) (.cons (.int _) .nil))) (.cons (.int _) .nil))
theorem terms_dp {K : PySem.W.Frag} {H : Hp} : ∀ {vs : List V} {ts : List Trm}, Terms K H vs ts → DpAll K H vs (ts.map termD)
  | _, _, .nil => .nil
  | _, _, .cons h t => .cons h.dp (terms_dp t)
theorem PolyAt.dp {K : PySem.W.Frag} {H : Hp} {p : Addr} {ts : List Trm} (h : PolyAt K H p ts) : Dp K H (.ref p) (polyD ts) := by
  obtain ⟨vs, h1, h2⟩ := h
  exact .tup h1 (terms_dp h2)
/-! ### a dict of exponents -/
def kvsOf (d : List Trm) : List (List Key × V) := d.map fun t => (pairKey t.1, .int t.2)
theorem pairKey_inj {k j : Ex} (h : pairKey k = pairKey j) : k = j := by
  obtain ⟨h1, h2⟩ := List.cons.inj h
  obtain ⟨h3, _⟩ := List.cons.inj h2
  exact Prod.ext (Sum.inl.inj h1) (Sum.inl.inj h3)
theorem valV_kvs (k : Ex) : ∀ d : List Trm, valV (kvsOf d) (pairKey k) = if k ∈ keys d then some (.int (look d k)) else none
  | [] => rfl
  | t :: d => by
    by_cases e : t.1 = k
    · rw [show kvsOf (t :: d) = (pairKey t.1, V.int t.2) :: kvsOf d from rfl, valV_pos (by rw [e]), if_pos (by rw [← e]; exact List.mem_map.mpr ⟨t, List.mem_cons_self, rfl⟩), look_cons, if_pos e]
    · rw [show kvsOf (t :: d) = (pairKey t.1, V.int t.2) :: kvsOf d from rfl, valV_neg (fun z => e (pairKey_inj z)), valV_kvs k d, look_cons, if_neg e]
      have : (k ∈ keys (t :: d)) ↔ k ∈ keys d := by
        show k ∈ t.1 :: keys d ↔ _
        rw [List.mem_cons]
        exact ⟨fun z => z.resolve_left fun q => e q.symm, .inr⟩
      by_cases m : k ∈ keys d
      · rw [if_pos m, if_pos (this.mpr m)]
      · rw [if_neg m, if_neg (fun z => m (this.mp z))]
theorem getD_kvs (d : List Trm) (k : Ex) : (valV (kvsOf d) (pairKey k)).getD (.int 0) = .int (look d k) := by
  rw [valV_kvs]
  by_cases m : k ∈ keys d
  · rw [if_pos m]
    rfl
  · rw [if_neg m, look_none m]
    rfl
theorem put_kvs (d : List Trm) (k : Ex) (v : Int) : putK (kvsOf d) (pairKey k) (.int v) = kvsOf (put d k v) := by
  have e : ((kvsOf d).any fun kv => decide (kv.1 = pairKey k)) = d.any fun p => decide (p.1 = k) := by
    unfold kvsOf
    rw [List.any_map]
    congr 1
    funext t
    show decide (pairKey t.1 = pairKey k) = decide (t.1 = k)
    by_cases z : t.1 = k
    · rw [decide_eq_true z, decide_eq_true (by rw [z])]
    · rw [decide_eq_false z, decide_eq_false (fun q => z (pairKey_inj q))]
  unfold putK put
  rw [e]
  by_cases z : (d.any fun p => decide (p.1 = k)) = true
  · rw [if_pos z, if_pos z]
    unfold kvsOf
    rw [List.map_map, List.map_map]
    refine List.map_congr_left fun t _ => ?_
    show (if pairKey t.1 = pairKey k then (pairKey t.1, V.int v) else (pairKey t.1, V.int t.2)) = _
    by_cases q : t.1 = k
    · rw [if_pos (by rw [q])]
      simp only [Function.comp, if_pos q]
    · rw [if_neg (fun w => q (pairKey_inj w))]
      simp only [Function.comp, if_neg q]
  · rw [if_neg z, if_neg z]
    unfold kvsOf
    rw [List.map_append]
    rfl
theorem length_kvs (d : List Trm) : (kvsOf d).length = d.length := by
  unfold kvsOf
  rw [List.length_map]
theorem keys_kvs (d : List Trm) : (kvsOf d).map (·.1) = (keys d).map pairKey := by
  unfold kvsOf keys
  rw [List.map_map, List.map_map]
  rfl
theorem lex_lt {p q : Ex} : SrtO.lexB p q = false ↔ ¬ ltE p q := SrtO.lexB_no
end EXT
/-! ### a def whose code object is known -/
namespace L2
open PySem PySem.Spec PyProof.Rows
structure FunC (K : PySem.W.Frag) (x qual : Str) (st : Stmt) (f : Addr) (fd : FuncData) (c : Addr) : Prop where
  ex : ∃ (oc : Value) (od : Option Addr) (kV doc pm : Value) (an : Option Addr) (ct : Value) (osl : Array (Option Value)),
    fd = PySem.W.fnOf x qual (defArgs st) (defBody st) (defScope st) .none kV doc pm an (.ref c) ct ∧ K.lookup f = some ⟨oc, od, .func fd, osl⟩ ∧ PySem.W.codeIn K (.ref c) qual = true
  kp : PySem.W.keepIn K (.ref f) = true
section
variable {P : Program} {w : World} {K : PySem.W.Frag} {mg : Str → Option Value} {base : Heap}
theorem FunC.ok {x qual : Str} {st : Stmt} {f c : Addr} {fd : FuncData} {N ps : List Str} {k : Nat} {sp : Sp} (F : FunC K x qual st f fd c) (S : FnScope N ps (defScope st)) (len : ∀ vs H Q E, sp vs H Q E → vs.length = ps.length)
    (hbody : ∀ (A : Around) (outer : List Env) (s : Shared) (H : Hp) (vs : List V) (Q : VK) (E : XK), Room k (A.deeper (envOfC qual (defScope st) s.heap.objs.size f (.ref c))) → sp vs H Q E →
      ∃ t, PSs (cxOf CX0 P w K mg base N qual (defScope st) f (.ref c) A outer s H E).nox (defBody st) t ∧ t { nx := fun _ H' => Q .non H', rt := Q } (start N vs) H) :
    FnOk P w K mg base CX0 (k + 1) f fd ps sp := by
  obtain ⟨oc, od, kV, doc, pm, an, ct, osl, e, lk, hcd⟩ := F.ex
  subst e
  refine fn_of lk hcd S len fun A outer s H vs Q E hr hsp => ?_
  obtain ⟨t, h, q⟩ := hbody A outer s H vs Q E hr hsp
  exact ⟨t, h.nox, q⟩
theorem FunC.binds {x qual : Str} {st : Stmt} {f c : Addr} {fd : FuncData} {ps : List Str} (F : FunC K x qual st f fd c)
    (h : ∀ (kV doc pm : Value) (an : Option Addr) (cdv ct : Value) (us : List Value), us.length = ps.length → bindArgs (PySem.W.fnOf x qual (defArgs st) (defBody st) (defScope st) .none kV doc pm an cdv ct) ⟨us, []⟩ = pure (ps.zip us)) : Binds K fd ps [] := by
  obtain ⟨oc, od, kV, doc, pm, an, ct, osl, e, lk, hcd⟩ := F.ex
  subst e
  exact .all (h kV doc pm an (.ref c) ct)
theorem funC_mk {x qual : Str} {st : Stmt} {f c : Addr} {oc : Value} {od an : Option Addr} {osl : Array (Option Value)} {kV doc pm ct : Value} (l : K.lookup f = some ⟨oc, od, .func (PySem.W.fnOf x qual (defArgs st) (defBody st) (defScope st) .none kV doc pm an (.ref c) ct), osl⟩)
    (h : PySem.W.codeIn K (.ref c) qual = true) (k : PySem.W.keepIn K (.ref f) = true) : FunC K x qual st f (PySem.W.fnOf x qual (defArgs st) (defBody st) (defScope st) .none kV doc pm an (.ref c) ct) c := ⟨⟨oc, od, kV, doc, pm, an, ct, osl, rfl, l, h⟩, k⟩
end
end L2
/-! ### the end: the tables of all defs -/
namespace LamX
open PySem PySem.Spec PyProof.Rows L2
/-- the table of each def of the text is empty -/
def AllTab (q : Program) (K : PySem.W.Frag) (h : Heap) : Prop := ∀ (y : Str) (f c P : Addr) (o : Obj) (fd : FuncData) (e : Value) (dd : Option Addr) (vs : Array Value) (sl : Array (Option Value)), ((recsOf q).any fun r => r.name == y) = true →
  PySem.W.nsIn K mainGlobals y = some (some (.ref f)) → K.lookup f = some o → o.data = .func fd → fd.code = .ref c → K.lookup c = some ⟨e, dd, .fields vs, sl⟩ → vs[11]? = some (.ref P) → h.get? P = some { cls := .none, data := .fields #[] }
theorem walk_ofAll {l : PySem.W.OpenLaw} {n k : Nat} {q : Program} {loose : List Str} {XP : (Str → Option Value) → Heap → Prop} {YP : World → Heap → Prop} {d : DefRec} {K : Params → PySem.W.Frag} {CX : World → CXT} {x : Str}
    (hn : l.most = some n) (hn2 : n ≤ sizeLine) (hdf : d.params.defaults = []) (hr : Room k callerA) (hY : ∀ (w : World) (h : Heap), YP w h → (K w.params).In h)
    (F : ∀ (w : World) (mg : Str → Option Value) (fa : Addr) (h : Heap), YP w h → (K w.params).In h → h.Ns mainGlobals mg → mg d.name = some (.ref fa) → AllTab q (K w.params) h → LawAtS l w (K w.params) (CX w) k n x mg fa h)
    (hCX : ∀ (w : World) (H : Hp) (s : Shared) (e : Value) (s' : Shared), CX w [] H s (fun _ _ _ => False) e s' → False) :
    PySem.W.WalkO q loose XP YP l.row.toRowW d [] (fun f vs => PySem.call f vs) := by
  refine Att.attach_callB hn hdf fun w s₀ s₁ mg mb fa o pm cd doc a vs ns G Y ho hd hcd hmg hobj hints hlen hbits hg => ?_
  have KX := hY w _ Y
  have own : AllTab q (K w.params) s₁.heap := fun y f c P o1 fd1 e dd vs1 sl hrec k0 k1 k2 k3 k4 k5 => by
    obtain ⟨dL, hm, hn1⟩ := List.any_eq_true.mp hrec
    have hn2 : dL.name = y := beq_iff_eq.mp hn1
    obtain ⟨a', o', fd', c', P', h1, h2, h3, h4, h5, h6⟩ := G.T.tab dL hm
    rw [hn2, PySem.W.mg_of KX G.T.g k0] at h1
    cases h1
    have g1 := KX _ _ k1
    rw [g1] at h2
    cases h2
    rw [k2] at h3
    cases h3
    rw [k3] at h4
    cases h4
    obtain ⟨⟨oc, vc, e1, _, e3, e4⟩, hP⟩ := h6
    have g2 := KX _ _ k4
    rw [g2] at e1
    cases e1
    cases e3
    rw [k5] at e4
    cases e4
    exact hP
  obtain ⟨fd, cs, sp, hT, nT, C, hb, hsp, hF⟩ := F w mg fa _ Y KX G.T.g hmg own
  exact law_callTs KX G.T.g G.T.b G.T.builtins G.T.nolimit hg hT nT C G.T.bmain hobj hints (Nat.le_trans hlen hn2) hr hF hb (fun H hH hS => hsp H a ns hlen hbits hH hS) fun H e s' => hCX w H s₁ e s'
end LamX
namespace L2
open PySem PySem.Spec PyProof.Rows
/-- a list or a tuple, walked -/
def iSeq (K : PySem.W.Frag) (tl : TE) : TI := fun σ H R => tl σ H fun x H1 => ∃ a, x = .ref a ∧ (((∃ xs, SqL K H1 a xs) ∧ R (Itl K a) H1) ∨ ((∃ xs, SqT K H1 a xs) ∧ R (Itt K a) H1))
theorem pi_seq {X : Cx} {tg l : Expr} {tl : TE} (hl : PE X l tl) : PI X tg l (iSeq X.K tl) := by
  refine ⟨fun pins s σ H R I h => ?_⟩
  refine thn (hl.run pins s σ H _ I h) fun v s1 ⟨x, H1, I1, r1, a, e, q1⟩ => ?_
  subst e
  cases r1
  rcases q1 with ⟨⟨xs, hq⟩, q⟩ | ⟨⟨xs, hq⟩, q⟩
  · obtain ⟨its, rv, p, hz⟩ := I1.list hq
    refine wpAny_pyIter_list p.isList ⟨s1.heap.objs.size, [s1.heap.objs.size], _, _, H1, rfl, I1.kept (t' := s1.toks) fun b o e => Heap.get?_push_of_some _ e, turn_list a _, ⟨_, Heap.get?_push_size _ rfl, rfl, rfl⟩, fun b hb => ?_, q⟩
    obtain rfl : b = s1.heap.objs.size := by simpa using hb
    exact I1.fpOk (Nat.le_refl _) (I1.hok.fresh (Nat.le_refl _))
  · obtain ⟨its, rv, p, hz⟩ := I1.tuple hq
    refine wpAny_pyIter_tuple (show s1.heap.IsTuple a its.toArray from p) ⟨s1.heap.objs.size, [s1.heap.objs.size], _, _, H1, rfl, I1.kept (t' := s1.toks) fun b o e => Heap.get?_push_of_some _ e, turn_tuple a _, ⟨_, Heap.get?_push_size _ rfl, rfl, rfl⟩, fun b hb => ?_, q⟩
    obtain rfl : b = s1.heap.objs.size := by simpa using hb
    exact I1.fpOk (Nat.le_refl _) (I1.hok.fresh (Nat.le_refl _))
/-- walking a list or a tuple: one invariant -/
theorem for_seq {K : PySem.W.Frag} {a : Addr} {xs : List V} {g : TG} {tb : TS} {D : Ends} {σ : St} {H H0 : Hp} (ha : SqL K H0 a xs ∨ SqT K H0 a xs) (Pv : Nat → St → Hp → Prop) (h0 : Pv 0 σ H) (hl : ∀ i σ H1, i ≤ xs.length → Pv i σ H1 → EXT.Ext H0 H1)
    (hs : ∀ i x σ H, xs[i]? = some x → Pv i σ H → g x σ H fun σ2 H2 => tb { D with nx := Pv (i + 1), ct := Pv (i + 1), bk := D.nx } σ2 H2) (hd : ∀ σ H, Pv xs.length σ H → D.nx σ H) :
    let G : It → Prop := fun J => ∃ W : Nat → Nat → St → Hp → Prop, (∃ m, W 0 m σ H) ∧ ∀ i m σ H, W i m σ H →
      ((J.stop i H ∧ D.nx σ H) ∨ (J.go i H ∧ ∃ N : St → Hp → Prop, (∀ σ' H', N σ' H' → ∃ m', m' < m ∧ W (i + 1) m' σ' H') ∧ ∀ x H', J.yld i H x H' → g x σ H' fun σ2 H2 => tb { D with nx := N, ct := N, bk := D.nx } σ2 H2))
    ((∃ xs, SqL K H a xs) ∧ G (Itl K a)) ∨ ((∃ xs, SqT K H a xs) ∧ G (Itt K a)) := by
  rcases ha with h | h
  · exact .inl ⟨⟨xs, (hl _ _ _ (Nat.zero_le _) h0).seq h⟩, for_list Pv h0 (fun i σ H1 hi p => (hl i σ H1 hi p).seq h) hs hd⟩
  · exact .inr ⟨⟨xs, (hl _ _ _ (Nat.zero_le _) h0).tup h⟩, for_tup Pv h0 (fun i σ H1 hi p => (hl i σ H1 hi p).tup h) hs hd⟩
end L2
namespace L2
open PySem PySem.Spec PyProof.Rows
/-- pairs of ints, by their first, then by their second -/
def geP (x y : Int × Int) : Bool := !SrtO.lexB x y
theorem ge_not (i j : Int) : (!decide (i < j)) = decide (j ≤ i) := by
  by_cases z : i < j
  · rw [decide_eq_true z, decide_eq_false (by omega)]
    rfl
  · rw [decide_eq_false z, decide_eq_true (by omega)]
    rfl
/-- t >= u of two pairs of ints -/
def rGeP (K : PySem.W.Frag) : R2 := fun x y H Q => ∃ (a b : Addr) (p q : Int × Int), x = .ref a ∧ y = .ref b ∧ SqT K H a [.int p.1, .int p.2] ∧ SqT K H b [.int q.1, .int q.2] ∧ Q (.bl (geP p q)) H
theorem pair_vals {i j : Int} {its : List Value} (r : Vals [V.int i, .int j] its) : ∃ t u, its = [.int i t, .int j u] := by
  obtain ⟨u1, u2, rfl, ⟨t, rfl⟩, ⟨u, rfl⟩⟩ := vals2 r
  exact ⟨t, u, rfl⟩
theorem op_geP {X : Cx} (hu : X.A.units < cLine) : OpR X (compareOp .GtE) (rGeP X.K) := by
  intro pins s σ H x y v u Q I rx ry h
  obtain ⟨a, b, p, q, rfl, rfl, ha, hb, k⟩ := h
  cases rx
  cases ry
  obtain ⟨its, r1, p1, _⟩ := I.tuple ha
  obtain ⟨its2, r2, p2, _⟩ := I.tuple hb
  obtain ⟨t1, t2, rfl⟩ := pair_vals r1
  obtain ⟨t3, t4, rfl⟩ := pair_vals r2
  have R := Ob.RcOp.tuples_ge (A := X.A) (s := s) (e := fun j => if j = 0 then (p.1 == q.1) else (p.2 == q.2)) (r := fun j => if j = 0 then decide (q.1 ≤ p.1) else decide (q.2 ≤ p.2)) p1 p2 hu (fun j h1 h2 => by
    match j, h1, h2 with
    | 0, _, _ => exact SeqAt.EqAt.int_int _ _ _ _
    | 1, _, _ => exact SeqAt.EqAt.int_int _ _ _ _) (fun j h1 h2 _ => by
    match j, h1, h2 with
    | 0, _, _ => exact Ob.RcOp.ge_int _ _ _ _
    | 1, _, _ => exact Ob.RcOp.ge_int _ _ _ _)
  have e : geP p q = Ob.lexAt (fun j => if j = 0 then (p.1 == q.1) else (p.2 == q.2)) (fun j => if j = 0 then decide (q.1 ≤ p.1) else decide (q.2 ≤ p.2)) (decide (2 ≥ 2)) 0 2 := by
    rw [Ob.lexAt_succ, Ob.lexAt_succ, Ob.lexAt_zero]
    unfold geP SrtO.lexB
    by_cases e1 : p.1 = q.1
    · rw [if_pos e1, ge_not]
      by_cases e2 : p.2 = q.2
      · have b1 : (p.1 == q.1) = true := beq_iff_eq.mpr e1
        have b2 : (p.2 == q.2) = true := beq_iff_eq.mpr e2
        have z : q.2 ≤ p.2 := by omega
        simp [b1, b2, z]
      · have b1 : (p.1 == q.1) = true := beq_iff_eq.mpr e1
        have b2 : (p.2 == q.2) = false := beq_eq_false_iff_ne.mpr e2
        simp [b1, b2]
    · have b1 : (p.1 == q.1) = false := beq_eq_false_iff_ne.mpr e1
      rw [if_neg e1, ge_not]
      simp [b1]
  rw [e] at k
  have z : wpAny (model X.prog X.w) X.A (compareOp .GtE (.ref a) (.ref b)) (EP X pins σ Q) X.xe s := R X.prog X.w X.xe (EP X pins σ Q) ⟨.bl _, H, I, rfl, k⟩
  exact z
/-- a op b op' c op'' d -/
def tChain3 (r r' r'' : R2) (ta tb tc td : TE) : TE := fun σ H Q => ta σ H fun x H1 => tb σ H1 fun y H2 => r x y H2 fun z H3 => ∃ k, z = .bl k ∧
  (if k = true then tc σ H3 fun w' H4 => r' y w' H4 fun z2 H5 => ∃ k2, z2 = .bl k2 ∧ (if k2 = true then td σ H5 fun w2 H6 => r'' w' w2 H6 Q else Q (.bl false) H5) else Q (.bl false) H3)
theorem pe_chain3 {X : Cx} {a b c d : Expr} {pos : Pos} {ta tb tc td : TE} {op op' op'' : CmpOp} {r r' r'' : R2} (ho : OpR X (compareOp op) r) (ho' : OpR X (compareOp op') r') (ho'' : OpR X (compareOp op'') r'') (ha : PE X a ta) (hb : PE X b tb) (hc : PE X c tc) (hd : PE X d td)
    (hm : lastMarks [op, op', op''] [b, c, d] = false := by with_unfolding_all rfl) : PE X (.Compare a [op, op', op''] [b, c, d] pos) (tChain3 r r' r'' ta tb tc td) := by
  refine ⟨fun pins s σ H Q I h => ?_⟩
  refine Compare_chain (thn (ha.run pins s σ H _ I h) fun v s1 ⟨x, H1, I1, r1, q1⟩ => chain_link (thn (hb.run pins s1 σ H1 _ I1 q1) fun u s2 ⟨y, H2, I2, r2, q2⟩ =>
    thn (ho pins s2 σ H2 x y v u _ I2 r1 r2 q2) fun d s3 ⟨z, H3, I3, r3, k, e, q3⟩ => ?_)) hm
  subst e
  cases r3
  refine wpAny_truthy_bool ?_
  cases k with
  | false => exact ite_ff ⟨.bl false, H3, I3, rfl, q3⟩
  | true =>
    refine ite_tt (chain_link (thn (hc.run pins s3 σ H3 _ I3 q3) fun w' s4 ⟨z', H4, I4, r4, q4⟩ => thn (ho' pins s4 σ H4 y z' u w' _ I4 r2 r4 q4) fun d5 s5 ⟨z5, H5, I5, r5, k5, e5, q5⟩ => ?_))
    subst e5
    cases r5
    refine wpAny_truthy_bool ?_
    cases k5 with
    | false => exact ite_ff ⟨.bl false, H5, I5, rfl, q5⟩
    | true => exact ite_tt (chain_last (thn (hd.run pins s5 σ H5 _ I5 q5) fun w2 s6 ⟨z6, H6, I6, r6, q6⟩ => ho'' pins s6 σ H6 z' z6 w' w2 Q I6 r4 r6 q6))
theorem pt_chain3 {X : Cx} {a b c d : Expr} {pos : Pos} {ta tb tc td : TE} {op op' op'' : CmpOp} {r r' r'' : R2} (ho : OpR X (compareOp op) r) (ho' : OpR X (compareOp op') r') (ho'' : OpR X (compareOp op'') r'') (ha : PE X a ta) (hb : PE X b tb) (hc : PE X c tc) (hd : PE X d td)
    (hm : lastMarks [op, op', op''] [b, c, d] = false := by with_unfolding_all rfl) : PT X (.Compare a [op, op', op''] [b, c, d] pos) (tTest (tChain3 r r' r'' ta tb tc td)) := by
  refine ⟨fun pins s σ H Q I h => ?_⟩
  refine isTrue_chain (thn (ha.run pins s σ H _ I h) fun v s1 ⟨x, H1, I1, r1, q1⟩ => test_link (thn (hb.run pins s1 σ H1 _ I1 q1) fun u s2 ⟨y, H2, I2, r2, q2⟩ =>
    thn (ho pins s2 σ H2 x y v u _ I2 r1 r2 q2) fun d s3 ⟨z, H3, I3, r3, k, e, q3⟩ => ?_)) hm
  subst e
  cases r3
  refine wpAny_truthy_bool ?_
  cases k with
  | false =>
    obtain ⟨k', e', q'⟩ := q3
    cases e'
    exact ite_ff ⟨H3, I3, q'⟩
  | true =>
    refine ite_tt (test_link (thn (hc.run pins s3 σ H3 _ I3 q3) fun w' s4 ⟨z', H4, I4, r4, q4⟩ => thn (ho' pins s4 σ H4 y z' u w' _ I4 r2 r4 q4) fun d5 s5 ⟨z5, H5, I5, r5, k5, e5, q5⟩ => ?_))
    subst e5
    cases r5
    refine wpAny_truthy_bool ?_
    cases k5 with
    | false =>
      obtain ⟨k', e', q'⟩ := q5
      cases e'
      exact ite_ff ⟨H5, I5, q'⟩
    | true =>
      refine ite_tt (test_last (thn (hd.run pins s5 σ H5 _ I5 q5) fun w2 s6 ⟨z6, H6, I6, r6, q6⟩ => thn (ho'' pins s6 σ H6 z' z6 w' w2 _ I6 r4 r6 q6) fun d7 s7 ⟨z7, H7, I7, r7, k7, e7, q7⟩ => ?_))
      subst e7
      cases r7
      exact wpAny_truthy_bool ⟨H7, I7, q7⟩
end L2
namespace L2
open PySem PySem.Spec PyProof.Rows RZ
/-- zip of two tuples, the second not longer than the first -/
theorem for_zipM {K : PySem.W.Frag} {a b : Addr} {xs ys : List V} {g : TG} {tb : TS} {D : Ends} {σ : L2.St} {H : Hp} (hl : ys.length ≤ xs.length) (Pv : Nat → L2.St → Hp → Prop) (h0 : Pv 0 σ H) (hq : ∀ i σ H, Pv i σ H → SqT K H a xs ∧ SqT K H b ys)
    (hs : ∀ (i : Nat) (x y : V) (T : Addr) (σ : L2.St) (H : Hp), xs[i]? = some x → ys[i]? = some y → Pv i σ H → H T = none → g (.ref T) σ (upd H T (.tup [x, y])) fun σ2 H2 => tb { D with nx := Pv (i + 1), ct := Pv (i + 1), bk := D.nx } σ2 H2)
    (hd : ∀ σ H, Pv ys.length σ H → D.nx σ H) :
    ∃ W : Nat → Nat → L2.St → Hp → Prop, (∃ m, W 0 m σ H) ∧ ∀ i m σ H, W i m σ H →
      ((ItzT K a b).stop i H ∧ D.nx σ H) ∨ ((ItzT K a b).go i H ∧ ∃ N : L2.St → Hp → Prop, (∀ σ' H', N σ' H' → ∃ m', m' < m ∧ W (i + 1) m' σ' H') ∧ ∀ v H', (ItzT K a b).yld i H v H' → g v σ H' fun σ2 H2 => tb { D with nx := N, ct := N, bk := D.nx } σ2 H2) := by
  refine ⟨fun i m σ H => m = ys.length - i ∧ i ≤ ys.length ∧ Pv i σ H, ⟨ys.length, rfl, Nat.zero_le _, h0⟩, ?_⟩
  rintro i m σ H ⟨rfl, hi, p⟩
  obtain ⟨qx, qy⟩ := hq i σ H p
  by_cases hlt : i < ys.length
  · have hlx : i < xs.length := by omega
    refine .inr ⟨⟨xs, ys, _, _, qx, qy, List.getElem?_eq_getElem hlx, List.getElem?_eq_getElem hlt⟩, Pv (i + 1), fun σ' H' p' => ⟨ys.length - (i + 1), by omega, rfl, hlt, p'⟩, fun v H' y => ?_⟩
    obtain ⟨T, x', y', rfl, hT, rfl, f1, f2⟩ := y
    exact hs i x' y' T σ H (f1 xs qx) (f2 ys qy) p hT
  · obtain rfl : i = ys.length := by omega
    exact .inl ⟨⟨xs, ys, qx, qy, Or.inr (Nat.le_refl _)⟩, hd σ H p⟩
end L2
namespace L2
open PySem PySem.Spec PyProof.Rows
section
variable {X : Cx} {CX : CXT} {k : Nat} {f C : Addr} {fd : FuncData} {ps : List Str} {sp : Sp} {E : St → XK} {x : Str} {p pos : Pos} {e : Expr} {es : List Expr} {t : TA}
/-- C(..) in a try's body: what it lets out may speak of the slots -/
theorem run_makeS {pins : List (Addr × Obj)} {σ : St} {H : Hp} {s : Shared} {Q : VK} {us : List Value} {vs : List V} (M : Mk X.K C f) (F : FnOk X.prog X.w X.K X.mg X.base CX k f fd ps sp) (hr : Room (k + 1) X.A) (hb : Binds X.K fd ps [])
    (hx : PassesAt CX X σ (E σ)) (I : Inv X pins σ H s) (r : Vals vs us)
    (h : ∀ x dx, H x = none → H dx = none → dx ≠ x → sp (.ref x :: vs) (upd (upd H dx (.own x)) x (.ins C dx [])) (fun v H2 => v = .non ∧ Q (.ref x) H2) (E σ)) :
    wpAny (model X.prog X.w) X.A (call (.ref C) us) (EP X pins σ Q) X.xe s := by
  have hq := h (s.heap.objs.size + 1) s.heap.objs.size (I.hok.fresh (Nat.le_succ _)) (I.hok.fresh (Nat.le_refl _)) (Nat.ne_of_lt (Nat.lt_succ_self _))
  have I2 := Inv.made (C := C) I
  have r2 : Vals (V.ref (s.heap.objs.size + 1) :: vs) (Value.ref (s.heap.objs.size + 1) :: us) := .cons rfl r
  have hl : (Value.ref (s.heap.objs.size + 1) :: us).length = ps.length := by
    have l1 := r2.length
    rw [F.len _ _ _ _ hq] at l1
    exact l1.symm
  have bb := hb _ (Value.ref (s.heap.objs.size + 1) :: us) I2.kIn (by rw [List.append_nil]; exact hl)
  rw [List.append_nil] at bb
  refine wpAny_call (make_map (f := f) I.kIn M.makes M.init (beq_iff_eq.mp M.fn) (codeAny_mono (F.run _ X.stack _ _ ⟨Value.ref (s.heap.objs.size + 1) :: us, []⟩ (Value.ref (s.heap.objs.size + 1) :: us) _ _ (E σ) (hr.make C us []) (I2.env0.make C us []) bb r2 hq) fun r s' hq' => ?_))
  cases r with
  | error e => exact hx pins _ _ e s' I2 hq'
  | ok fl =>
    cases fl with
    | ret u =>
      obtain ⟨v, H', I3, rv, ev, q3⟩ := I2.after hq'
      subst ev
      exact ⟨rv, ⟨V.ref (s.heap.objs.size + 1), H', I3, rfl, q3⟩⟩
    | next => exact False.elim hq'
    | brk => exact False.elim hq'
    | cont => exact False.elim hq'
def tMakeS (C : Addr) (sp : Sp) (E : St → XK) (t : TA) : TE := fun σ H Q => t σ H fun vs H1 => ∀ x dx, H1 x = none → H1 dx = none → dx ≠ x →
  sp (.ref x :: vs) (upd (upd H1 dx (.own x)) x (.ins C dx [])) (fun v H2 => v = .non ∧ Q (.ref x) H2) (E σ)
theorem pe_makeS (M : Mk X.K C f) (F : FnOk X.prog X.w X.K X.mg X.base CX k f fd ps sp) (hr : Room (k + 1) X.A) (hg : Gl X x) (hm : X.mg x = some (.ref C)) (hb : Binds X.K fd ps []) (hx : ∀ σ, PassesAt CX X σ (E σ))
    (ha : PA X (e :: es) t) (hdb : (x == ("__debug__" : Str)) = false := by decide) (he : starEach (e :: es) X.env = (false, eval e X.env) :: starEach es X.env := by rfl) (hpl : (backTo pos (starEach es X.env)).any (·.1) = false := by rfl) :
    PE X (.Call (.Name x p) (e :: es) [] pos) (tMakeS C sp E t) := by
  refine ⟨fun pins s σ H Q I h => ?_⟩
  refine wpAny_Call_Name_kw (ld_glob I hg hm ?_ hdb)
  refine PySem.W.callWith_K (h₀ := X.base) I.ok.mod.kin M.kp (thn (ha.run pos pins s σ H _ I h) fun us s1 ⟨vs, H1, I1, r, q⟩ => ⟨I1.kIn, ?_⟩) he hpl
  exact run_makeS M F hr hb (hx σ) I1 r q
end
end L2
/-! ### sum of a tuple of ints -/
namespace L2
open PySem PySem.Spec PyProof.Rows
def rSumT (K : PySem.W.Frag) : List V → Hp → VK → Prop := fun vs H Q => ∃ (a : Addr) (ns : List Int), vs = [V.ref a] ∧ SqT K H a (ns.map V.int) ∧ Q (.int ns.sum) H
theorem preSum_at (ns : List Int) : ∀ k, k ≤ ns.length → preSum (fun i => (ns[i]?).getD 0) k = (ns.take k).sum
  | 0, _ => by simp [preSum]
  | k + 1, h => by
    rw [preSum, preSum_at ns k (by omega), List.take_add_one, List.getElem?_eq_getElem (by omega : k < ns.length), List.sum_append]
    simp
theorem vals_ints_at : ∀ {ns : List Int} {its : List Value} {i : Nat} {v : Value}, Vals (ns.map V.int) its → its[i]? = some v → ∃ t, v = .int ((ns[i]?).getD 0) t
  | [], _, i, v, .nil, h => by simp at h
  | n :: ns, _, 0, v, .cons r t, h => by
    simp only [List.getElem?_cons_zero, Option.some.injEq] at h
    subst h
    obtain ⟨t, e⟩ := r
    exact ⟨t, e⟩
  | n :: ns, _, i + 1, v, .cons r t, h => by
    simp only [List.getElem?_cons_succ] at h
    simpa using vals_ints_at t h
theorem cr_sumT {X : Cx} (hc : X.calm = true) : CallR X (.builtin "sum") (rSumT X.K) := by
  intro pins s σ H xs us Q I hv h
  obtain ⟨a, ns, rfl, hq, q⟩ := h
  cases hv with
  | cons r t =>
    cases t
    cases r
    obtain ⟨its, rv, p, hz⟩ := I.tuple hq
    have p' : s.heap.IsTuple a its.toArray := p
    obtain ⟨o, ho, p2⟩ := id p'
    have hne : a ≠ s.heap.objs.size := Nat.ne_of_lt (Heap.lt_size ho)
    have hl := rv.length
    rw [List.length_map] at hl
    refine call_sum_walkG (wpAny_pyIter_tuple p' ⟨s.heap.objs.size, [s.heap.objs.size, a], [s.heap.objs.size], _, _, _, fun i => (ns[i]?).getD 0, rfl, Walks.tuple (A := X.A.in1) (I.ok.hd hc) _ a hne its.toArray, ⟨⟨_, Heap.get?_push_size _ rfl, rfl, rfl⟩, ⟨o, Heap.get?_push_of_some _ ho, p2⟩⟩, fun b hb => ?_, fun i v hi => ?_, fun h' tk t' hk => ?_⟩)
    · have h1 := Heap.lt_size ho
      simp only [List.mem_cons, List.not_mem_nil, or_false] at hb
      show b < (s.heap.push _).objs.size
      rw [PyProof.Rows.size_push']
      rcases hb with e | e
      · rw [e]
        exact Nat.lt_succ_self _
      · rw [e]
        exact Nat.lt_succ_of_lt h1
    · refine vals_ints_at rv ?_
      simpa using hi
    · refine ⟨.int (preSum (fun i => (ns[i]?).getD 0) its.toArray.size), H, I.kept (t' := tk) fun b o e => hk b o (fun m => ?_) (Heap.get?_push_of_some _ e), ⟨_, rfl⟩, ?_⟩
      · have h1 := Heap.lt_size e
        rw [List.mem_singleton.mp m] at h1
        exact Nat.lt_irrefl _ h1
      · have e : preSum (fun i => (ns[i]?).getD 0) its.toArray.size = ns.sum := by
          rw [List.size_toArray, ← hl, preSum_at ns _ (Nat.le_refl _), List.take_length]
        rw [e]
        exact q
end L2
/-! ### walks with an invariant on the heap alone: the inner for of a comprehension; zip in a generator expression -/
namespace L2
open PySem PySem.Spec PyProof.Rows
theorem passes_no {X : Cx} : Passes (L2.CX X.prog X.w) X (fun _ _ _ => False) := fun pins σ H s e s' I h => by
  obtain ⟨a, B, H', cls, d, _, _, _, _, _, _, _, h⟩ := h
  exact h.elim
section
variable {K : PySem.W.Frag} {a b : Addr} {xs ys : List V} {H0 : Hp} {B : V → Hp → (Hp → Prop) → Prop} {Nx : Hp → Prop}
theorem w_tup (Pv : Nat → Hp → Prop) (h0 : Pv 0 H0) (hl : ∀ i H, i ≤ xs.length → Pv i H → SqT K H a xs) (hs : ∀ i x H, xs[i]? = some x → Pv i H → B x H (Pv (i + 1))) (hd : ∀ H, Pv xs.length H → Nx H) :
    ∃ W : Nat → Nat → Hp → Prop, (∃ m, W 0 m H0) ∧ ∀ i m H, W i m H → ((Itt K a).stop i H ∧ Nx H) ∨ ((Itt K a).go i H ∧ ∃ N : Hp → Prop, (∀ H', N H' → ∃ m', m' < m ∧ W (i + 1) m' H') ∧ ∀ x H', (Itt K a).yld i H x H' → B x H' N) := by
  refine ⟨fun i m H => m = xs.length - i ∧ i ≤ xs.length ∧ Pv i H, ⟨xs.length, rfl, Nat.zero_le _, h0⟩, ?_⟩
  rintro i m H ⟨rfl, hi, p⟩
  have q := hl i H hi p
  by_cases hlt : i < xs.length
  · refine .inr ⟨⟨xs, _, q, List.getElem?_eq_getElem hlt⟩, Pv (i + 1), fun H' p' => ⟨_, by omega, rfl, hlt, p'⟩, fun x H' y => ?_⟩
    obtain ⟨rfl, y⟩ := y
    exact hs i x _ (y xs q) p
  · have e : i = xs.length := by omega
    subst e
    exact .inl ⟨⟨xs, q, Nat.le_refl _⟩, hd H p⟩
theorem w_list (Pv : Nat → Hp → Prop) (h0 : Pv 0 H0) (hl : ∀ i H, i ≤ xs.length → Pv i H → SqL K H a xs) (hs : ∀ i x H, xs[i]? = some x → Pv i H → B x H (Pv (i + 1))) (hd : ∀ H, Pv xs.length H → Nx H) :
    ∃ W : Nat → Nat → Hp → Prop, (∃ m, W 0 m H0) ∧ ∀ i m H, W i m H → ((Itl K a).stop i H ∧ Nx H) ∨ ((Itl K a).go i H ∧ ∃ N : Hp → Prop, (∀ H', N H' → ∃ m', m' < m ∧ W (i + 1) m' H') ∧ ∀ x H', (Itl K a).yld i H x H' → B x H' N) := by
  refine ⟨fun i m H => m = xs.length - i ∧ i ≤ xs.length ∧ Pv i H, ⟨xs.length, rfl, Nat.zero_le _, h0⟩, ?_⟩
  rintro i m H ⟨rfl, hi, p⟩
  have q := hl i H hi p
  by_cases hlt : i < xs.length
  · refine .inr ⟨⟨xs, _, q, List.getElem?_eq_getElem hlt⟩, Pv (i + 1), fun H' p' => ⟨_, by omega, rfl, hlt, p'⟩, fun x H' y => ?_⟩
    obtain ⟨rfl, y⟩ := y
    exact hs i x _ (y xs q) p
  · have e : i = xs.length := by omega
    subst e
    exact .inl ⟨⟨xs, q, Nat.le_refl _⟩, hd H p⟩
theorem w_range {lo : Int} {n : Nat} (Pv : Nat → Hp → Prop) (h0 : Pv 0 H0) (hs : ∀ i H, i < n → Pv i H → B (.int (lo + i)) H (Pv (i + 1))) (hd : ∀ H, Pv n H → Nx H) :
    ∃ W : Nat → Nat → Hp → Prop, (∃ m, W 0 m H0) ∧ ∀ i m H, W i m H → ((Itr lo n).stop i H ∧ Nx H) ∨ ((Itr lo n).go i H ∧ ∃ N : Hp → Prop, (∀ H', N H' → ∃ m', m' < m ∧ W (i + 1) m' H') ∧ ∀ x H', (Itr lo n).yld i H x H' → B x H' N) := by
  refine ⟨fun i m H => m = n - i ∧ i ≤ n ∧ Pv i H, ⟨n, rfl, Nat.zero_le _, h0⟩, ?_⟩
  rintro i m H ⟨rfl, hi, p⟩
  by_cases hlt : i < n
  · refine .inr ⟨hlt, Pv (i + 1), fun H' p' => ⟨_, by omega, rfl, hlt, p'⟩, fun x H' y => ?_⟩
    obtain ⟨rfl, rfl⟩ := y
    exact hs i _ hlt p
  · have e : i = n := by omega
    subst e
    exact .inl ⟨Nat.le_refl _, hd H p⟩
end
end L2
namespace GXP
open PySem PySem.Spec PyProof.Rows L2 RZ
section
variable {K : PySem.W.Frag} {a b : Addr} {xs ys : List V} {g : TG} {tt : TT} {te : TE} {vs : List Nat} {σ : L2.St} {cy : Cy} {Qe : List V → Hp → Prop} {H0 : Hp}
/-- zip of two tuples of one length -/
theorem gx_zipT (hn : xs.length = ys.length) (Pv : Nat → List V → Hp → Prop) (h0 : Pv 0 [] H0) (hl : ∀ i zs H, Pv i zs H → SqT K H a xs ∧ SqT K H b ys)
    (hs : ∀ i x y T zs H, xs[i]? = some x → ys[i]? = some y → Pv i zs H → H T = none → g (.ref T) (wipe σ vs) (upd H T (.tup [x, y])) fun σ2 H2 => wipe σ2 vs = wipe σ vs ∧ tt σ2 H2 fun b H3 => if b = true then te σ2 H3 fun y H4 => cy zs y H4 (Pv (i + 1)) else Pv (i + 1) zs H3)
    (hd : ∀ zs H, Pv ys.length zs H → Qe zs H) : ∃ W m, W 0 m [] H0 ∧ Turns (ItzT K a b) g tt te vs σ cy Qe W := by
  refine ⟨fun i m zs H => m = ys.length - i ∧ i ≤ ys.length ∧ Pv i zs H, ys.length, ⟨rfl, Nat.zero_le _, h0⟩, ?_⟩
  rintro i m zs H ⟨rfl, hi, p⟩
  obtain ⟨qx, qy⟩ := hl i zs H p
  by_cases hlt : i < ys.length
  · have hlx : i < xs.length := by omega
    refine .inr ⟨⟨xs, ys, _, _, qx, qy, List.getElem?_eq_getElem hlx, List.getElem?_eq_getElem hlt⟩, by omega, Pv (i + 1), fun zs' H' p' => ⟨_, by omega, rfl, hlt, p'⟩, fun v H' y => ?_⟩
    obtain ⟨T, x', y', rfl, hT, rfl, f1, f2⟩ := y
    exact hs i x' y' T zs H (f1 xs qx) (f2 ys qy) p hT
  · have e : i = ys.length := by omega
    subst e
    exact .inl ⟨⟨xs, ys, qx, qy, Or.inr (Nat.le_refl _)⟩, hd zs H p⟩
end
end GXP
/-! ### enumerate of a list or a tuple -/
namespace L2
open PySem PySem.Spec PyProof.Rows
theorem wp_if {α : Type} {M : Model} {A : Around} {E : Value → Shared → Prop} {s : Shared} {c : Bool} {x y : Sem α} {Q : α → Shared → Prop} (h1 : wpAny M A x Q E s) (h2 : wpAny M A y Q E s) : wpAny M A (if c = true then x else y) Q E s := by
  cases c
  · exact h2
  · exact h1
theorem call_enumerate_tup {prog : Program} {w : World} {A : Around} {E : Value → Shared → Prop} {s : Shared} {t : Addr} {items : Array Value} {Q : Value → Shared → Prop} (hI : s.heap.IsTuple t items)
    (hQ : ∀ (h' : Heap) (e : Addr), s.heap.objs.size ≤ e → e ≠ s.heap.objs.size → IsEnum h' e s.heap.objs.size 0 Value.none → h'.IsTupleIter s.heap.objs.size t 0 → (∀ (b : Addr) (o : Obj), s.heap.get? b = some o → h'.get? b = some o) → Q (.ref e) { s with heap := h' }) :
    wpAny (model prog w) A (call (.type "enumerate") [.ref t]) Q E s := by
  refine callType_codes (Q₁ := fun obj s1 => s1.TypeIs obj "enumerate" ∧ Q obj s1) F.called_enumerate (F.typeCall_enumerate_1 _) F.entry_object_init (codeAny_of_tree ?_) fun obj s1 h1 =>
    ⟨h1.1, F.args_object_init_2 obj _, object_init_meets F.called_enumerate.init.lookup F.called_enumerate.made (by decide) prog w A.in1 _ s1 ⟨h1.1, rfl, h1.2⟩⟩
  have pl : plainId "enumerate.__new__" = true := by decide +kernel
  show wpAny _ A.in1.in1 (do checkBuiltinCall "enumerate.__new__" ⟨[.type "enumerate", .ref t], []⟩; again (.builtin "enumerate.__new__" ⟨[.type "enumerate", .ref t], []⟩)) _ _ s
  refine wpAny_bind (wpAny_of_eq (F.newCall_enumerate_1 _) (wpAny_pure ⟨plainId_quiet pl _, codeAny_builtin F.entry_enumerate_new ?_⟩))
  rw [Around.under_plainId pl]
  unfold Builtin.«enumerate.__new__»
  have hsub : isSubtype (Value.type "enumerate") (Value.type "enumerate") = pure true := by rfl
  wp_walk using wpAny_pyIter_tuple hI
  refine wpAny_stack_any fun st => wpAny_pure ?_
  refine wp_if ?_ ?_
  all_goals
    refine wpAny_bind (wpAny_of_eq (show _ = pure (Value.ref t, none) from rfl) ?_)
    wp_walk using wpAny_pyIter_tuple hI
  all_goals
    have o1 : ((s.heap.push { cls := .type "tuple_iterator", data := .fields #[.ref t, .int 0 0] }).push { cls := .type "enumerate", data := .fields #[.none, .bool false, .ref s.heap.objs.size, rawInt 0, .none, .none] }).get? (s.heap.push { cls := .type "tuple_iterator", data := .fields #[.ref t, .int 0 0] }).objs.size = some { cls := .type "enumerate", data := .fields #[.none, .bool false, .ref s.heap.objs.size, rawInt 0, .none, .none] } := Heap.get?_push_size _ rfl
    refine ⟨⟨_, o1, rfl⟩, ?_⟩
    have g2 : ((s.heap.push { cls := .type "tuple_iterator", data := .fields #[.ref t, .int 0 0] }).push { cls := .type "enumerate", data := .fields #[.none, .bool false, .ref s.heap.objs.size, rawInt 0, .none, .none] }).get? s.heap.objs.size = some { cls := .type "tuple_iterator", data := .fields #[.ref t, .int 0 0] } := Heap.get?_push_of_some _ (Heap.get?_push_size _ rfl)
    have hz : (s.heap.push { cls := .type "tuple_iterator", data := .fields #[.ref t, .int 0 0] }).objs.size = s.heap.objs.size + 1 := PyProof.Rows.size_push' _ _
    have hq := hQ _ _ (by rw [hz]; exact Nat.le_succ _) (by rw [hz]; exact Nat.succ_ne_self _) o1 ⟨_, g2, rfl, rfl⟩ fun b o e => Heap.get?_push_of_some _ (Heap.get?_push_of_some _ e)
    exact hq
/-- enumerate of a tuple of n things -/
def IteT (K : PySem.W.Frag) (a : Addr) (n : Nat) : It where
  go := fun i H => ∃ xs x, SqT K H a xs ∧ xs[i]? = some x ∧ xs.length = n
  yld := fun i H v H' => ∃ T x, v = V.ref T ∧ H T = none ∧ H' = upd H T (.tup [V.int (i : Int), x]) ∧ ∀ xs : List V, SqT K H a xs → xs[i]? = some x
  stop := fun i H => ∃ xs, SqT K H a xs ∧ xs.length = n ∧ n ≤ i
theorem vals_get : ∀ {xs : List V} {its : List Value} {i : Nat} {u : Value}, Vals xs its → its[i]? = some u → ∃ x, xs[i]? = some x ∧ RelV x u
  | _, _, i, u, .nil, h => by simp at h
  | _, _, 0, u, .cons r t, h => by
    simp only [List.getElem?_cons_zero, Option.some.injEq] at h
    subst h
    exact ⟨_, rfl, r⟩
  | _, _, i + 1, u, .cons r t, h => by
    simp only [List.getElem?_cons_succ] at h
    obtain ⟨x, h1, h2⟩ := vals_get t h
    exact ⟨x, by simpa using h1, h2⟩
theorem turn_enumT {P : Program} {w : World} {K : PySem.W.Frag} {elts : List Expr} {kk : Nat} {tpos : Pos} {a e it : Addr} {n : Nat} :
    Turn P w K (.Tuple elts kk tpos) (IteT K a n) [e, it] e fun i h => (∃ old, IsEnum h e it (i : Int) old) ∧ h.IsTupleIter it a i ∧ e ≠ it ∧ i ≤ n := by
  have ne_of : ∀ {h : Heap} {i : Nat} {old : Value} {items : Array Value}, IsEnum h e it (i : Int) old → h.IsTupleIter it a i → h.IsTuple a items → e ≠ it → a ≠ it ∧ e ∉ [it, a] := fun he hi ha hne => by
    obtain ⟨o, ho, hc, hd⟩ := hi
    obtain ⟨o2, ho2, hc2, _⟩ := ha
    refine ⟨fun z => ?_, fun m => ?_⟩
    · rw [z, ho] at ho2
      cases ho2
      rw [hc] at hc2
      exact absurd (Value.type.inj hc2) (by decide)
    · simp only [List.mem_cons, List.not_mem_nil, or_false] at m
      rcases m with m | m
      · exact hne m
      · have he2 : _ = some _ := he
        rw [m] at he2
        have he3 := he2.symm.trans ho2
        cases he3
        exact absurd (Value.type.inj hc2) (by decide)
  refine ⟨List.mem_cons_self, fun i h tn b hb => ?_, fun i h h' tn hk => ?_, fun X hP hw hK hcalm i pins s σ H E I hfp tn go => ?_, fun X hP hw hK hcalm i pins s σ H E I hfp tn st => ?_, fun A i s Q E tn q => ?_⟩
  · obtain ⟨⟨old, he⟩, ⟨o, ho, hc, hd⟩, hne, hn⟩ := tn
    simp only [List.mem_cons, List.not_mem_nil, or_false] at hb
    rcases hb with rfl | rfl
    · exact ⟨_, he, fun v z => by cases z⟩
    · exact ⟨o, ho, fun v z => by rw [hd] at z; cases z⟩
  · obtain ⟨⟨old, he⟩, ⟨o, ho, hc, hd⟩, hne, hn⟩ := tn
    exact ⟨⟨old, hk e (by simp) _ he⟩, ⟨o, hk it (by simp) _ ho, hc, hd⟩, hne, hn⟩
  · subst hP
    subst hw
    subst hK
    obtain ⟨xs, x, hq, hx, hlen⟩ := go
    obtain ⟨its, rv, p, hz⟩ := I.tuple hq
    have p' : s.heap.IsTuple a its.toArray := p
    obtain ⟨⟨old, he⟩, hi, hne, hn⟩ := tn
    obtain ⟨h1, h2⟩ := ne_of he hi p' hne
    have W := WalksT.enumerateD (prog := X.prog) (w := X.w) (A := X.A) (Draws.tuple (A := X.A.in1) (I.ok.hd hcalm) it a h1 its.toArray) e hne h2 (by simp)
    have hl := rv.length
    have hlt := (List.getElem?_eq_some_iff.mp hx).1
    refine W.item i s _ E (by rw [List.size_toArray]; omega) ⟨⟨old, he⟩, hi, p'⟩ (fun T vals h' tk hv hT hTup hmid hk => ⟨_, rfl, ?_⟩)
    obtain ⟨t, x', hx', rfl⟩ := hv
    have hTw := W.apart _ _ _ hmid
    refine W.go elts kk tpos i T { s with heap := h', toks := tk } _ E hmid (fun h2 hst hk2 => ?_)
    obtain ⟨⟨old2, he2⟩, hi2, _⟩ := hst
    obtain ⟨x2, hx2, hr⟩ := vals_get rv (by simpa using hx')
    have ex : x2 = x := Option.some.inj (hx2.symm.trans hx)
    subst ex
    obtain ⟨oT, hoT, hcT, nT, hdT⟩ := hTup
    have hn0 : ∀ b ∈ [e, it], b ≠ T := fun b hb z => by
      refine absurd hT (Nat.not_le_of_lt ?_)
      rw [← z]
      simp only [List.mem_cons, List.not_mem_nil, or_false] at hb
      rcases hb with rfl | rfl
      · exact Heap.lt_size he
      · obtain ⟨o, ho, _⟩ := hi
        exact Heap.lt_size ho
    refine ⟨.ref T, upd H T (.tup [V.int (i : Int), x2]), I.turnedNew (ch := [e, it]) (fun b o hb eo => hk2 b o hb (hk b o hb eo)) hfp hT
      (show ObjOk X.prog X.w _ _ _ (.tup [V.int (i : Int), x2]) from ⟨by rw [sizeLine_eq]; simp, [.int (i : Int) t, x'], .cons ⟨t, rfl⟩ (.cons hr .nil), oT, hk2 _ _ hTw hoT, hcT, nT, hdT⟩), rfl, ⟨T, x2, rfl, I.hok.fresh hT, rfl, fun ys hys => by rw [I.tuple_inj hys hq]; exact hx⟩, ⟨⟨old2, he2⟩, hi2, hne, by omega⟩, fun b hb => ?_⟩
    rw [upd_ne (hn0 b hb)]
    exact (hfp b hb).1
  · subst hP
    subst hw
    subst hK
    obtain ⟨xs, hq, hlen, hle⟩ := st
    obtain ⟨its, rv, p, hz⟩ := I.tuple hq
    have p' : s.heap.IsTuple a its.toArray := p
    obtain ⟨⟨old, he⟩, hi, hne, hn⟩ := tn
    obtain ⟨h1, h2⟩ := ne_of he hi p' hne
    have W := WalksT.enumerateD (prog := X.prog) (w := X.w) (A := X.A) (Draws.tuple (A := X.A.in1) (I.ok.hd hcalm) it a h1 its.toArray) e hne h2 (by simp)
    have hl := rv.length
    have ei : i = its.toArray.size := by rw [List.size_toArray]; omega
    refine W.done s _ E ⟨⟨old, by rw [← ei]; exact he⟩, by rw [← ei]; exact hi, p'⟩ (fun h' tk hk => ⟨rfl, I.turnedL (ch := [e, it]) hk hfp⟩)
  · obtain ⟨⟨old, he⟩, _⟩ := tn
    exact wpAny_pyIter_enum he q
/-- enumerate(l), l a tuple -/
def iEnumT (K : PySem.W.Frag) (ta : TA) : TI := fun σ H R => ta σ H fun vs H1 => ∃ a xs, vs = [.ref a] ∧ SqT K H1 a xs ∧ R (IteT K a xs.length) H1
theorem pi_enumT {X : Cx} {e : Expr} {ta : TA} {p pos tpos : Pos} {elts : List Expr} {kk : Nat} (hcalm : X.calm = true) (hg : Gl X "enumerate") (hm : X.mg "enumerate" = none) (ha : PA X [e] ta)
    (he : starEach [e] X.env = (false, eval e X.env) :: starEach [] X.env := by rfl) : PI X (.Tuple elts kk tpos) (.Call (.Name "enumerate" p) [e] [] pos) (iEnumT X.K ta) := by
  refine ⟨fun pins s σ H R I h => ?_⟩
  refine wpAny_Call_Name_kw (ld_blt I hg hm (by decide +kernel : bootBuiltins "enumerate" = some (.type "enumerate")) (PyProof.Rows.callWith_type1 (thn (ha.run pos pins s σ H _ I h) fun us s1 ⟨vs, H1, I1, r, a, xs, ev, hq, q⟩ => ?_) he (by rfl)))
  subst ev
  cases r with
  | cons r t =>
    cases t
    cases r
    obtain ⟨its, rv, p', hz⟩ := I1.tuple hq
    refine call_enumerate_tup (show s1.heap.IsTuple a its.toArray from p') fun h' e1 hle hne hE hT hk => ?_
    have I2 : Inv X pins σ H1 { s1 with heap := h' } := I1.kept (t' := s1.toks) hk
    refine wpAny_pyIter_enum hE ⟨e1, [e1, s1.heap.objs.size], _, _, H1, rfl, I2, turn_enumT, ⟨⟨_, hE⟩, hT, hne, Nat.zero_le _⟩, fun b hb => ?_, q⟩
    simp only [List.mem_cons, List.not_mem_nil, or_false] at hb
    rcases hb with rfl | rfl
    · exact I1.fpOk hle (I1.hok.fresh hle)
    · exact I1.fpOk (Nat.le_refl _) (I1.hok.fresh (Nat.le_refl _))
/-- a walk that counts the things of a list or a tuple that stood in H0 -/
structure EnumW (J : It) (H0 : Hp) (xs : List V) : Prop where
  go : ∀ i H, EXT.Ext H0 H → i < xs.length → J.go i H
  stop : ∀ H, EXT.Ext H0 H → J.stop xs.length H
  yld : ∀ i H v H', EXT.Ext H0 H → J.yld i H v H' → ∃ T x, v = V.ref T ∧ H T = none ∧ H' = upd H T (.tup [V.int (i : Int), x]) ∧ xs[i]? = some x
theorem enumW_list {K : PySem.W.Frag} {H0 : Hp} {a : Addr} {xs : List V} (h : SqL K H0 a xs) : EnumW (Ite K a) H0 xs :=
  ⟨fun i H s hi => ⟨xs, _, s.seq h, List.getElem?_eq_getElem hi⟩, fun H s => ⟨xs, s.seq h, Nat.le_refl _⟩, fun i H v H' s ⟨T, x, e1, e2, e3, e4⟩ => ⟨T, x, e1, e2, e3, e4 xs (s.seq h)⟩⟩
theorem enumW_tup {K : PySem.W.Frag} {H0 : Hp} {a : Addr} {xs : List V} (h : SqT K H0 a xs) : EnumW (IteT K a xs.length) H0 xs :=
  ⟨fun i H s hi => ⟨xs, _, s.tup h, List.getElem?_eq_getElem hi, rfl⟩, fun H s => ⟨xs, s.tup h, rfl, Nat.le_refl _⟩, fun i H v H' s ⟨T, x, e1, e2, e3, e4⟩ => ⟨T, x, e1, e2, e3, e4 xs (s.tup h)⟩⟩
/-- enumerate(l), l a list or a tuple -/
def iEnumS (K : PySem.W.Frag) (ta : TA) : TI := fun σ H R => ta σ H fun vs H1 => ∃ a xs H0, vs = [.ref a] ∧ EXT.Ext H0 H1 ∧ (SqL K H0 a xs ∨ SqT K H0 a xs) ∧ ∀ J, EnumW J H0 xs → R J H1
theorem pi_enumS {X : Cx} {e : Expr} {ta : TA} {p pos tpos : Pos} {elts : List Expr} {kk : Nat} (hcalm : X.calm = true) (hg : Gl X "enumerate") (hm : X.mg "enumerate" = none) (ha : PA X [e] ta)
    (he : starEach [e] X.env = (false, eval e X.env) :: starEach [] X.env := by rfl) : PI X (.Tuple elts kk tpos) (.Call (.Name "enumerate" p) [e] [] pos) (iEnumS X.K ta) := by
  refine ⟨fun pins s σ H R I h => ?_⟩
  refine wpAny_Call_Name_kw (ld_blt I hg hm (by decide +kernel : bootBuiltins "enumerate" = some (.type "enumerate")) (PyProof.Rows.callWith_type1 (thn (ha.run pos pins s σ H _ I h) fun us s1 ⟨vs, H1, I1, r, a, xs, H0, ev, hE0, hq, q⟩ => ?_) he (by rfl)))
  subst ev
  cases r with
  | cons r t =>
    cases t
    cases r
    rcases hq with hq | hq
    · obtain ⟨its, rv, p', hz⟩ := I1.list (hE0.seq hq)
      refine call_enumerate_list p'.isList fun h' hE hT hsz hk => ?_
      have I2 : Inv X pins σ H1 { s1 with heap := h' } := I1.kept (t' := s1.toks) hk
      have hle : s1.heap.objs.size ≤ s1.heap.objs.size + 1 := Nat.le_succ _
      refine wpAny_pyIter_enum hE ⟨s1.heap.objs.size + 1, [s1.heap.objs.size + 1, s1.heap.objs.size], _, _, H1, rfl, I2, turn_enum a _ _, ⟨⟨_, hE⟩, hT, Nat.succ_ne_self _⟩, fun b hb => ?_, q _ (enumW_list hq)⟩
      simp only [List.mem_cons, List.not_mem_nil, or_false] at hb
      rcases hb with rfl | rfl
      · exact I1.fpOk hle (I1.hok.fresh hle)
      · exact I1.fpOk (Nat.le_refl _) (I1.hok.fresh (Nat.le_refl _))
    · obtain ⟨its, rv, p', hz⟩ := I1.tuple (hE0.tup hq)
      refine call_enumerate_tup (show s1.heap.IsTuple a its.toArray from p') fun h' e1 hle hne hE hT hk => ?_
      have I2 : Inv X pins σ H1 { s1 with heap := h' } := I1.kept (t' := s1.toks) hk
      refine wpAny_pyIter_enum hE ⟨e1, [e1, s1.heap.objs.size], _, _, H1, rfl, I2, turn_enumT, ⟨⟨_, hE⟩, hT, hne, Nat.zero_le _⟩, fun b hb => ?_, q _ (enumW_tup hq)⟩
      simp only [List.mem_cons, List.not_mem_nil, or_false] at hb
      rcases hb with rfl | rfl
      · exact I1.fpOk hle (I1.hok.fresh hle)
      · exact I1.fpOk (Nat.le_refl _) (I1.hok.fresh (Nat.le_refl _))
section
variable {J : It} {H0 : Hp} {xs : List V}
theorem w_enum {B : V → Hp → (Hp → Prop) → Prop} {Nx : Hp → Prop} {H1 : Hp} (w : EnumW J H0 xs) (Pv : Nat → Hp → Prop) (h0 : Pv 0 H1) (hl : ∀ i H, i ≤ xs.length → Pv i H → EXT.Ext H0 H)
    (hs : ∀ i x T H, xs[i]? = some x → Pv i H → H T = none → B (.ref T) (upd H T (.tup [V.int (i : Int), x])) (Pv (i + 1))) (hd : ∀ H, Pv xs.length H → Nx H) :
    ∃ W : Nat → Nat → Hp → Prop, (∃ m, W 0 m H1) ∧ ∀ i m H, W i m H → (J.stop i H ∧ Nx H) ∨ (J.go i H ∧ ∃ N : Hp → Prop, (∀ H', N H' → ∃ m', m' < m ∧ W (i + 1) m' H') ∧ ∀ x H', J.yld i H x H' → B x H' N) := by
  refine ⟨fun i m H => m = xs.length - i ∧ i ≤ xs.length ∧ Pv i H, ⟨xs.length, rfl, Nat.zero_le _, h0⟩, ?_⟩
  rintro i m H ⟨rfl, hi, p⟩
  have s := hl i H hi p
  by_cases hlt : i < xs.length
  · refine .inr ⟨w.go i H s hlt, Pv (i + 1), fun H' p' => ⟨_, by omega, rfl, hlt, p'⟩, fun v H' y => ?_⟩
    obtain ⟨T, x, rfl, hT, rfl, hx⟩ := w.yld i H v H' s y
    exact hs i x T H hx p hT
  · have e : i = xs.length := by omega
    subst e
    exact .inl ⟨w.stop H s, hd H p⟩
theorem for_enum {g : TG} {tb : TS} {D : Ends} {σ0 : St} {H1 : Hp} (w : EnumW J H0 xs) (Pv : Nat → St → Hp → Prop) (h0 : Pv 0 σ0 H1) (hl : ∀ i σ H, i ≤ xs.length → Pv i σ H → EXT.Ext H0 H)
    (hs : ∀ i x T σ H, xs[i]? = some x → Pv i σ H → H T = none → g (.ref T) σ (upd H T (.tup [V.int (i : Int), x])) fun σ2 H2 => tb { D with nx := Pv (i + 1), ct := Pv (i + 1), bk := D.nx } σ2 H2) (hd : ∀ σ H, Pv xs.length σ H → D.nx σ H) :
    ∃ W : Nat → Nat → St → Hp → Prop, (∃ m, W 0 m σ0 H1) ∧ ∀ i m σ H, W i m σ H →
      (J.stop i H ∧ D.nx σ H) ∨ (J.go i H ∧ ∃ N : St → Hp → Prop, (∀ σ' H', N σ' H' → ∃ m', m' < m ∧ W (i + 1) m' σ' H') ∧ ∀ x H', J.yld i H x H' → g x σ H' fun σ2 H2 => tb { D with nx := N, ct := N, bk := D.nx } σ2 H2) := by
  refine ⟨fun i m σ H => m = xs.length - i ∧ i ≤ xs.length ∧ Pv i σ H, ⟨xs.length, rfl, Nat.zero_le _, h0⟩, ?_⟩
  rintro i m σ H ⟨rfl, hi, p⟩
  have s := hl i σ H hi p
  by_cases hlt : i < xs.length
  · refine .inr ⟨w.go i H s hlt, Pv (i + 1), fun σ' H' p' => ⟨_, by omega, rfl, hlt, p'⟩, fun v H' y => ?_⟩
    obtain ⟨T, x, rfl, hT, rfl, hx⟩ := w.yld i H v H' s y
    exact hs i x T σ H hx p hT
  · have e : i = xs.length := by omega
    subst e
    exact .inl ⟨w.stop H s, hd σ H p⟩
end
/-- a walk over a list or a tuple that stood in H0 -/
structure SeqW (J : It) (H0 : Hp) (xs : List V) : Prop where
  go : ∀ i H, EXT.Ext H0 H → i < xs.length → J.go i H
  stop : ∀ H, EXT.Ext H0 H → J.stop xs.length H
  yld : ∀ i H v H', EXT.Ext H0 H → J.yld i H v H' → H' = H ∧ xs[i]? = some v
theorem seqW_list {K : PySem.W.Frag} {H : Hp} {a : Addr} {xs : List V} (h : SqL K H a xs) : SeqW (Itl K a) H xs := ⟨fun i H s hi => ⟨xs, _, s.seq h, List.getElem?_eq_getElem hi⟩, fun H s => ⟨xs, s.seq h, Nat.le_refl _⟩, fun i H v H' s y => ⟨y.1, y.2 xs (s.seq h)⟩⟩
theorem seqW_tup {K : PySem.W.Frag} {H : Hp} {a : Addr} {xs : List V} (h : SqT K H a xs) : SeqW (Itt K a) H xs := ⟨fun i H s hi => ⟨xs, _, s.tup h, List.getElem?_eq_getElem hi⟩, fun H s => ⟨xs, s.tup h, Nat.le_refl _⟩, fun i H v H' s y => ⟨y.1, y.2 xs (s.tup h)⟩⟩
/-- a list or a tuple, walked alike -/
def iSeqW (K : PySem.W.Frag) (tl : TE) : TI := fun σ H R => tl σ H fun x H1 => ∃ a xs H0, x = .ref a ∧ EXT.Ext H0 H1 ∧ (SqL K H0 a xs ∨ SqT K H0 a xs) ∧ ∀ J, SeqW J H0 xs → R J H1
theorem pi_seqW {X : Cx} {tg l : Expr} {tl : TE} (hl : PE X l tl) : PI X tg l (iSeqW X.K tl) := by
  refine ⟨fun pins s σ H R I h => ?_⟩
  refine thn (hl.run pins s σ H _ I h) fun v s1 ⟨x, H1, I1, r1, a, xs, H0, e, hE0, hq, q⟩ => ?_
  subst e
  cases r1
  rcases hq with hq | hq
  · obtain ⟨its, rv, p, hz⟩ := I1.list (hE0.seq hq)
    refine wpAny_pyIter_list p.isList ⟨s1.heap.objs.size, [s1.heap.objs.size], _, _, H1, rfl, I1.kept (t' := s1.toks) fun b o e => Heap.get?_push_of_some _ e, turn_list a _, ⟨_, Heap.get?_push_size _ rfl, rfl, rfl⟩, fun b hb => ?_, q _ (seqW_list hq)⟩
    obtain rfl : b = s1.heap.objs.size := by simpa using hb
    exact I1.fpOk (Nat.le_refl _) (I1.hok.fresh (Nat.le_refl _))
  · obtain ⟨its, rv, p, hz⟩ := I1.tuple (hE0.tup hq)
    refine wpAny_pyIter_tuple (show s1.heap.IsTuple a its.toArray from p) ⟨s1.heap.objs.size, [s1.heap.objs.size], _, _, H1, rfl, I1.kept (t' := s1.toks) fun b o e => Heap.get?_push_of_some _ e, turn_tuple a _, ⟨_, Heap.get?_push_size _ rfl, rfl, rfl⟩, fun b hb => ?_, q _ (seqW_tup hq)⟩
    obtain rfl : b = s1.heap.objs.size := by simpa using hb
    exact I1.fpOk (Nat.le_refl _) (I1.hok.fresh (Nat.le_refl _))
theorem w_seq {J : It} {H0 : Hp} {xs : List V} {B : V → Hp → (Hp → Prop) → Prop} {Nx : Hp → Prop} {H1 : Hp} (w : SeqW J H0 xs) (Pv : Nat → Hp → Prop) (h0 : Pv 0 H1) (hl : ∀ i H, i ≤ xs.length → Pv i H → EXT.Ext H0 H)
    (hs : ∀ i x H, xs[i]? = some x → Pv i H → B x H (Pv (i + 1))) (hd : ∀ H, Pv xs.length H → Nx H) :
    ∃ W : Nat → Nat → Hp → Prop, (∃ m, W 0 m H1) ∧ ∀ i m H, W i m H → (J.stop i H ∧ Nx H) ∨ (J.go i H ∧ ∃ N : Hp → Prop, (∀ H', N H' → ∃ m', m' < m ∧ W (i + 1) m' H') ∧ ∀ x H', J.yld i H x H' → B x H' N) := by
  refine ⟨fun i m H => m = xs.length - i ∧ i ≤ xs.length ∧ Pv i H, ⟨xs.length, rfl, Nat.zero_le _, h0⟩, ?_⟩
  rintro i m H ⟨rfl, hi, p⟩
  have s := hl i H hi p
  by_cases hlt : i < xs.length
  · refine .inr ⟨w.go i H s hlt, Pv (i + 1), fun H' p' => ⟨_, by omega, rfl, hlt, p'⟩, fun v H' y => ?_⟩
    obtain ⟨rfl, hx⟩ := w.yld i H v H' s y
    exact hs i v _ hx p
  · have e : i = xs.length := by omega
    subst e
    exact .inl ⟨w.stop H s, hd H p⟩
end L2
/-! ### o[i] of a list, by values; sorted of a tuple of ints -/
namespace AUG
open PySem PySem.Spec PyProof.Rows L2
section
variable {X : Cx}
def rGetL (K : PySem.W.Frag) : V → V → Hp → VK → Prop := fun x y H Q => ∃ p xs i v, x = .ref p ∧ y = .int i ∧ 0 ≤ i ∧ SqL K H p xs ∧ xs[i.toNat]? = some v ∧ Q v H
theorem get_list : PGet X (rGetL X.K) := by
  intro pins s σ H x y v u Q I rx ry h
  obtain ⟨p, xs, i, z, rfl, rfl, h0, hq, he, q⟩ := h
  cases rx
  obtain ⟨t, rfl⟩ := ry
  obtain ⟨its, r, pl, hz⟩ := I.list hq
  obtain ⟨w, ew, rw'⟩ := r.get he
  have hl := r.length
  have hn := line63
  have hlt := (List.getElem?_eq_some_iff.mp he).1
  exact wpAny_getItem_list pl.isList h0 (by omega) (by simpa using ew) ⟨z, H, I, rw', q⟩
theorem sorted_tup {prog : Program} {w : World} {A : Around} {E : Value → Shared → Prop} {s : Shared} {t : Addr} {vs : List Value} {ns : List Int} {Q : Value → Shared → Prop} (ht : IsTup s.heap t vs.toArray) (hI : IntsAre vs ns) (h64 : vs.length < 64)
    (h : ∀ (h1 h' : Heap) (e : Nat) (out : Array Value) (ns' : List Int), (∀ b o, s.heap.get? b = some o → h1.get? b = some o) → (∀ b o, h1.get? b = some o → h'.get? b = some o) → h'.get? h1.objs.size = some (seqObj "list" out e) → IntsAre out.toList ns' → ns'.Perm ns → ns'.Pairwise (· ≤ ·) → Q (.ref h1.objs.size) { s with heap := h' }) :
    wpAny (model prog w) A (call (.builtin "sorted") [.ref t]) Q E s := by
  obtain ⟨o, ho, hc, n, hd⟩ := ht
  have hz : vs.length ≤ sizeLine := by rw [sizeLine_eq]; omega
  refine Calls.call_function_entry kind_sorted plain_sorted entry_sorted (args_sorted1 _) ?_
  unfold Builtin.«sorted»
  refine wpAny_bind (m := checkCount "sorted" 1 1 _) (wpAny_pure ?_)
  refine wpAny_bind (wpAny_collect_seq (T := "tuple") t (.inr rfl) ho hc hd (fun h1 k1 => ?_) (by simpa using hz))
  show wpAny _ _ _ _ _ _
  have e0 : vs.toArray.toList = vs := rfl
  rw [e0]
  refine wpAny_bind (wpAny_newList (s := { s with heap := h1 }) ?_ hz)
  have hoL : (h1.push (seqObj "list" vs.toArray 0)).get? h1.objs.size = some (seqObj "list" vs.toArray 0) := Heap.get?_push_size _ rfl
  show wpAny _ _ _ _ _ { s with heap := h1.push (seqObj "list" vs.toArray 0) }
  refine wpAny_bind (wpAny_holding (wpAny_call_entry slot_list_sort ⟨_, hoL, rfl⟩ entry_list_sort (list_sort_tree (s := { s with heap := h1.push (seqObj "list" vs.toArray 0) }) hoL hI h64 fun out ns' a1 a2 a3 => ⟨_, rfl, ?_⟩) (args_list_sort _)))
  obtain ⟨e, he⟩ := sortedHeap_at (out := out) hoL
  refine wpAny_pure ⟨_, rfl, h h1 _ e out ns' k1 (fun b o hb1 => ?_) he a1 a2 a3⟩
  have hlt := Heap.lt_size hb1
  rw [sortedHeap_old (Nat.ne_of_lt hlt) (by rw [size_push']; exact Nat.lt_succ_of_lt hlt)]
  exact Heap.get?_push_of_some _ hb1
/-- sorted(t), ints -/
def rSortedTu (K : PySem.W.Frag) : List V → Hp → VK → Prop := fun vs H Q => ∃ (a : Addr) (ns : List Int), vs = [V.ref a] ∧ SqT K H a (ns.map V.int) ∧ ns.length < 64 ∧
  ∀ (ns' : List Int) (p : Addr), ns'.Perm ns → ns'.Pairwise (· ≤ ·) → H p = none → Q (.ref p) (upd H p (.lst (ns'.map V.int)))
theorem cr_sortedTu : CallR X (.builtin "sorted") (rSortedTu X.K) := by
  intro pins s σ H vs us Q I r h
  obtain ⟨a, ns, rfl, hs, h64, q⟩ := h
  obtain ⟨its, rv, ht, _⟩ := I.tuple hs
  rw [Vals.ref1 r]
  have hi := rv.ints
  refine sorted_tup ht hi (by rw [hi.length]; exact h64) fun g h' e out ns' k1 kp he h1 h2 h3 => ?_
  have hlen : (ns'.map V.int).length ≤ sizeLine := by rw [List.length_map, h2.length_eq]; exact small64 h64
  have I1 : Inv X pins σ H { s with heap := g } := I.kept (t' := s.toks) k1
  exact ⟨.ref _, upd H g.objs.size (.lst (ns'.map V.int)), I1.laid (t' := s.toks) kp (Nat.le_refl _) ⟨hlen, out.toList, e, vals_of_ints h1, he⟩, rfl, q ns' _ h2 h3 (I1.hok.fresh (Nat.le_refl _))⟩
/-- an int's truth -/
theorem tru_int : TruR X (fun x H Q => ∃ i : Int, x = .int i ∧ Q (i != 0) H) := by
  intro pins s σ H x v Q I rx h
  obtain ⟨i, rfl, q⟩ := h
  exact tru_ok pins s σ H (.int i) v Q I rx ⟨_, rfl, q⟩
def tTruI (ta : TE) : TT := fun σ H Q => ta σ H fun x H' => ∃ i : Int, x = .int i ∧ Q (i != 0) H'
theorem pt_truthI {a : Expr} {ta : TE} (ha : PE X a ta) (he : ∀ whole, isTrue a X.env whole = (do let v ← whole; standAt a.pos; holding [v] (truthy v))) : PT X a (tTruI ta) :=
  ⟨fun pins s σ H Q I h => isTrue_plain (thn (ha.run pins s σ H _ I h) fun v s1 ⟨x, H1, I1, r1, q1⟩ => tru_int pins s1 σ H1 x v Q I1 r1 q1) (he _)⟩
end
end AUG
/-! ### a tuple times a number from 0 on; enumerate in a generator expression -/
namespace L2
open PySem PySem.Spec PyProof.Rows
theorem tuple_mul1 (l : Addr) (items : Array Value) (n : Nat) (dd : Option Addr) (sl : Array (Option Value)) (u : Tok) :
    Meets (Builtin.«tuple.__mul__» ⟨[.ref l, .int 1 u], []⟩) (fun _ R s => s.heap.get? l = some { cls := .type "tuple", dict := dd, data := .seq items n, slots := sl } ∧ R (.ok (.ret (Value.ref l))) s) :=
  .of_wp fun prog w A R s h => by
    obtain ⟨hp, g, d, tk, os⟩ := s
    obtain ⟨hl, h⟩ := h
    have f1 := AutoSeq1.idx_int
    wp_walk using wpAny_loadPart' hl
    exact ⟨_, rfl, h⟩
theorem tuple_mul0 (l : Addr) (items : Array Value) (n : Nat) (dd : Option Addr) (sl : Array (Option Value)) (u : Tok) (hne : items.isEmpty = false) :
    Meets (Builtin.«tuple.__mul__» ⟨[.ref l, .int 0 u], []⟩) (fun _ R s => s.heap.get? l = some { cls := .type "tuple", dict := dd, data := .seq items n, slots := sl } ∧
      R (.ok (.ret (Value.ref s.heap.objs.size))) { s with heap := s.heap.push { cls := Value.type "tuple", data := Data.seq #[] }, toks := s.toks }) :=
  .of_wp fun prog w A R s h => by
    obtain ⟨hp, g, d, tk, os⟩ := s
    obtain ⟨hl, h⟩ := h
    have f1 := AutoSeq1.idx_int
    wp_walk using wpAny_loadPart' hl
    exact ⟨_, rfl, h⟩
/-- t * k, t a tuple that is not (): t itself for 1 -/
def rRepA (K : PySem.W.Frag) : R2 := fun x y H Q => ∃ l k xs, x = .ref l ∧ y = .int k ∧ SqT K H l xs ∧ xs ≠ [] ∧ 0 ≤ k ∧ k ≤ 1000 ∧ xs.length ≤ 1000 ∧ (k = 1 → Q (.ref l) H) ∧ (k ≠ 1 → ∀ p, H p = none → Q (.ref p) (upd H p (.tup (List.replicate k.toNat xs).flatten)))
theorem op_repA {X : Cx} : OpR X (binaryOp .Mult) (rRepA X.K) := by
  intro pins s σ H x y v u Q I rx ry h
  obtain ⟨l, k, xs, rfl, rfl, hT, hne, h0, h2, hz, q1, q2⟩ := h
  by_cases k2 : 2 ≤ k
  · exact op_repT pins s σ H _ _ v u Q I rx ry ⟨l, k, xs, rfl, rfl, hT, hne, k2, h2, hz, q2 (by omega)⟩
  cases rx
  obtain ⟨t, rfl⟩ := ry
  obtain ⟨its, r, ⟨⟨cls, dd, data, sl⟩, ho, hc, n, hd⟩, hs⟩ := I.tuple hT
  simp only at hc hd
  subst hc hd
  have hle : its.length = xs.length := r.length.symm
  have hn : its ≠ [] := fun e => hne (by
    rw [e] at hle
    exact List.eq_nil_of_length_eq_zero hle.symm)
  have hi : its.toArray.isEmpty = false := by
    cases its with
    | nil => exact absurd rfl hn
    | cons a b => rfl
  by_cases k1 : k = 1
  · subst k1
    exact wpAny_binaryOp_repeat_ref (T := "tuple") (U := "int") (by decide) ⟨_, ho, rfl⟩ (fun s' => typeIs_int s' 1 t) noFill_tuple_mul F.fills_int_mul F.slot_int_rmul repeat_tuple F.slot_int_index.lookup
      (call_meets F.slot_int_rmul (typeIs_int s 1 t) F.entry_int_rmul (F.args_int_rmul_2 _ _) (int_rmul_tuple 1 t l its.toArray n dd sl)
        ⟨ho, rfl, ⟨_, ho, rfl⟩, call_meets F.slot_tuple_mul ⟨_, ho, rfl⟩ F.entry_tuple_mul (F.args_tuple_mul_2 _ _) (tuple_mul1 l its.toArray n dd sl t) ⟨ho, ⟨.ref l, H, I, rfl, q1 rfl⟩⟩⟩)
  · obtain rfl : k = 0 := by omega
    refine wpAny_binaryOp_repeat_ref (T := "tuple") (U := "int") (by decide) ⟨_, ho, rfl⟩ (fun s' => typeIs_int s' 0 t) noFill_tuple_mul F.fills_int_mul F.slot_int_rmul repeat_tuple F.slot_int_index.lookup
      (call_meets F.slot_int_rmul (typeIs_int s 0 t) F.entry_int_rmul (F.args_int_rmul_2 _ _) (int_rmul_tuple 0 t l its.toArray n dd sl)
        ⟨ho, rfl, ⟨_, ho, rfl⟩, call_meets F.slot_tuple_mul ⟨_, ho, rfl⟩ F.entry_tuple_mul (F.args_tuple_mul_2 _ _) (tuple_mul0 l its.toArray n dd sl t hi) ⟨ho, ?_⟩⟩)
    refine ⟨.ref s.heap.objs.size, _, I.laid (t' := s.toks) (o := .tup []) (fun b ob q => Heap.get?_push_of_some _ q) (Nat.le_refl _) ?_, rfl, q2 (by decide) _ (I.hok.fresh (Nat.le_refl _))⟩
    exact ⟨Nat.zero_le _, [], .nil, IsTup.new _ _⟩
end L2
namespace GXP
open PySem PySem.Spec PyProof.Rows L2
section
variable {J : It} {H0 : Hp} {xs : List V} {g : TG} {tt : TT} {te : TE} {vs : List Nat} {σ : L2.St} {cy : Cy} {Qe : List V → Hp → Prop} {H1 : Hp}
theorem gx_enum (w : EnumW J H0 xs) (Pv : Nat → List V → Hp → Prop) (h0 : Pv 0 [] H1) (hl : ∀ i ys H, i ≤ xs.length → Pv i ys H → EXT.Ext H0 H)
    (hs : ∀ i x T ys H, xs[i]? = some x → Pv i ys H → H T = none → g (.ref T) (wipe σ vs) (upd H T (.tup [V.int (i : Int), x])) fun σ2 H2 => wipe σ2 vs = wipe σ vs ∧ tt σ2 H2 fun b H3 => if b = true then te σ2 H3 fun y H4 => cy ys y H4 (Pv (i + 1)) else Pv (i + 1) ys H3)
    (hd : ∀ ys H, Pv xs.length ys H → Qe ys H) : ∃ W m, W 0 m [] H1 ∧ Turns J g tt te vs σ cy Qe W := by
  refine ⟨fun i m ys H => m = xs.length - i ∧ i ≤ xs.length ∧ Pv i ys H, xs.length, ⟨rfl, Nat.zero_le _, h0⟩, ?_⟩
  rintro i m ys H ⟨rfl, hi, p⟩
  have s := hl i ys H hi p
  by_cases hlt : i < xs.length
  · refine .inr ⟨w.go i H s hlt, by omega, Pv (i + 1), fun ys' H' p' => ⟨_, by omega, rfl, hlt, p'⟩, fun v H' y => ?_⟩
    obtain ⟨T, x, rfl, hT, rfl, hx⟩ := w.yld i H v H' s y
    exact hs i x T ys H hx p hT
  · have e : i = xs.length := by omega
    subst e
    exact .inl ⟨w.stop H s, hd ys H p⟩
end
end GXP
/-! ### a locked dict walked by its keys -/
namespace L2
open PySem PySem.Spec PyProof.Rows
section
variable {d : Addr} {o : Obj} {H0 : Hp}
theorem for_keysK {kvs : List (Key × V)} {g : TG} {tb : TS} {D : Ends} {σ0 : St} (Pv : Nat → St → Hp → Prop) (h0 : Pv 0 σ0 H0) (hl : ∀ i σ H, i ≤ kvs.length → Pv i σ H → H d = some (.frz o (.dK kvs)))
    (hs : ∀ i k v σ H, kvs[i]? = some (k, v) → Pv i σ H → g (kV k) σ H fun σ2 H2 => tb { D with nx := Pv (i + 1), ct := Pv (i + 1), bk := D.nx } σ2 H2) (hd : ∀ σ H, Pv kvs.length σ H → D.nx σ H) :
    ∃ W : Nat → Nat → St → Hp → Prop, (∃ m, W 0 m σ0 H0) ∧ ∀ i m σ H, W i m σ H →
      ((Itk d o kvs).stop i H ∧ D.nx σ H) ∨ ((Itk d o kvs).go i H ∧ ∃ N : St → Hp → Prop, (∀ σ' H', N σ' H' → ∃ m', m' < m ∧ W (i + 1) m' σ' H') ∧ ∀ x H', (Itk d o kvs).yld i H x H' → g x σ H' fun σ2 H2 => tb { D with nx := N, ct := N, bk := D.nx } σ2 H2) := by
  refine ⟨fun i m σ H => m = kvs.length - i ∧ i ≤ kvs.length ∧ Pv i σ H, ⟨_, rfl, Nat.zero_le _, h0⟩, ?_⟩
  rintro i m σ H ⟨rfl, hi, p⟩
  have q := hl i σ H hi p
  by_cases hlt : i < kvs.length
  · refine .inr ⟨⟨q, hlt⟩, Pv (i + 1), fun σ' H' p' => ⟨_, by omega, rfl, hlt, p'⟩, fun x H' y => ?_⟩
    obtain ⟨rfl, k, v, e, rfl⟩ := y
    exact hs i k v σ _ e p
  · have e : i = kvs.length := by omega
    subst e
    exact .inl ⟨⟨q, Nat.le_refl _⟩, hd σ H p⟩
theorem for_keysT {kvs : List (List Key × V)} {g : TG} {tb : TS} {D : Ends} {σ0 : St} (Pv : Nat → St → Hp → Prop) (h0 : Pv 0 σ0 H0) (hl : ∀ i σ H, i ≤ kvs.length → Pv i σ H → H d = some (.frz o (.dT kvs)))
    (hs : ∀ i k v q σ H, kvs[i]? = some (k, v) → H q = some (.tup (k.map kV)) → Pv i σ H → g (.ref q) σ H fun σ2 H2 => tb { D with nx := Pv (i + 1), ct := Pv (i + 1), bk := D.nx } σ2 H2) (hd : ∀ σ H, Pv kvs.length σ H → D.nx σ H) :
    ∃ W : Nat → Nat → St → Hp → Prop, (∃ m, W 0 m σ0 H0) ∧ ∀ i m σ H, W i m σ H →
      ((Itkt d o kvs).stop i H ∧ D.nx σ H) ∨ ((Itkt d o kvs).go i H ∧ ∃ N : St → Hp → Prop, (∀ σ' H', N σ' H' → ∃ m', m' < m ∧ W (i + 1) m' σ' H') ∧ ∀ x H', (Itkt d o kvs).yld i H x H' → g x σ H' fun σ2 H2 => tb { D with nx := N, ct := N, bk := D.nx } σ2 H2) := by
  refine ⟨fun i m σ H => m = kvs.length - i ∧ i ≤ kvs.length ∧ Pv i σ H, ⟨_, rfl, Nat.zero_le _, h0⟩, ?_⟩
  rintro i m σ H ⟨rfl, hi, p⟩
  have q := hl i σ H hi p
  by_cases hlt : i < kvs.length
  · refine .inr ⟨⟨q, hlt⟩, Pv (i + 1), fun σ' H' p' => ⟨_, by omega, rfl, hlt, p'⟩, fun x H' y => ?_⟩
    obtain ⟨rfl, k, v, q2, e, rfl, ht⟩ := y
    exact hs i k v q2 σ _ e ht p
  · have e : i = kvs.length := by omega
    subst e
    exact .inl ⟨⟨q, Nat.le_refl _⟩, hd σ H p⟩
theorem w_keysK {kvs : List (Key × V)} {B : V → Hp → (Hp → Prop) → Prop} {Nx : Hp → Prop} (Pv : Nat → Hp → Prop) (h0 : Pv 0 H0) (hl : ∀ i H, i ≤ kvs.length → Pv i H → H d = some (.frz o (.dK kvs)))
    (hs : ∀ i k v H, kvs[i]? = some (k, v) → Pv i H → B (kV k) H (Pv (i + 1))) (hd : ∀ H, Pv kvs.length H → Nx H) :
    ∃ W : Nat → Nat → Hp → Prop, (∃ m, W 0 m H0) ∧ ∀ i m H, W i m H → ((Itk d o kvs).stop i H ∧ Nx H) ∨ ((Itk d o kvs).go i H ∧ ∃ N : Hp → Prop, (∀ H', N H' → ∃ m', m' < m ∧ W (i + 1) m' H') ∧ ∀ x H', (Itk d o kvs).yld i H x H' → B x H' N) := by
  refine ⟨fun i m H => m = kvs.length - i ∧ i ≤ kvs.length ∧ Pv i H, ⟨_, rfl, Nat.zero_le _, h0⟩, ?_⟩
  rintro i m H ⟨rfl, hi, p⟩
  have q := hl i H hi p
  by_cases hlt : i < kvs.length
  · refine .inr ⟨⟨q, hlt⟩, Pv (i + 1), fun H' p' => ⟨_, by omega, rfl, hlt, p'⟩, fun x H' y => ?_⟩
    obtain ⟨rfl, k, v, e, rfl⟩ := y
    exact hs i k v _ e p
  · have e : i = kvs.length := by omega
    subst e
    exact .inl ⟨⟨q, Nat.le_refl _⟩, hd H p⟩
end
end L2
/-! ### sums over matchings, by tables -/
namespace MT
/-- sums and products, as the program makes them -/
structure Sr (α : Type) where
  add : α → α → α
  mul : α → α → α
  zero : α
  one : α
  add_comm : ∀ a b, add a b = add b a
  add_assoc : ∀ a b c, add (add a b) c = add a (add b c)
  add_zero : ∀ a, add a zero = a
  mul_assoc : ∀ a b c, mul (mul a b) c = mul a (mul b c)
  mul_comm : ∀ a b, mul a b = mul b a
  mul_add : ∀ a b c, mul a (add b c) = add (mul a b) (mul a c)
  mul_zero : ∀ a, mul a zero = zero
  mul_one : ∀ a, mul a one = a
section
variable {α : Type} (S : Sr α)
theorem Sr.zero_add (a : α) : S.add S.zero a = a := by rw [S.add_comm, S.add_zero]
theorem Sr.one_mul (a : α) : S.mul S.one a = a := by rw [S.mul_comm, S.mul_one]
theorem Sr.add_mul (a b c : α) : S.mul (S.add a b) c = S.add (S.mul a c) (S.mul b c) := by rw [S.mul_comm, S.mul_add, S.mul_comm c, S.mul_comm c]
theorem Sr.zero_mul (a : α) : S.mul S.zero a = S.zero := by rw [S.mul_comm, S.mul_zero]
theorem Sr.swap (a b c : α) : S.add (S.add a b) c = S.add (S.add a c) b := by rw [S.add_assoc, S.add_comm b c, ← S.add_assoc]
def getA (l : List (Nat × α)) (m : Nat) : α := match l.find? (fun p => decide (p.1 = m)) with
  | some p => p.2
  | none => S.zero
def putA (l : List (Nat × α)) (m : Nat) (x : α) : List (Nat × α) := if l.any (fun p => decide (p.1 = m)) then l.map (fun p => if p.1 = m then (p.1, x) else p) else l ++ [(m, x)]
def addA (l : List (Nat × α)) (m : Nat) (y : α) : List (Nat × α) := putA l m (S.add (getA S l m) y)
def keysA (l : List (Nat × α)) : List Nat := l.map (·.1)
def dot (F : Nat → α) : List (Nat × α) → α
  | [] => S.zero
  | p :: t => S.add (S.mul p.2 (F p.1)) (dot F t)
theorem dot_app (F : Nat → α) : ∀ l k, dot S F (l ++ k) = S.add (dot S F l) (dot S F k)
  | [], k => (S.zero_add _).symm
  | p :: t, k => by
    show S.add _ (dot S F (t ++ k)) = S.add (S.add _ (dot S F t)) _
    rw [dot_app F t k, S.add_assoc]
theorem keys_put (l : List (Nat × α)) (m : Nat) (x : α) : keysA (putA l m x) = if m ∈ keysA l then keysA l else keysA l ++ [m] := by
  unfold putA
  by_cases h : (l.any fun p => decide (p.1 = m)) = true
  · have hm : m ∈ keysA l := by
      obtain ⟨p, hp, e⟩ := List.any_eq_true.mp h
      exact List.mem_map.mpr ⟨p, hp, of_decide_eq_true e⟩
    rw [if_pos h, if_pos hm]
    unfold keysA
    rw [List.map_map]
    refine List.map_congr_left fun p _ => ?_
    show (if p.1 = m then (p.1, x) else p).1 = p.1
    split <;> rfl
  · have hm : m ∉ keysA l := fun hm => by
      obtain ⟨p, hp, e⟩ := List.mem_map.mp hm
      exact h (List.any_eq_true.mpr ⟨p, hp, decide_eq_true e⟩)
    rw [if_neg h, if_neg hm]
    unfold keysA
    rw [List.map_append]
    rfl
theorem nodup_put {l : List (Nat × α)} (h : (keysA l).Nodup) (m : Nat) (x : α) : (keysA (putA l m x)).Nodup := by
  rw [keys_put]
  split
  · exact h
  · rename_i hm
    exact List.nodup_append.mpr ⟨h, by simp, fun a ha b hb e => hm (by rw [← List.mem_singleton.mp hb, ← e]; exact ha)⟩
theorem get_cons (p : Nat × α) (l : List (Nat × α)) (m : Nat) : getA S (p :: l) m = if p.1 = m then p.2 else getA S l m := by
  unfold getA
  by_cases e : p.1 = m
  · rw [if_pos e, List.find?_cons_of_pos (by rw [decide_eq_true e])]
  · rw [if_neg e, List.find?_cons_of_neg (by rw [decide_eq_false e]; decide)]
theorem get_none {l : List (Nat × α)} {m : Nat} (h : m ∉ keysA l) : getA S l m = S.zero := by
  induction l with
  | nil => rfl
  | cons p t ih =>
    rw [get_cons, if_neg (fun e => h (by rw [← e]; exact List.mem_cons_self ..)), ih fun e => h (List.mem_cons_of_mem _ e)]
theorem dot_set (F : Nat → α) {m : Nat} {y : α} : ∀ {l : List (Nat × α)}, (keysA l).Nodup → m ∈ keysA l → dot S F (l.map fun p => if p.1 = m then (p.1, S.add (getA S l m) y) else p) = S.add (dot S F l) (S.mul y (F m))
  | [], _, h => by cases h
  | p :: t, hn, hm => by
    obtain ⟨h1, h2⟩ := List.nodup_cons.mp (show (p.1 :: keysA t).Nodup from hn)
    rw [List.map_cons, get_cons]
    by_cases e : p.1 = m
    · rw [if_pos e, if_pos e]
      have ht : (t.map fun q => if q.1 = m then (q.1, S.add p.2 y) else q) = t := by
        refine (List.map_congr_left fun q hq => ?_).trans (List.map_id t)
        have : q.1 ≠ m := fun z => h1 (by rw [e, ← z]; exact List.mem_map.mpr ⟨q, hq, rfl⟩)
        rw [if_neg this]
        rfl
      rw [ht]
      show S.add (S.mul (S.add p.2 y) (F p.1)) (dot S F t) = S.add (S.add (S.mul p.2 (F p.1)) (dot S F t)) (S.mul y (F m))
      rw [S.add_mul, e, S.swap]
    · rw [if_neg e, if_neg e]
      have hm2 : m ∈ keysA t := by
        rcases List.mem_cons.mp (show m ∈ p.1 :: keysA t from hm) with z | z
        · exact absurd z.symm e
        · exact z
      show S.add (S.mul p.2 (F p.1)) (dot S F (t.map _)) = _
      rw [dot_set F h2 hm2, ← S.add_assoc]
      rfl
theorem dot_add (F : Nat → α) {l : List (Nat × α)} (hn : (keysA l).Nodup) (m : Nat) (y : α) : dot S F (addA S l m y) = S.add (dot S F l) (S.mul y (F m)) := by
  unfold addA putA
  by_cases h : (l.any fun p => decide (p.1 = m)) = true
  · have hm : m ∈ keysA l := by
      obtain ⟨p, hp, e⟩ := List.any_eq_true.mp h
      exact List.mem_map.mpr ⟨p, hp, of_decide_eq_true e⟩
    rw [if_pos h]
    exact dot_set S F hn hm
  · have hm : m ∉ keysA l := fun hm => by
      obtain ⟨p, hp, e⟩ := List.mem_map.mp hm
      exact h (List.any_eq_true.mpr ⟨p, hp, decide_eq_true e⟩)
    rw [if_neg h, get_none S hm, S.zero_add, dot_app]
    show S.add _ (S.add (S.mul y (F m)) S.zero) = _
    rw [S.add_zero]
/-- what becomes of a taken mask at a vertex -/
def chs (alone : α) (v m : Nat) (lk : List (Nat × α)) : List (Nat × α) := if m.testBit v then [(m ^^^ 2 ^ v, S.one)] else (m, alone) :: (lk.filter fun e => !m.testBit e.1).map fun e => (m ||| 2 ^ e.1, e.2)
def fill (x : α) (g cs : List (Nat × α)) : List (Nat × α) := cs.foldl (fun g c => addA S g c.1 (S.mul x c.2)) g
def stepT (alone : α) (v : Nat) (lk T : List (Nat × α)) : List (Nat × α) := T.foldl (fun g p => fill S p.2 g (chs S alone v p.1 lk)) []
theorem fill_nodup (x : α) : ∀ (cs g : List (Nat × α)), (keysA g).Nodup → (keysA (fill S x g cs)).Nodup
  | [], g, h => h
  | c :: cs, g, h => fill_nodup x cs _ (nodup_put h _ _)
theorem fill_dot (F : Nat → α) (x : α) : ∀ (cs g : List (Nat × α)), (keysA g).Nodup → dot S F (fill S x g cs) = S.add (dot S F g) (S.mul x (dot S F cs))
  | [], g, h => by
    show dot S F g = S.add (dot S F g) (S.mul x S.zero)
    rw [S.mul_zero, S.add_zero]
  | c :: cs, g, h => by
    have ih := fill_dot F x cs (addA S g c.1 (S.mul x c.2)) (nodup_put h _ _)
    show dot S F (fill S x (addA S g c.1 (S.mul x c.2)) cs) = _
    rw [ih, dot_add S F h]
    show _ = S.add (dot S F g) (S.mul x (S.add (S.mul c.2 (F c.1)) (dot S F cs)))
    rw [S.mul_add, ← S.mul_assoc, S.add_assoc]
theorem step_go (F : Nat → α) (alone : α) (v : Nat) (lk : List (Nat × α)) : ∀ (T g : List (Nat × α)), (keysA g).Nodup → (keysA (T.foldl (fun g p => fill S p.2 g (chs S alone v p.1 lk)) g)).Nodup ∧ dot S F (T.foldl (fun g p => fill S p.2 g (chs S alone v p.1 lk)) g) = S.add (dot S F g) (dot S (fun m => dot S F (chs S alone v m lk)) T)
  | [], g, h => ⟨h, (S.add_zero _).symm⟩
  | p :: T, g, h => by
    obtain ⟨h1, h2⟩ := step_go F alone v lk T (fill S p.2 g (chs S alone v p.1 lk)) (fill_nodup S p.2 _ _ h)
    refine ⟨h1, ?_⟩
    rw [List.foldl_cons, h2, fill_dot S F p.2 _ _ h, S.add_assoc]
    rfl
/-- the sum over all that is still to come -/
def Fr (alone : α) : List (List (Nat × α)) → Nat → Nat → α
  | [], _, m => if m = 0 then S.one else S.zero
  | lk :: rest, v, m => dot S (Fr alone rest (v + 1)) (chs S alone v m lk)
/-- the table behind the first vertices -/
def tabT (alone : α) (lks : List (List (Nat × α))) : Nat → List (Nat × α)
  | 0 => [(0, S.one)]
  | v + 1 => stepT S alone v (lks.getD v []) (tabT alone lks v)
theorem drop_getD {β : Type} {l : List β} {v : Nat} (h : v < l.length) (d : β) : l.drop v = l.getD v d :: l.drop (v + 1) := by
  rw [List.drop_eq_getElem_cons h, List.getD_eq_getElem?_getD, List.getElem?_eq_getElem h]
  rfl
theorem tab_dot (alone : α) (lks : List (List (Nat × α))) : ∀ v, v ≤ lks.length → (keysA (tabT S alone lks v)).Nodup ∧ dot S (Fr S alone (lks.drop v) v) (tabT S alone lks v) = Fr S alone lks 0 0
  | 0, _ => ⟨by simp [keysA, tabT], by
    show S.add (S.mul S.one (Fr S alone lks 0 0)) S.zero = _
    rw [S.add_zero, S.one_mul]⟩
  | v + 1, h => by
    obtain ⟨h1, h2⟩ := tab_dot alone lks v (by omega)
    obtain ⟨k1, k2⟩ := step_go S (Fr S alone (lks.drop (v + 1)) (v + 1)) alone v (lks.getD v []) (tabT S alone lks v) [] List.nodup_nil
    refine ⟨k1, ?_⟩
    show dot S _ (stepT S alone v _ _) = _
    unfold stepT
    rw [k2, ← h2, drop_getD (v := v) (show v < lks.length by omega) [], show dot S (Fr S alone (lks.drop (v + 1)) (v + 1)) [] = S.zero from rfl, S.zero_add]
    rfl
/-- masks without bits below v, below 2 ^ n -/
def KeyOk (v n : Nat) (m : Nat) : Prop := m < 2 ^ n ∧ ∀ i < v, m.testBit i = false
def LkOk (v n : Nat) (lk : List (Nat × α)) : Prop := ∀ e ∈ lk, v < e.1 ∧ e.1 < n
theorem chs_ok {alone : α} {v n m : Nat} {lk : List (Nat × α)} (hv : v < n) (h : KeyOk v n m) (hl : LkOk v n lk) : ∀ c ∈ chs S alone v m lk, KeyOk (v + 1) n c.1 := by
  intro c hc
  have pv : 2 ^ v < 2 ^ n := Nat.pow_lt_pow_right (by decide) hv
  unfold chs at hc
  split at hc
  · rename_i hb
    rw [List.mem_singleton.mp hc]
    refine ⟨Nat.xor_lt_two_pow h.1 pv, fun i hi => ?_⟩
    show (m ^^^ 2 ^ v).testBit i = false
    rw [Nat.testBit_xor, Nat.testBit_two_pow]
    by_cases e : v = i
    · subst e
      rw [hb, decide_eq_true rfl]
      rfl
    · rw [h.2 i (by omega), decide_eq_false e]
      rfl
  · rename_i hb
    rcases List.mem_cons.mp hc with rfl | hc
    · refine ⟨h.1, fun i hi => ?_⟩
      by_cases e : i = v
      · rw [e]
        exact Bool.eq_false_iff.mpr hb
      · exact h.2 i (by omega)
    · obtain ⟨e, he, rfl⟩ := List.mem_map.mp hc
      obtain ⟨e1, e2⟩ := hl e (List.mem_filter.mp he).1
      refine ⟨Nat.or_lt_two_pow h.1 (Nat.pow_lt_pow_right (by decide) e2), fun i hi => ?_⟩
      show (m ||| 2 ^ e.1).testBit i = false
      rw [Nat.testBit_or, Nat.testBit_two_pow, decide_eq_false (show ¬ e.1 = i by omega), Bool.or_false]
      by_cases z : i = v
      · rw [z]
        exact Bool.eq_false_iff.mpr hb
      · exact h.2 i (by omega)
theorem keys_fill (x : α) (P : Nat → Prop) : ∀ (cs g : List (Nat × α)), (∀ c ∈ cs, P c.1) → (∀ k ∈ keysA g, P k) → ∀ k ∈ keysA (fill S x g cs), P k
  | [], g, _, h, k, hk => h k hk
  | c :: cs, g, hc, h, k, hk => keys_fill x P cs (addA S g c.1 (S.mul x c.2)) (fun d hd => hc d (List.mem_cons_of_mem _ hd)) (fun j hj => by
      unfold addA at hj
      rw [keys_put] at hj
      split at hj
      · exact h j hj
      · rcases List.mem_append.mp hj with hj | hj
        · exact h j hj
        · rw [List.mem_singleton.mp hj]
          exact hc c (List.mem_cons_self ..)) k hk
theorem fill_ne (x : α) : ∀ (cs g : List (Nat × α)), (cs ≠ [] ∨ g ≠ []) → fill S x g cs ≠ []
  | [], g, h => h.resolve_left fun z => z rfl
  | c :: cs, g, _ => fill_ne x cs _ (.inr fun z => by
      have := congrArg keysA z
      unfold addA at this
      rw [keys_put] at this
      split at this
      · rename_i hm
        rw [this] at hm
        cases hm
      · simp [keysA] at this)
theorem chs_ne (alone : α) (v m : Nat) (lk : List (Nat × α)) : chs S alone v m lk ≠ [] := by
  unfold chs
  split <;> simp
theorem chs_len (alone : α) (v m : Nat) (lk : List (Nat × α)) : (chs S alone v m lk).length ≤ lk.length + 1 := by
  unfold chs
  split
  · simp
  · rw [List.length_cons, List.length_map]
    have := List.length_filter_le (fun e : Nat × α => !m.testBit e.1) lk
    omega
theorem tab_ok {alone : α} {n : Nat} {lks : List (List (Nat × α))} (hl : ∀ v < n, LkOk v n (lks.getD v [])) : ∀ v, v ≤ n → (∀ k ∈ keysA (tabT S alone lks v), KeyOk v n k) ∧ tabT S alone lks v ≠ []
  | 0, _ => ⟨fun k hk => by
      rw [List.mem_singleton.mp hk]
      exact ⟨Nat.two_pow_pos n, fun i hi => by omega⟩, by simp [tabT]⟩
  | v + 1, h => by
    obtain ⟨h1, h2⟩ := tab_ok hl v (by omega)
    have go : ∀ (T g : List (Nat × α)), (∀ k ∈ keysA T, KeyOk v n k) → (∀ k ∈ keysA g, KeyOk (v + 1) n k) → (T ≠ [] ∨ g ≠ []) → (∀ k ∈ keysA (T.foldl (fun g p => fill S p.2 g (chs S alone v p.1 (lks.getD v []))) g), KeyOk (v + 1) n k) ∧ T.foldl (fun g p => fill S p.2 g (chs S alone v p.1 (lks.getD v []))) g ≠ [] := by
      intro T
      induction T with
      | nil => exact fun g _ hg hne => ⟨hg, hne.resolve_left fun z => z rfl⟩
      | cons p T ih =>
        intro g hT hg _
        rw [List.foldl_cons]
        exact ih _ (fun k hk => hT k (List.mem_cons_of_mem _ hk)) (keys_fill S p.2 _ _ _ (chs_ok S (by omega) (hT p.1 (List.mem_cons_self ..)) (hl v (by omega))) hg) (.inr (fill_ne S p.2 _ _ (.inl (chs_ne S alone v p.1 _))))
    exact go _ [] h1 (fun k hk => by cases hk) (.inl h2)
/-- the last table has one sum -/
theorem tab_last {alone : α} {lks : List (List (Nat × α))} (hl : ∀ v < lks.length, LkOk v lks.length (lks.getD v [])) : tabT S alone lks lks.length = [(0, Fr S alone lks 0 0)] := by
  obtain ⟨h1, h2⟩ := tab_dot S alone lks lks.length (Nat.le_refl _)
  obtain ⟨k1, k2⟩ := tab_ok S (alone := alone) hl lks.length (Nat.le_refl _)
  have hz : ∀ k ∈ keysA (tabT S alone lks lks.length), k = 0 := fun k hk => by
    obtain ⟨a, b⟩ := k1 k hk
    refine Nat.eq_of_testBit_eq fun i => ?_
    rw [Nat.zero_testBit]
    by_cases hi : i < lks.length
    · exact b i hi
    · exact Nat.testBit_lt_two_pow (Nat.lt_of_lt_of_le a (Nat.pow_le_pow_right (by decide) (by omega)))
  generalize tabT S alone lks lks.length = T at *
  match T, k2 with
  | [p], _ =>
    have hp : p.1 = 0 := hz p.1 (List.mem_cons_self ..)
    rw [List.drop_length] at h2
    have h3 : S.add (S.mul p.2 (if p.1 = 0 then S.one else S.zero)) S.zero = Fr S alone lks 0 0 := h2
    rw [if_pos hp, S.mul_one, S.add_zero] at h3
    rw [← h3, ← hp]
  | p :: r :: t, _ =>
    have e1 := hz p.1 (List.mem_cons_self ..)
    have e2 := hz r.1 (List.mem_cons_of_mem _ (List.mem_cons_self ..))
    have := (List.nodup_cons.mp (show (p.1 :: r.1 :: keysA t).Nodup from h1)).1
    exact absurd (by rw [e1, e2]; exact List.mem_cons_self ..) this
end
end MT
namespace MT
section
variable {α : Type} (S : Sr α)
def sumF {β : Type} (f : β → α) : List β → α
  | [] => S.zero
  | x :: l => S.add (f x) (sumF f l)
section
variable {β : Type} {f g : β → α}
theorem sumF_app : ∀ l k : List β, sumF S f (l ++ k) = S.add (sumF S f l) (sumF S f k)
  | [], k => (S.zero_add _).symm
  | x :: l, k => by
    show S.add _ (sumF S f (l ++ k)) = S.add (S.add _ _) _
    rw [sumF_app l k, S.add_assoc]
theorem sumF_rev : ∀ l : List β, sumF S f l.reverse = sumF S f l
  | [] => rfl
  | x :: l => by
    rw [List.reverse_cons, sumF_app, sumF_rev l]
    show S.add _ (S.add (f x) S.zero) = S.add _ _
    rw [S.add_zero, S.add_comm]
theorem sumF_congr {l : List β} (h : ∀ x ∈ l, f x = g x) : sumF S f l = sumF S g l := by
  induction l with
  | nil => rfl
  | cons x l ih =>
    show S.add _ _ = S.add _ _
    rw [h x (List.mem_cons_self ..), ih fun y m => h y (List.mem_cons_of_mem _ m)]
theorem sumF_add (l : List β) : sumF S (fun x => S.add (f x) (g x)) l = S.add (sumF S f l) (sumF S g l) := by
  induction l with
  | nil => exact (S.add_zero _).symm
  | cons x l ih =>
    show S.add _ _ = S.add (S.add _ _) (S.add _ _)
    rw [ih]
    simp only [S.add_assoc]
    congr 1
    rw [← S.add_assoc, S.add_comm (g x), S.add_assoc]
theorem sumF_mul (a : α) (l : List β) : sumF S (fun x => S.mul a (f x)) l = S.mul a (sumF S f l) := by
  induction l with
  | nil => exact (S.mul_zero _).symm
  | cons x l ih =>
    show S.add _ _ = S.mul _ (S.add _ _)
    rw [ih, S.mul_add]
theorem sumF_zero (l : List β) : sumF S (fun _ => S.zero) l = S.zero := by
  induction l with
  | nil => rfl
  | cons x l ih =>
    show S.add _ _ = _
    rw [ih, S.add_zero]
end
abbrev Ed := Nat × Nat
/-- an edge that can be taken beside a mask -/
def usE (U : Nat) (e : Ed) : Bool := decide (e.1 ≠ e.2) && !U.testBit e.1 && !U.testBit e.2
def orE (U : Nat) (e : Ed) : Nat := U ||| 2 ^ e.1 ||| 2 ^ e.2
theorem tb_or2 (U a i : Nat) : (U ||| 2 ^ a).testBit i = (U.testBit i || decide (a = i)) := by
  rw [Nat.testBit_or, Nat.testBit_two_pow]
theorem tb_orE (U : Nat) (e : Ed) (i : Nat) : (orE U e).testBit i = (U.testBit i || decide (e.1 = i) || decide (e.2 = i)) := by
  unfold orE
  rw [tb_or2, tb_or2]
theorem orE_comm (U : Nat) (e f : Ed) : orE (orE U e) f = orE (orE U f) e := by
  refine Nat.eq_of_testBit_eq fun i => ?_
  rw [tb_orE, tb_orE, tb_orE, tb_orE]
  cases U.testBit i <;> cases decide (e.1 = i) <;> cases decide (e.2 = i) <;> cases decide (f.1 = i) <;> cases decide (f.2 = i) <;> rfl
theorem us_comm (U : Nat) (e f : Ed) : (usE U e && usE (orE U e) f) = (usE U f && usE (orE U f) e) := by
  unfold usE
  rw [tb_orE, tb_orE, tb_orE, tb_orE]
  have h1 : decide (e.1 = f.1) = decide (f.1 = e.1) := decide_eq_decide.mpr eq_comm
  have h2 : decide (e.2 = f.1) = decide (f.1 = e.2) := decide_eq_decide.mpr eq_comm
  have h3 : decide (e.1 = f.2) = decide (f.2 = e.1) := decide_eq_decide.mpr eq_comm
  have h4 : decide (e.2 = f.2) = decide (f.2 = e.2) := decide_eq_decide.mpr eq_comm
  rw [h1, h2, h3, h4]
  cases decide (e.1 ≠ e.2) <;> cases decide (f.1 ≠ f.2) <;> cases U.testBit e.1 <;> cases U.testBit e.2 <;> cases U.testBit f.1 <;> cases U.testBit f.2 <;> cases decide (f.1 = e.1) <;> cases decide (f.1 = e.2) <;> cases decide (f.2 = e.1) <;> cases decide (f.2 = e.2) <;> rfl
variable (X : α)
/-- the sum over all matchings beside a mask, each edge gives X -/
def Pl : List Ed → Nat → α
  | [], _ => S.one
  | e :: r, U => if usE U e = true then S.add (Pl r U) (S.mul X (Pl r (orE U e))) else Pl r U
def atV (v : Nat) (e : Ed) : Bool := decide (e.1 = v) || decide (e.2 = v)
theorem us_at {U v : Nat} {e : Ed} (h : atV v e = true) (hU : U.testBit v = true) : usE U e = false := by
  unfold atV at h
  unfold usE
  rcases Bool.or_eq_true_iff.mp h with h | h
  · rw [of_decide_eq_true h, hU]
    cases decide (v ≠ e.2) <;> rfl
  · rw [of_decide_eq_true h, hU]
    cases decide (e.1 ≠ v) <;> cases U.testBit e.1 <;> rfl
theorem or_at {U v : Nat} {e : Ed} (h : atV v e = true) : (orE U e).testBit v = true := by
  rw [tb_orE]
  unfold atV at h
  rw [Bool.or_assoc, h, Bool.or_true]
theorem us_not {U v : Nat} {e : Ed} (h : atV v e = false) : usE (U ||| 2 ^ v) e = usE U e := by
  unfold atV at h
  obtain ⟨h1, h2⟩ := Bool.or_eq_false_iff.mp h
  have h1' : decide (v = e.1) = false := by rw [← h1]; exact decide_eq_decide.mpr eq_comm
  have h2' : decide (v = e.2) = false := by rw [← h2]; exact decide_eq_decide.mpr eq_comm
  unfold usE
  rw [tb_or2, tb_or2, h1', h2', Bool.or_false, Bool.or_false]
theorem or_not (U v : Nat) (e : Ed) : orE (U ||| 2 ^ v) e = orE U e ||| 2 ^ v := by
  refine Nat.eq_of_testBit_eq fun i => ?_
  rw [tb_orE, tb_or2, tb_or2, tb_orE]
  cases U.testBit i <;> cases decide (e.1 = i) <;> cases decide (e.2 = i) <;> cases decide (v = i) <;> rfl
/-- the vertex stays alone, or one edge at it is taken -/
theorem Pl_at {v : Nat} : ∀ (r : List Ed) (U : Nat), U.testBit v = false → Pl S X r U = S.add (Pl S X r (U ||| 2 ^ v)) (sumF S (fun e => if (atV v e && usE U e) = true then S.mul X (Pl S X r (orE U e)) else S.zero) r)
  | [], U, _ => (S.add_zero _).symm
  | e0 :: r, U, hU => by
    have hv : (U ||| 2 ^ v).testBit v = true := by
      rw [tb_or2, decide_eq_true rfl, Bool.or_true]
    have ih := Pl_at r U hU
    show Pl S X (e0 :: r) U = S.add _ (S.add (if (atV v e0 && usE U e0) = true then S.mul X (Pl S X (e0 :: r) (orE U e0)) else S.zero) (sumF S _ r))
    by_cases ha : atV v e0 = true
    · have h1 : Pl S X (e0 :: r) (U ||| 2 ^ v) = Pl S X r (U ||| 2 ^ v) := by
        rw [Pl, us_at ha hv]
        rfl
      have h2 : sumF S (fun e => if (atV v e && usE U e) = true then S.mul X (Pl S X (e0 :: r) (orE U e)) else S.zero) r = sumF S (fun e => if (atV v e && usE U e) = true then S.mul X (Pl S X r (orE U e)) else S.zero) r := sumF_congr S fun e _ => by
        by_cases z : (atV v e && usE U e) = true
        · have hz := or_at (U := U) (Bool.and_eq_true_iff.mp z).1
          rw [if_pos z, if_pos z, Pl, us_at ha hz]
          rfl
        · rw [if_neg z, if_neg z]
      rw [h1, h2]
      by_cases hu : usE U e0 = true
      · rw [if_pos (by rw [ha, hu]; rfl)]
        have h3 : Pl S X (e0 :: r) (orE U e0) = Pl S X r (orE U e0) := by
          rw [Pl, us_at ha (or_at ha)]
          rfl
        rw [h3, Pl, if_pos hu, ih, S.add_assoc]
        congr 1
        rw [S.add_comm]
      · rw [if_neg (by rw [ha, Bool.true_and]; exact hu), Pl, if_neg hu, S.zero_add]
        exact ih
    · have ha := Bool.eq_false_iff.mpr ha
      rw [if_neg (by rw [ha]; simp), S.zero_add]
      by_cases hu : usE U e0 = true
      · have hO : (orE U e0).testBit v = false := by
          unfold atV at ha
          obtain ⟨a1, a2⟩ := Bool.or_eq_false_iff.mp ha
          rw [tb_orE, hU, a1, a2]
          rfl
        have ih2 := Pl_at r (orE U e0) hO
        have h1 : Pl S X (e0 :: r) (U ||| 2 ^ v) = S.add (Pl S X r (U ||| 2 ^ v)) (S.mul X (Pl S X r (orE U e0 ||| 2 ^ v))) := by
          rw [Pl, us_not ha, if_pos hu, or_not]
        have h2 : sumF S (fun e => if (atV v e && usE U e) = true then S.mul X (Pl S X (e0 :: r) (orE U e)) else S.zero) r = S.add (sumF S (fun e => if (atV v e && usE U e) = true then S.mul X (Pl S X r (orE U e)) else S.zero) r) (S.mul X (sumF S (fun e => if (atV v e && usE (orE U e0) e) = true then S.mul X (Pl S X r (orE (orE U e0) e)) else S.zero) r)) := by
          rw [← sumF_mul, ← sumF_add]
          refine sumF_congr S fun e _ => ?_
          have hc := us_comm U e e0
          rw [hu, Bool.true_and] at hc
          cases z1 : atV v e with
          | false => simp only [Bool.false_and, Bool.false_eq_true, if_false, S.mul_zero, S.add_zero]
          | true =>
            simp only [Bool.true_and]
            cases z2 : usE U e with
            | false =>
              rw [z2, Bool.false_and] at hc
              simp only [← hc, Bool.false_eq_true, if_false, S.mul_zero, S.add_zero]
            | true =>
              rw [z2, Bool.true_and] at hc
              rw [if_pos rfl, if_pos rfl, Pl, hc, orE_comm]
              split
              · rw [S.mul_add]
              · rw [S.mul_zero, S.add_zero]
        rw [h1, h2, Pl, if_pos hu, ih, ih2, S.mul_add]
        simp only [S.add_assoc]
        congr 1
        rw [← S.add_assoc, S.add_comm (sumF S _ r), S.add_assoc]
      · have h1 : Pl S X (e0 :: r) (U ||| 2 ^ v) = Pl S X r (U ||| 2 ^ v) := by
          rw [Pl, us_not ha, if_neg hu]
        have hu := Bool.eq_false_iff.mpr hu
        have h2 : sumF S (fun e => if (atV v e && usE U e) = true then S.mul X (Pl S X (e0 :: r) (orE U e)) else S.zero) r = sumF S (fun e => if (atV v e && usE U e) = true then S.mul X (Pl S X r (orE U e)) else S.zero) r := sumF_congr S fun e _ => by
          have hc := us_comm U e e0
          rw [hu, Bool.false_and] at hc
          by_cases z : (atV v e && usE U e) = true
          · rw [if_pos z, if_pos z, Pl]
            rw [(Bool.and_eq_true_iff.mp z).2, Bool.true_and] at hc
            rw [hc]
            rfl
          · rw [if_neg z, if_neg z]
        rw [h1, h2, Pl, hu]
        exact ih
/-! ### rows and edges -/
theorem dot_filter (F : Nat → α) (m : Nat) : ∀ lk : List (Nat × α), dot S F ((lk.filter fun e => !m.testBit e.1).map fun e => (m ||| 2 ^ e.1, e.2)) = dot S (fun k => if m.testBit k = true then S.zero else F (m ||| 2 ^ k)) lk
  | [] => rfl
  | e :: lk => by
    cases z : m.testBit e.1 with
    | true =>
      rw [List.filter_cons_of_neg (by rw [z]; decide), dot_filter F m lk]
      show _ = S.add (S.mul e.2 (if m.testBit e.1 = true then S.zero else _)) _
      rw [z, if_pos rfl, S.mul_zero, S.zero_add]
    | false =>
      rw [List.filter_cons_of_pos (by rw [z]; rfl), List.map_cons]
      show S.add (S.mul e.2 (F (m ||| 2 ^ e.1))) (dot S F _) = S.add (S.mul e.2 (if m.testBit e.1 = true then S.zero else _)) _
      rw [dot_filter F m lk, z]
      rfl
theorem fr_step (alone : α) (lks : List (List (Nat × α))) {v : Nat} (hv : v < lks.length) (m : Nat) : Fr S alone (lks.drop v) v m = if m.testBit v = true then Fr S alone (lks.drop (v + 1)) (v + 1) (m ^^^ 2 ^ v) else S.add (S.mul alone (Fr S alone (lks.drop (v + 1)) (v + 1) m)) (dot S (fun k => if m.testBit k = true then S.zero else Fr S alone (lks.drop (v + 1)) (v + 1) (m ||| 2 ^ k)) (lks.getD v [])) := by
  rw [drop_getD hv [], Fr, chs]
  split
  · show S.add (S.mul S.one _) S.zero = _
    rw [S.add_zero, S.one_mul]
  · show S.add (S.mul alone _) (dot S _ _) = _
    rw [dot_filter]
end
end MT
namespace MT
section
variable {α : Type} (S : Sr α)
/-- a further edge, merged into its row -/
def lnE (lks : List (List (Nat × α))) (e : Nat × Nat × α) : List (List (Nat × α)) := if e.1 = e.2.1 then lks else lks.set (min e.1 e.2.1) (addA S (lks.getD (min e.1 e.2.1) []) (max e.1 e.2.1) e.2.2)
theorem lnE_len (lks : List (List (Nat × α))) (e : Nat × Nat × α) : (lnE S lks e).length = lks.length := by
  unfold lnE
  split
  · rfl
  · rw [List.length_set]
theorem fold_nd (es : List (Nat × Nat × α)) : ∀ lks : List (List (Nat × α)), (∀ v, (keysA (lks.getD v [])).Nodup) → ∀ v, (keysA ((es.foldl (lnE S) lks).getD v [])).Nodup := by
  induction es with
  | nil => exact fun _ h => h
  | cons e es ih =>
    intro lks h
    refine ih _ fun v => ?_
    unfold lnE
    split
    · exact h v
    · by_cases z : min e.1 e.2.1 = v
      · subst z
        by_cases hl : min e.1 e.2.1 < lks.length
        · rw [List.getD_eq_getElem?_getD, List.getElem?_set_self hl]
          exact nodup_put (h _) _ _
        · rw [List.getD_eq_getElem?_getD, List.getElem?_set, if_pos rfl, if_neg hl]
          exact List.nodup_nil
      · rw [List.getD_eq_getElem?_getD, List.getElem?_set_ne z, ← List.getD_eq_getElem?_getD]
        exact h v
/-- a row's sum goes over the edges -/
theorem row_dot (F : Nat → α) {v : Nat} : ∀ (es : List (Nat × Nat × α)) (lks : List (List (Nat × α))), v < lks.length → (∀ w, (keysA (lks.getD w [])).Nodup) →
    dot S F ((es.foldl (lnE S) lks).getD v []) = S.add (dot S F (lks.getD v [])) (sumF S (fun e => if e.1 ≠ e.2.1 ∧ min e.1 e.2.1 = v then S.mul e.2.2 (F (max e.1 e.2.1)) else S.zero) es)
  | [], lks, _, _ => (S.add_zero _).symm
  | e :: es, lks, hv, h => by
    have hn := fold_nd S [e] lks h
    have hl : v < (lnE S lks e).length := by rw [lnE_len]; exact hv
    rw [List.foldl_cons, row_dot F es (lnE S lks e) hl hn]
    show _ = S.add _ (S.add (if e.1 ≠ e.2.1 ∧ min e.1 e.2.1 = v then S.mul e.2.2 (F (max e.1 e.2.1)) else S.zero) _)
    rw [← S.add_assoc]
    congr 1
    unfold lnE
    by_cases z : e.1 = e.2.1
    · rw [if_pos z, if_neg (fun q => q.1 z), S.add_zero]
    · rw [if_neg z]
      by_cases y : min e.1 e.2.1 = v
      · rw [if_pos ⟨z, y⟩, y, List.getD_eq_getElem?_getD, List.getElem?_set_self hv]
        exact dot_add S F (h v) _ _
      · rw [if_neg (fun q => y q.2), S.add_zero, List.getD_eq_getElem?_getD, List.getElem?_set_ne y, ← List.getD_eq_getElem?_getD]
def lnS (count : Nat) (es : List (Nat × Nat × α)) : List (List (Nat × α)) := es.foldl (lnE S) (List.replicate count [])
theorem lnS_len (count : Nat) (es : List (Nat × Nat × α)) : (lnS S count es).length = count := by
  have : ∀ (l : List (Nat × Nat × α)) (s : List (List (Nat × α))), (l.foldl (lnE S) s).length = s.length := fun l => by
    induction l with
    | nil => exact fun s => rfl
    | cons x l ih2 => exact fun s => (ih2 _).trans (lnE_len S s x)
  unfold lnS
  rw [this, List.length_replicate]
theorem lnS_dot (F : Nat → α) {count v : Nat} (hv : v < count) (es : List (Nat × Nat × α)) : dot S F ((lnS S count es).getD v []) = sumF S (fun e => if e.1 ≠ e.2.1 ∧ min e.1 e.2.1 = v then S.mul e.2.2 (F (max e.1 e.2.1)) else S.zero) es := by
  have e0 : ∀ w, (List.replicate count ([] : List (Nat × α))).getD w [] = [] := fun w => by
    rw [List.getD_eq_getElem?_getD, List.getElem?_replicate]
    split <;> rfl
  unfold lnS
  rw [row_dot S F es _ (by rw [List.length_replicate]; exact hv) (fun w => by rw [e0]; exact List.nodup_nil), e0]
  exact S.zero_add _
theorem sumF_map {β γ : Type} (f : γ → α) (g : β → γ) : ∀ l : List β, sumF S f (l.map g) = sumF S (fun x => f (g x)) l
  | [] => rfl
  | x :: l => by
    show S.add _ _ = S.add _ _
    rw [sumF_map f g l]
/-- all bits below v -/
def low (v : Nat) : Nat := 2 ^ v - 1
theorem low_tb (v i : Nat) : (low v).testBit i = decide (i < v) := Nat.testBit_two_pow_sub_one v i
variable (X : α)
/-- the program's sum over matchings goes over all sets of edges -/
theorem fr_pl {count : Nat} {es : List Ed} (hin : ∀ e ∈ es, e.1 < count ∧ e.2 < count) : ∀ (k v m : Nat), v + k = count → KeyOk v count m →
    Fr S S.one ((lnS S count (es.map fun e => (e.1, e.2, X))).drop v) v m = Pl S X es (low v ||| m)
  | 0, v, m, hv, hm => by
    have hv : v = count := by omega
    subst hv
    have m0 : m = 0 := Nat.eq_of_testBit_eq fun i => by
      rw [Nat.zero_testBit]
      by_cases hi : i < v
      · exact hm.2 i hi
      · exact Nat.testBit_lt_two_pow (Nat.lt_of_lt_of_le hm.1 (Nat.pow_le_pow_right (by decide) (by omega)))
    subst m0
    rw [List.drop_eq_nil_of_le (by rw [lnS_len]; exact Nat.le_refl _), Nat.or_zero]
    show S.one = _
    have : ∀ l : List Ed, (∀ e ∈ l, e.1 < v ∧ e.2 < v) → Pl S X l (low v) = S.one := fun l => by
      induction l with
      | nil => exact fun _ => rfl
      | cons e l ih =>
        intro h
        have hu : usE (low v) e = false := by
          unfold usE
          rw [low_tb, decide_eq_true (h e (List.mem_cons_self ..)).1]
          cases decide (e.1 ≠ e.2) <;> rfl
        rw [Pl, hu]
        exact ih fun f m => h f (List.mem_cons_of_mem _ m)
    exact (this es hin).symm
  | k + 1, v, m, hv, hm => by
    have hvc : v < count := by omega
    have ll := lnS_len S count (es.map fun e => (e.1, e.2, X))
    rw [fr_step S S.one _ (by omega) m]
    have ih := fr_pl hin k (v + 1)
    by_cases hb : m.testBit v = true
    · rw [if_pos hb]
      have hm2 : KeyOk (v + 1) count (m ^^^ 2 ^ v) := chs_ok S (alone := S.one) (lk := []) hvc hm (fun e h => by cases h) (m ^^^ 2 ^ v, S.one) (by unfold chs; rw [if_pos hb]; exact List.mem_cons_self ..)
      rw [ih _ (by omega) hm2]
      congr 1
      refine Nat.eq_of_testBit_eq fun i => ?_
      rw [Nat.testBit_or, Nat.testBit_or, Nat.testBit_xor, Nat.testBit_two_pow, low_tb, low_tb]
      by_cases e : v = i
      · subst e
        rw [hb, decide_eq_true (Nat.lt_succ_self v)]
        simp
      · rw [decide_eq_false e, Bool.xor_false]
        congr 1
        exact decide_eq_decide.mpr ⟨fun h => by omega, fun h => by omega⟩
    · rw [if_neg hb, S.one_mul]
      have hb := Bool.eq_false_iff.mpr hb
      have hU : (low v ||| m).testBit v = false := by
        rw [Nat.testBit_or, low_tb, hb, decide_eq_false (Nat.lt_irrefl v)]
        rfl
      rw [Pl_at S X es _ hU]
      have hm2 : KeyOk (v + 1) count m := ⟨hm.1, fun i hi => by
        by_cases e : i = v
        · rw [e]
          exact hb
        · exact hm.2 i (by omega)⟩
      have e1 : low v ||| m ||| 2 ^ v = low (v + 1) ||| m := by
        refine Nat.eq_of_testBit_eq fun i => ?_
        rw [tb_or2, Nat.testBit_or, Nat.testBit_or, low_tb, low_tb]
        by_cases e : v = i
        · subst e
          rw [decide_eq_true rfl, decide_eq_true (Nat.lt_succ_self v)]
          simp
        · rw [decide_eq_false e, Bool.or_false]
          congr 1
          exact decide_eq_decide.mpr ⟨fun h => by omega, fun h => by omega⟩
      rw [ih m (by omega) hm2, e1]
      congr 1
      rw [lnS_dot S _ hvc, sumF_map]
      refine sumF_congr S fun e he => ?_
      obtain ⟨b1, b2⟩ := hin e he
      have hmx : max e.1 e.2 < count := by omega
      by_cases c : e.1 ≠ e.2 ∧ min e.1 e.2 = v
      · obtain ⟨c1, c2⟩ := c
        rw [if_pos ⟨c1, c2⟩]
        have hat : atV v e = true := by
          unfold atV
          by_cases z : e.1 = v
          · rw [decide_eq_true z]
            rfl
          · rw [decide_eq_true (show e.2 = v by omega), Bool.or_true]
        have hus : usE (low v ||| m) e = !m.testBit (max e.1 e.2) := by
          unfold usE
          rw [Nat.testBit_or, Nat.testBit_or, low_tb, low_tb, decide_eq_true c1, decide_eq_false (show ¬ e.1 < v by omega), decide_eq_false (show ¬ e.2 < v by omega), Bool.true_and, Bool.false_or, Bool.false_or]
          by_cases z : e.1 = v
          · rw [z, hb, show max v e.2 = e.2 by omega]
            rfl
          · rw [show e.2 = v by omega, hb, show max e.1 v = e.1 by omega]
            cases m.testBit e.1 <;> rfl
        rw [hat, hus, Bool.true_and]
        cases z : m.testBit (max e.1 e.2) with
        | true => 
          simp only [if_true, Bool.not_true, Bool.false_eq_true, if_false]
          exact S.mul_zero _
        | false =>
          simp only [Bool.false_eq_true, if_false, Bool.not_false, if_true]
          congr 1
          have hm3 : KeyOk (v + 1) count (m ||| 2 ^ max e.1 e.2) := ⟨Nat.or_lt_two_pow hm.1 (Nat.pow_lt_pow_right (by decide) hmx), fun i hi => by
            rw [tb_or2, hm2.2 i hi, decide_eq_false (show ¬ max e.1 e.2 = i by omega)]
            rfl⟩
          rw [ih _ (by omega) hm3]
          congr 1
          refine Nat.eq_of_testBit_eq fun i => ?_
          rw [Nat.testBit_or, Nat.testBit_or, Nat.testBit_two_pow, tb_orE, Nat.testBit_or, low_tb, low_tb]
          have h5 : (i < v + 1 ∨ max e.1 e.2 = i) ↔ (i < v ∨ e.1 = i ∨ e.2 = i) := by omega
          cases m.testBit i with
          | true => simp
          | false =>
            simp only [Bool.false_or, Bool.or_false]
            rw [Bool.eq_iff_iff]
            simp only [Bool.or_eq_true, decide_eq_true_eq, or_assoc]
            exact h5
      · rw [if_neg c]
        have : (atV v e && usE (low v ||| m) e) = false := by
          cases z : atV v e && usE (low v ||| m) e with
          | false => rfl
          | true =>
            exfalso
            obtain ⟨z1, z2⟩ := Bool.and_eq_true_iff.mp z
            unfold atV at z1
            unfold usE at z2
            rw [Nat.testBit_or, Nat.testBit_or, low_tb, low_tb] at z2
            obtain ⟨z2, z4⟩ := Bool.and_eq_true_iff.mp z2
            obtain ⟨z2, z3⟩ := Bool.and_eq_true_iff.mp z2
            have h1 := of_decide_eq_true z2
            have h3 : ¬ e.1 < v := fun q => by rw [decide_eq_true q] at z3; simp at z3
            have h4 : ¬ e.2 < v := fun q => by rw [decide_eq_true q] at z4; simp at z4
            refine c ⟨h1, ?_⟩
            rcases Bool.or_eq_true_iff.mp z1 with q | q
            · have := of_decide_eq_true q
              omega
            · have := of_decide_eq_true q
              omega
        rw [this]
        rfl
end
end MT
namespace KP
open PySem PySem.Spec PyProof.Rows L2 EXT SDT GXP AUG
open PM (Trm Ex canon mulT look put gather keys addTo pw one addE Canon)
def veB : List Value := [.type "ValueError", .type "Exception", .type "BaseException", .type "object"]
def topS (i : Nat) : Stmt := PySem.Challenge.pw_spinfield_k22_matching_polynomials.main.body.getD i (.Pass ⟨0, 0, 0, 0⟩)
abbrev s_polynomial : Stmt := topS 6
abbrev n_polynomial : List Str := ["terms", "found", "a", "b", "c"]
theorem sc_polynomial : FnScope n_polynomial ["terms"] (defScope s_polynomial) := ⟨rfl, rfl, rfl, by decide +kernel, rfl, by decide +kernel, by decide +kernel⟩
abbrev s_in_order : Stmt := topS 7
abbrev n_in_order : List Str := ["found", "pair"]
theorem sc_in_order : FnScope n_in_order ["found"] (defScope s_in_order) := ⟨rfl, rfl, rfl, by decide +kernel, rfl, by decide +kernel, by decide +kernel⟩
abbrev s_plus : Stmt := topS 8
abbrev n_plus : List Str := ["p", "q"]
theorem sc_plus : FnScope n_plus ["p", "q"] (defScope s_plus) := ⟨rfl, rfl, rfl, by decide +kernel, rfl, by decide +kernel, by decide +kernel⟩
abbrev s_times : Stmt := topS 9
abbrev n_times : List Str := ["p", "q", "found", "a", "b", "c", "d", "e", "f", "pair"]
theorem sc_times : FnScope n_times ["p", "q"] (defScope s_times) := ⟨rfl, rfl, rfl, by decide +kernel, rfl, by decide +kernel, by decide +kernel⟩
abbrev s_matching_polynomial : Stmt := topS 12
abbrev n_matching_polynomial : List Str := ["count", "edges", "each", "u", "v", "_"]
theorem sc_matching_polynomial : FnScope n_matching_polynomial ["count", "edges"] (defScope s_matching_polynomial) := ⟨rfl, rfl, rfl, by decide +kernel, rfl, by decide +kernel, by decide +kernel⟩
abbrev s_check_graph : Stmt := topS 13
abbrev n_check_graph : List Str := ["count", "edges", "u", "v", "_"]
theorem sc_check_graph : FnScope n_check_graph ["count", "edges"] (defScope s_check_graph) := ⟨rfl, rfl, rfl, by decide +kernel, rfl, by decide +kernel, by decide +kernel⟩
abbrev s_links : Stmt := topS 14
abbrev n_links : List Str := ["count", "edges", "zero", "summed", "links", "_", "u", "v", "weight", "later"]
theorem sc_links : FnScope n_links ["count", "edges", "zero", "summed"] (defScope s_links) := ⟨rfl, rfl, rfl, by decide +kernel, rfl, by decide +kernel, by decide +kernel⟩
abbrev s_sum_over_matchings : Stmt := topS 15
abbrev n_sum_over_matchings : List Str := ["links", "alone", "zero", "one", "summed", "multiplied", "table", "vertex", "later", "grown", "taken", "choices", "other", "mask", "factor"]
theorem sc_sum_over_matchings : FnScope n_sum_over_matchings ["links", "alone", "zero", "one", "summed", "multiplied"] (defScope s_sum_over_matchings) := ⟨rfl, rfl, rfl, by decide +kernel, rfl, by decide +kernel, by decide +kernel⟩
abbrev s_law_cell : Stmt := topS 17
abbrev n_law_cell : List Str := ["script", "k"]
theorem sc_law_cell : FnScope n_law_cell ["script", "k"] (defScope s_law_cell) := ⟨rfl, rfl, rfl, by decide +kernel, rfl, by decide +kernel, by decide +kernel⟩
abbrev s_law_mix : Stmt := topS 18
abbrev n_law_mix : List Str := ["cell", "k", "number"]
theorem sc_law_mix : FnScope n_law_mix ["cell", "k"] (defScope s_law_mix) := ⟨rfl, rfl, rfl, by decide +kernel, rfl, by decide +kernel, by decide +kernel⟩
abbrev s_law_row : Stmt := topS 19
abbrev n_law_row : List Str := ["cell", "count", "bound", "found", "rest", "k"]
theorem sc_law_row : FnScope n_law_row ["cell", "count", "bound"] (defScope s_law_row) := ⟨rfl, rfl, rfl, by decide +kernel, rfl, by decide +kernel, by decide +kernel⟩
abbrev s_law_tuples : Stmt := topS 20
abbrev n_law_tuples : List Str := ["thing", "part"]
theorem sc_law_tuples : FnScope n_law_tuples ["thing"] (defScope s_law_tuples) := ⟨rfl, rfl, rfl, by decide +kernel, rfl, by decide +kernel, by decide +kernel⟩
abbrev s_law_poly : Stmt := topS 21
abbrev n_law_poly : List Str := ["terms", "found", "key", "number"]
theorem sc_law_poly : FnScope n_law_poly ["terms"] (defScope s_law_poly) := ⟨rfl, rfl, rfl, by decide +kernel, rfl, by decide +kernel, by decide +kernel⟩
abbrev s_law_bits : Stmt := topS 24
abbrev n_law_bits : List Str := ["mask", "count", "k"]
theorem sc_law_bits : FnScope n_law_bits ["mask", "count"] (defScope s_law_bits) := ⟨rfl, rfl, rfl, by decide +kernel, rfl, by decide +kernel, by decide +kernel⟩
abbrev s_law : Stmt := topS 25
abbrev n_law : List Str := ["script", "cell", "count", "digits", "edges", "k", "terms", "mask", "ends", "alone", "end", "told", "plain", "u", "v", "weight"]
theorem sc_law : FnScope n_law ["script"] (defScope s_law) := ⟨rfl, rfl, rfl, by decide +kernel, rfl, by decide +kernel, by decide +kernel⟩
structure Top (K : PySem.W.Frag) (mg : Str → Option Value) : Type where
  f_polynomial : Addr
  d_polynomial : FuncData
  F_polynomial : Fun K "polynomial" "polynomial" s_polynomial f_polynomial d_polynomial
  b_polynomial : Binds K d_polynomial ["terms"] []
  g_polynomial : mg "polynomial" = some (.ref f_polynomial)
  f_in_order : Addr
  d_in_order : FuncData
  c_in_order : Addr
  P_in_order : Addr
  F_in_order : FunC K "_in_order" "_in_order" s_in_order f_in_order d_in_order c_in_order
  b_in_order : Binds K d_in_order ["found"] []
  g_in_order : mg "_in_order" = some (.ref f_in_order)
  f_plus : Addr
  d_plus : FuncData
  F_plus : Fun K "plus" "plus" s_plus f_plus d_plus
  b_plus : Binds K d_plus ["p", "q"] []
  g_plus : mg "plus" = some (.ref f_plus)
  f_times : Addr
  d_times : FuncData
  F_times : Fun K "times" "times" s_times f_times d_times
  b_times : Binds K d_times ["p", "q"] []
  g_times : mg "times" = some (.ref f_times)
  f_matching_polynomial : Addr
  d_matching_polynomial : FuncData
  F_matching_polynomial : Fun K "matching_polynomial" "matching_polynomial" s_matching_polynomial f_matching_polynomial d_matching_polynomial
  b_matching_polynomial : Binds K d_matching_polynomial ["count", "edges"] []
  g_matching_polynomial : mg "matching_polynomial" = some (.ref f_matching_polynomial)
  f_check_graph : Addr
  d_check_graph : FuncData
  F_check_graph : Fun K "_check_graph" "_check_graph" s_check_graph f_check_graph d_check_graph
  b_check_graph : Binds K d_check_graph ["count", "edges"] []
  g_check_graph : mg "_check_graph" = some (.ref f_check_graph)
  f_links : Addr
  d_links : FuncData
  F_links : Fun K "_links" "_links" s_links f_links d_links
  b_links : Binds K d_links ["count", "edges", "zero", "summed"] []
  g_links : mg "_links" = some (.ref f_links)
  f_sum_over_matchings : Addr
  d_sum_over_matchings : FuncData
  F_sum_over_matchings : Fun K "_sum_over_matchings" "_sum_over_matchings" s_sum_over_matchings f_sum_over_matchings d_sum_over_matchings
  b_sum_over_matchings : Binds K d_sum_over_matchings ["links", "alone", "zero", "one", "summed", "multiplied"] []
  g_sum_over_matchings : mg "_sum_over_matchings" = some (.ref f_sum_over_matchings)
  f_law_cell : Addr
  d_law_cell : FuncData
  F_law_cell : Fun K "_law_cell" "_law_cell" s_law_cell f_law_cell d_law_cell
  b_law_cell : Binds K d_law_cell ["script", "k"] []
  g_law_cell : mg "_law_cell" = some (.ref f_law_cell)
  f_law_mix : Addr
  d_law_mix : FuncData
  F_law_mix : Fun K "_law_mix" "_law_mix" s_law_mix f_law_mix d_law_mix
  b_law_mix : Binds K d_law_mix ["cell", "k"] []
  g_law_mix : mg "_law_mix" = some (.ref f_law_mix)
  f_law_row : Addr
  d_law_row : FuncData
  F_law_row : Fun K "_law_row" "_law_row" s_law_row f_law_row d_law_row
  b_law_row : Binds K d_law_row ["cell", "count", "bound"] []
  g_law_row : mg "_law_row" = some (.ref f_law_row)
  f_law_tuples : Addr
  d_law_tuples : FuncData
  F_law_tuples : Fun K "_law_tuples" "_law_tuples" s_law_tuples f_law_tuples d_law_tuples
  b_law_tuples : Binds K d_law_tuples ["thing"] []
  g_law_tuples : mg "_law_tuples" = some (.ref f_law_tuples)
  f_law_poly : Addr
  d_law_poly : FuncData
  F_law_poly : Fun K "_law_poly" "_law_poly" s_law_poly f_law_poly d_law_poly
  b_law_poly : Binds K d_law_poly ["terms"] []
  g_law_poly : mg "_law_poly" = some (.ref f_law_poly)
  f_law_bits : Addr
  d_law_bits : FuncData
  F_law_bits : Fun K "_law_bits" "_law_bits" s_law_bits f_law_bits d_law_bits
  b_law_bits : Binds K d_law_bits ["mask", "count"] []
  g_law_bits : mg "_law_bits" = some (.ref f_law_bits)
  f_ONE : Addr
  g_ONE : mg "ONE" = some (.ref f_ONE)
  k_ONE : ∀ H, PolyAt K H f_ONE PM.one
  t_MOST_VERTICES : Tok
  g_MOST_VERTICES : mg "MOST_VERTICES" = some (.int 16 t_MOST_VERTICES)
  f_FieldError : Addr
  g_FieldError : mg "FieldError" = some (.ref f_FieldError)
  q_FieldError : PySem.W.excIn K f_FieldError veB "ValueError.__new__" = true
  k_FieldError : PySem.W.keepIn K (.ref f_FieldError) = true
  b_FieldError : PySem.W.subIn K (.ref f_FieldError) (.type "BaseException") = some true
  y_FieldError : PySem.W.typeIn K (.ref f_FieldError) = some (.type "type")
  f_InvalidWeight : Addr
  g_InvalidWeight : mg "InvalidWeight" = some (.ref f_InvalidWeight)
  q_InvalidWeight : PySem.W.excIn K f_InvalidWeight veB "ValueError.__new__" = true
  k_InvalidWeight : PySem.W.keepIn K (.ref f_InvalidWeight) = true
  b_InvalidWeight : PySem.W.subIn K (.ref f_InvalidWeight) (.type "BaseException") = some true
  y_InvalidWeight : PySem.W.typeIn K (.ref f_InvalidWeight) = some (.type "type")
  f_TooLarge : Addr
  g_TooLarge : mg "TooLarge" = some (.ref f_TooLarge)
  q_TooLarge : PySem.W.excIn K f_TooLarge veB "ValueError.__new__" = true
  k_TooLarge : PySem.W.keepIn K (.ref f_TooLarge) = true
  b_TooLarge : PySem.W.subIn K (.ref f_TooLarge) (.type "BaseException") = some true
  y_TooLarge : PySem.W.typeIn K (.ref f_TooLarge) = some (.type "type")
  m_abs : mg "abs" = none
  m_all : mg "all" = none
  m_bool : mg "bool" = none
  m_enumerate : mg "enumerate" = none
  m_int : mg "int" = none
  m_isinstance : mg "isinstance" = none
  m_len : mg "len" = none
  m_list : mg "list" = none
  m_max : mg "max" = none
  m_min : mg "min" = none
  m_range : mg "range" = none
  m_sorted : mg "sorted" = none
  m_tuple : mg "tuple" = none
structure Tb {K : PySem.W.Frag} {mg : Str → Option Value} (T : Top K mg) (base : Heap) : Prop where
  t_in_order : LamX.TabB base mg T.c_in_order T.P_in_order
/-- the tables stand -/
structure Tg {K : PySem.W.Frag} {mg : Str → Option Value} (T : Top K mg) (H : Hp) : Prop where
  t_in_order : GxR.TabG H T.P_in_order
theorem Tg.ext {K : PySem.W.Frag} {mg : Str → Option Value} {T : Top K mg} {H H1 : Hp} (G : Tg T H) (s : Ext H H1) : Tg T H1 := ⟨s.tab G.t_in_order⟩
theorem sl2 : (2 : Nat) ≤ sizeLine := by rw [sizeLine_eq]; decide
theorem sl_of {n : Nat} (h : n ≤ 1000000) : n ≤ sizeLine := by rw [sizeLine_eq]; omega
theorem sl_lt {n : Nat} (h : n < 1000000) : n < sizeLine := by rw [sizeLine_eq]; omega
end KP
namespace KP
open PySem PySem.Spec PyProof.Rows L2 EXT SDT GXP AUG
open PM (Trm Ex canon mulT look put gather keys addTo pw one addE Canon)
section
variable {P : Program} {w : World} {K : PySem.W.Frag} {mg : Str → Option Value} {base : Heap}
/-- // by a divisor that is not 0, below 2 ^ 9000 -/
def CDivZ (_ j : Int) : Prop := j ≠ 0 ∧ j.natAbs.log2 < 9000
theorem op_fdivZ {X : Cx} : OpR X (binaryOp .FloorDiv) (rI CDivZ fun i j => .int (i.fdiv j)) := opI fun i j _ _ _ _ _ hc q =>
  floordiv_int hc.1 q (.inl (PyProof.noPylong_of_log2 hc.2))
theorem same_upd {H : Hp} {p : Addr} {o : HO} (h : H p = none) : Same H (upd H p o) := fun b x e => by
  rw [upd_ne (ne_of_none e h)]
  exact e
theorem _root_.L2.Same.tup {K : PySem.W.Frag} {H H' : Hp} {a : Addr} {xs : List V} (e : Same H H') (h : SqT K H a xs) : SqT K H' a xs := e.ext.tup h
theorem take_snoc {α : Type} {l : List α} {i : Nat} {x : α} (h : l[i]? = some x) : l.take (i + 1) = l.take i ++ [x] := by
  rw [List.take_add_one, h]
  rfl
theorem iteB {c : Bool} {A B : Prop} (h1 : c = true → A) (h2 : c = false → B) : if c = true then A else B := by
  cases c
  · exact iteF (h2 rfl)
  · exact iteT (h1 rfl)
theorem paired_at' {α β : Type} {R : α → β → Prop} : ∀ {as : List α} {bs : List β} {i : Nat} {b : β}, Paired R as bs → bs[i]? = some b → ∃ a, as[i]? = some a ∧ R a b
  | _, _, _, _, .nil, h => by simp at h
  | _, _, 0, _, .cons x t, h => by
    simp only [List.getElem?_cons_zero, Option.some.injEq] at h
    subst h
    exact ⟨_, rfl, x⟩
  | _, _, i + 1, _, .cons x t, h => by
    simp only [List.getElem?_cons_succ] at h
    obtain ⟨b, h1, h2⟩ := paired_at' t h
    exact ⟨b, by simpa using h1, h2⟩
/-- the dict d holds the terms D, a gathering of ts: in comes d, out comes a new tuple -/
def spIn (T : Top K mg) : Sp := fun vs H Q _ => ∃ (d : Addr) (D ts : List Trm), vs = [.ref d] ∧ H d = some (.dT (kvsOf D)) ∧ (keys D).Nodup ∧ PM.Eqv D ts ∧ D.length < 1000000 ∧ Tg T H ∧
  ∀ p H', Ext H H' → PolyT H' p (canon ts) → H p = none → Q (.ref p) H'
theorem ok_in_order (T : Top K mg) (B : Tb T base) : FnOk P w K mg base CX0 2 T.f_in_order T.d_in_order ["found"] (spIn T) := by
  refine T.F_in_order.ok sc_in_order (fun vs H Q E h => ?_) (fun A outer s H vs Q E hr h => ?_)
  · obtain ⟨d, D, ts, rfl, _⟩ := h
    rfl
  · obtain ⟨d, D, ts, rfl, hd, hn, he, hlen, G, q⟩ := h
    refine ⟨_, (pss_one (ps_ret (GXP.pe_tupleGx (own := [("pair", 1)]) (g := gName 1) (k := 0) (c := T.c_in_order) (P := T.P_in_order) (by rfl) T.m_tuple ⟨hr.mono (by decide), rfl, B.t_in_order, rfl, rfl, blkOk_by (own := [("pair", 1)]) (N := n_in_order) (sc := defScope s_in_order) (by decide +kernel), sc_in_order.nd, by decide +kernel, rfl, (pi_list (pe_callB (SDT.cr_sortedDT rfl) (by rfl) T.m_sorted (by decide +kernel) (pa_cons (pv 0) pa_nil))), fun A s H C cl code bi fp hrA => (pg_name (i := 1) sc_in_order.nd rfl (by first | exact .inl rfl | exact .inr rfl)), fun A s H C cl code bi fp hrA => (pts_one (pt_cmpR op_ne (pe_dget (hu_of hrA) (pv 0) (pv 1) (fun _ _ => rfl)) pe_int (nomark _))), fun A s H C cl code bi fp hrA => (pe_tup (pa_cons (pv 1) (pa_cons (pe_dget (hu_of hrA) (pv 0) (pv 1) (fun _ _ => rfl)) pa_nil))), fun _ => rfl⟩))), ?_⟩
    refine ⟨_, rfl, d, _, keys D, rfl, .inl hd, keys_kvs D, fun ks bs l hp hs hb hl => ?_⟩
    refine ⟨l, rfl, ⟨_, SqL.of upd_same⟩, (G.ext (ext_upd hl)).t_in_order, fun H2 t2 => ?_⟩
    have e0 : Ext H (upd H l (.lst (bs.map V.ref))) := ext_upd hl
    have e2 : Ext H H2 := e0.tabbed (G.ext e0).t_in_order t2
    have hl2 : H2 l = some (.lst (bs.map V.ref)) := (ext_tabbed (G.ext e0).t_in_order t2).lst upd_same
    refine gx_list (xs := bs.map V.ref) (fun i ys H3 => Ext H2 H3 ∧ TermsT H3 ys (PM.read D (ks.take i))) ⟨Ext.refl _, .nil⟩ (fun i ys H3 _ h => SqL.of (h.1.lst hl2)) (fun i x ys H3 hi hP => ?_) (fun ys H3 hP => ?_)
    · obtain ⟨s3, hy⟩ := hP
      rw [List.getElem?_map] at hi
      cases hbi : bs[i]? with
      | none => rw [hbi] at hi; cases hi
      | some b =>
        rw [hbi] at hi
        cases hi
        obtain ⟨k, hk, hkb⟩ := paired_at' hb hbi
        have e3 : Ext H H3 := e2.trans s3
        have hb3 : PairAt H3 k b := e3.at hkb
        have hm : k ∈ keys D := hp.mem_iff.mp (List.mem_of_getElem? hk)
        have hg : DGet H3 d (.ref b) (some (.int (look D k))) := by
          have := DGet.t (e3.dt hd) (k := pairKey k) hb3
          rw [valV_kvs, if_pos hm] at this
          exact this
        have tk : ks.take (i + 1) = ks.take i ++ [k] := by rw [List.take_add_one, hk]; rfl
        refine ⟨rfl, _, rfl, _, rfl, d, _, rfl, hg, rfl, _, rfl, iteB (fun z => ?_) (fun z => ?_)⟩
        · have nz : look D k ≠ 0 := fun w => by
            rw [w] at z
            cases z
          refine ⟨_, rfl, _, rfl, _, rfl, d, _, rfl, hg, sl2, fun p2 hp2 => ⟨?_, s3.new hp2, ?_⟩⟩
          · have l1 := hy.length
            have l2 : (PM.read D (ks.take i)).length ≤ D.length := by
              unfold PM.read
              rw [List.length_map]
              have h1 : ((ks.take i).filter fun k => decide (look D k ≠ 0)).length ≤ (ks.take i).length := List.length_filter_le _ _
              have h2 : (ks.take i).length ≤ ks.length := by rw [List.length_take]; omega
              have h3 := hp.length_eq
              have h4 : (keys D).length = D.length := by
                unfold keys
                rw [List.length_map]
              omega
            exact sl_lt (by omega)
          · rw [tk]
            have : PM.read D (ks.take i ++ [k]) = PM.read D (ks.take i) ++ [(k, look D k)] := by
              unfold PM.read
              rw [List.filter_append, List.filter_cons_of_pos (by simp [nz]), List.filter_nil, List.map_append]
              rfl
            rw [this]
            exact paired_snoc ((ext_upd hp2).termsT hy) ⟨p2, b, rfl, upd_same, (ext_upd hp2).at hb3⟩
        · have nz : look D k = 0 := by
            have z2 : decide (V.int (look D k) = V.int 0) = true := by simpa using z
            exact V.int.inj (of_decide_eq_true z2)
          refine ⟨s3, ?_⟩
          rw [tk]
          have : PM.read D (ks.take i ++ [k]) = PM.read D (ks.take i) := by
            unfold PM.read
            rw [List.filter_append, List.filter_cons_of_neg (by simp [nz]), List.filter_nil, List.append_nil]
          rw [this]
          exact hy
    · obtain ⟨s3, hy⟩ := hP
      have ek : PM.read D (ks.take (bs.map V.ref).length) = canon ts := by
        rw [List.length_map, ← hb.length, List.take_length]
        exact PM.read_canon hn he hp (hs.imp fun h => lex_lt.mp h)
      rw [ek] at hy
      intro p hp2
      have e3 : Ext H H3 := e2.trans s3
      exact q p _ (e3.new hp2) ⟨ys, upd_same, (ext_upd hp2).termsT hy⟩ (e3.free hp2)
/-- hands back a new tuple of the terms ts -/
def NewP (H : Hp) (Q : VK) (ts : List Trm) : Prop := ∀ p H', Ext H H' → PolyT H' p ts → H p = none → Q (.ref p) H'
/-- a list or a tuple of terms comes in -/
def spPoly (T : Top K mg) : Sp := fun vs H Q _ => ∃ (a : Addr) (xs : List V) (ts : List Trm), vs = [.ref a] ∧ (SqL K H a xs ∨ SqT K H a xs) ∧ Terms K H xs ts ∧ ts.length < 1000000 ∧ Tg T H ∧ NewP H Q (canon ts)
theorem gather_len (ts : List Trm) : (gather ts).length ≤ ts.length := by
  have := PM.length_gather_go ts []
  simpa [gather] using this
theorem gather_snoc (ts : List Trm) (t : Trm) : gather (ts ++ [t]) = addTo (gather ts) t := by
  unfold gather
  rw [List.foldl_append]
  rfl
theorem ok_polynomial (T : Top K mg) (B : Tb T base) : FnOk P w K mg base CX0 3 T.f_polynomial T.d_polynomial ["terms"] (spPoly T) := by
  refine T.F_polynomial.ok sc_polynomial (fun vs H Q E h => ?_) (fun cdv A outer s H vs Q E hr h => ?_)
  · obtain ⟨a, xs, ts, rfl, _⟩ := h
    rfl
  · obtain ⟨a, xs, ts, rfl, ha, hts, hlen, G, q⟩ := h
    refine ⟨_, (pss_cons (ps_set (i := 1) sc_polynomial.nd rfl (by first | exact .inl rfl | exact .inr rfl) pe_dnewT)
      (pss_cons (ps_for PassesOwn.never rfl (pi_seq (pv 0)) (pg_tup rfl (pgs_cons (pg_tup rfl (pgs_cons (pg_name (i := 2) sc_polynomial.nd rfl (by first | exact .inl rfl | exact .inr rfl)) (pgs_cons (pg_name (i := 3) sc_polynomial.nd rfl (by first | exact .inl rfl | exact .inr rfl)) pgs_nil))) (pgs_cons (pg_name (i := 4) sc_polynomial.nd rfl (by first | exact .inl rfl | exact .inr rfl)) pgs_nil))) (pss_one (ps_dput (hu_of hr) (pv 1) (pe_tup (pa_cons (pv 2) (pa_cons (pv 3) pa_nil))) (pe_op op_add (pe_dget2 (hu_of hr) (pv 1) (pe_tup (pa_cons (pv 2) (pa_cons (pv 3) pa_nil))) pe_int ⟨rfl, rfl, rfl, rfl⟩) (pv 4)) rfl)))
      (pss_one (ps_ret (pe_call (ok_in_order T B) (hr.mono (by decide)) (by rfl) T.g_in_order T.F_in_order.kp T.b_in_order .nil pass0 (pa_cons (pv 1) pa_nil)))))), ?_⟩
    intro d hd
    have e1 : Ext H (upd H d (.dT [])) := ext_upd hd
    have hxl := hts.length
    refine ⟨_, rfl, a, rfl, for_seq (xs := xs) ha (fun i σ H1 => (∃ x y z, σ = [some (.ref a), some (.ref d), x, y, z]) ∧ Ext H H1 ∧ H1 d = some (.dT (kvsOf (gather (ts.take i))))) ⟨⟨_, _, _, rfl⟩, e1, upd_same⟩ (fun i σ H1 _ h => h.2.1) (fun i x σ H1 hi hP => ?_) (fun σ H1 hP => ?_)⟩
    · obtain ⟨⟨x1, x2, x3, rfl⟩, s1, hd1⟩ := hP
      obtain ⟨t, ht, a1, b1, rfl, h1, h2⟩ := paired_at hts hi
      refine ⟨a1, _, rfl, s1.tup h1, rfl, _, _, rfl, ?_⟩
      refine ⟨b1, _, rfl, s1.tup h2, rfl, _, _, rfl, _, _, rfl, rfl, _, _, rfl, rfl, ?_⟩
      refine ⟨_, rfl, d, rfl, .inr ⟨_, .inl hd1⟩, _, rfl, _, rfl, sl2, fun p hp => ?_⟩
      have hd2 : upd H1 p (.tup [.int t.1.1, .int t.1.2]) d = some (.dT (kvsOf (gather (ts.take i)))) := (ext_upd hp).dt hd1
      refine ⟨_, DGet.t hd2 (k := pairKey t.1) upd_same, _, rfl, look (gather (ts.take i)) t.1, t.2, getD_kvs _ _, rfl, ?_⟩
      refine ⟨_, rfl, _, rfl, _, rfl, sl2, fun p2 hp2 => ⟨d, _, rfl, DPut.t ((ext_upd hp2).dt hd2) (k := pairKey t.1) upd_same ?_, ?_⟩⟩
      · have l1 := gather_len (ts.take i)
        have l2 : (ts.take i).length ≤ ts.length := by rw [List.length_take]; omega
        rw [length_kvs]
        exact sl_lt (by omega)
      · refine ⟨⟨_, _, _, rfl⟩, ((s1.new hp).new hp2).own hd, ?_⟩
        rw [upd_same, put_kvs, take_snoc ht, gather_snoc]
        rfl
    · obtain ⟨⟨x1, x2, x3, rfl⟩, s1, hd1⟩ := hP
      have l1 := gather_len ts
      rw [hxl, List.take_length] at hd1
      refine ⟨_, rfl, d, gather ts, ts, rfl, hd1, PM.gather_nodup ts, PM.gather_eqv ts, by omega, G.ext s1, fun p H2 s2 hp h0 => q p H2 (s1.trans s2) hp (s1.free h0)⟩
/-- two polynomials come in -/
def spPlus (T : Top K mg) (f : List Trm → List Trm → List Trm) : Sp := fun vs H Q _ => ∃ (a b : Addr) (p q : List Trm), vs = [.ref a, .ref b] ∧ PolyAt K H a p ∧ PolyAt K H b q ∧ p.length + q.length < 1000000 ∧ Tg T H ∧ NewP H Q (canon (f p q))
theorem terms_app {H : Hp} {xs ys : List V} {p q : List Trm} (h : Terms K H xs p) (k : Terms K H ys q) : Terms K H (xs ++ ys) (p ++ q) := paired_app h k
theorem terms_nil {H : Hp} {p : List Trm} (h : Terms K H [] p) : p = [] := by
  cases h
  rfl
theorem terms_nil' {H : Hp} {xs : List V} (h : Terms K H xs []) : xs = [] := by
  cases h
  rfl
/-- p + q as an argument of polynomial -/
theorem cat_poly (T : Top K mg) {H : Hp} {Q : VK} {E : XK} {a b : Addr} {xs ys : List V} {p q : List Trm} (h1 : SqT K H a xs) (h2 : Terms K H xs p) (k1 : SqT K H b ys) (k2 : Terms K H ys q) (hl : p.length + q.length < 1000000) (G : Tg T H) (r : NewP H Q (canon (p ++ q))) :
    rCatA K (.ref a) (.ref b) H fun v H1 => spPoly (K := K) T [v] H1 Q E := by
  have l1 := h2.length
  have l2 := k2.length
  refine ⟨a, b, xs, ys, rfl, rfl, h1, k1, sl_of (by omega), fun e => ?_, fun e1 e2 => ?_, fun e1 e2 c hc => ?_⟩
  · subst e
    have := terms_nil h2
    subst this
    exact ⟨b, ys, q, rfl, .inr k1, k2, by omega, G, r⟩
  · subst e2
    have := terms_nil k2
    subst this
    rw [List.append_nil] at r
    exact ⟨a, xs, p, rfl, .inr h1, h2, by omega, G, r⟩
  · have e := ext_upd (o := .tup (xs ++ ys)) hc
    exact ⟨c, xs ++ ys, p ++ q, rfl, .inr (SqT.of upd_same), e.terms (terms_app h2 k2), by rw [List.length_append]; omega, G.ext e, fun p2 H2 s2 h n => r p2 H2 (e.trans s2) h (e.free n)⟩
theorem ok_plus (T : Top K mg) (B : Tb T base) : FnOk P w K mg base CX0 4 T.f_plus T.d_plus ["p", "q"] (spPlus T (· ++ ·)) := by
  refine T.F_plus.ok sc_plus (fun vs H Q E h => ?_) (fun cdv A outer s H vs Q E hr h => ?_)
  · obtain ⟨a, b, p, q, rfl, _⟩ := h
    rfl
  · obtain ⟨a, b, p, q, rfl, ⟨xs, h1, h2⟩, ⟨ys, k1, k2⟩, hl, G, r⟩ := h
    refine ⟨_, (pss_one (ps_ret (pe_call (ok_polynomial T B) (hr.mono (by decide)) (by rfl) T.g_polynomial T.F_polynomial.kp T.b_polynomial .nil pass0 (pa_cons (pe_op op_catA (pv 0) (pv 1)) pa_nil)))), ?_⟩
    exact ⟨_, rfl, _, rfl, cat_poly (E := E) T h1 h2 k1 k2 hl G r⟩
def mid (z : Int) : Prop := z.natAbs < 2 ^ 1900
theorem mid_mul {x y : Int} (hx : mid x) (hy : mid y) : CMulW x y := wide_mul hx hy (by decide) (by decide) (by decide)
/-- two polynomials of no more than a million products -/
def spTimes (T : Top K mg) : Sp := fun vs H Q _ => ∃ (a b : Addr) (p q : List Trm), vs = [.ref a, .ref b] ∧ PolyAt K H a p ∧ PolyAt K H b q ∧ p.length * q.length < 1000000 ∧ (∀ t ∈ p, mid t.2) ∧ (∀ t ∈ q, mid t.2) ∧ Tg T H ∧ NewP H Q (canon (mulT p q))
def rowT (x : Trm) (q : List Trm) : List Trm := q.map fun y => (addE x.1 y.1, x.2 * y.2)
theorem mul_snoc (p q : List Trm) (x : Trm) : mulT (p ++ [x]) q = mulT p q ++ rowT x q := by
  unfold mulT rowT
  rw [List.flatMap_append]
  simp
theorem len_part (p q : List Trm) (i j : Nat) (x : Trm) (hi : p[i]? = some x) : (mulT (p.take i) q ++ rowT x (q.take j)).length ≤ p.length * q.length := by
  have h : i < p.length := (List.getElem?_eq_some_iff.mp hi).1
  unfold rowT
  rw [List.length_append, PM.length_mul, List.length_map, List.length_take, List.length_take]
  have h1 : min i p.length = i := by omega
  rw [h1]
  have h2 : (i + 1) * q.length ≤ p.length * q.length := Nat.mul_le_mul_right _ h
  rw [Nat.add_mul, Nat.one_mul] at h2
  omega
theorem ok_times (T : Top K mg) (B : Tb T base) : FnOk P w K mg base CX0 3 T.f_times T.d_times ["p", "q"] (spTimes T) := by
  refine T.F_times.ok sc_times (fun vs H Q E h => ?_) (fun cdv A outer s H vs Q E hr h => ?_)
  · obtain ⟨a, b, p, q, rfl, _⟩ := h
    rfl
  · obtain ⟨a, b, p, q, rfl, ⟨xs, h1, h2⟩, ⟨ys, k1, k2⟩, hl, hmp, hmq, G, r⟩ := h
    refine ⟨_, (pss_cons (ps_set (i := 2) sc_times.nd rfl (by first | exact .inl rfl | exact .inr rfl) pe_dnewT)
      (pss_cons (ps_for PassesOwn.never rfl (pi_tup (pv 0)) (pg_tup rfl (pgs_cons (pg_tup rfl (pgs_cons (pg_name (i := 3) sc_times.nd rfl (by first | exact .inl rfl | exact .inr rfl)) (pgs_cons (pg_name (i := 4) sc_times.nd rfl (by first | exact .inl rfl | exact .inr rfl)) pgs_nil))) (pgs_cons (pg_name (i := 5) sc_times.nd rfl (by first | exact .inl rfl | exact .inr rfl)) pgs_nil))) (pss_one (ps_for PassesOwn.never rfl (pi_tup (pv 1)) (pg_tup rfl (pgs_cons (pg_tup rfl (pgs_cons (pg_name (i := 6) sc_times.nd rfl (by first | exact .inl rfl | exact .inr rfl)) (pgs_cons (pg_name (i := 7) sc_times.nd rfl (by first | exact .inl rfl | exact .inr rfl)) pgs_nil))) (pgs_cons (pg_name (i := 8) sc_times.nd rfl (by first | exact .inl rfl | exact .inr rfl)) pgs_nil))) (pss_cons (ps_set (i := 9) sc_times.nd rfl (by first | exact .inl rfl | exact .inr rfl) (pe_tup (pa_cons (pe_op op_add (pv 3) (pv 6)) (pa_cons (pe_op op_add (pv 4) (pv 7)) pa_nil))))
      (pss_one (ps_dput (hu_of hr) (pv 2) (pv 9) (pe_op op_add (pe_dget2 (hu_of hr) (pv 2) (pv 9) pe_int ⟨rfl, rfl, rfl, rfl⟩) (pe_op op_mulW (pv 5) (pv 8))) rfl))))))
      (pss_one (ps_ret (pe_call (ok_in_order T B) (hr.mono (by decide)) (by rfl) T.g_in_order T.F_in_order.kp T.b_in_order .nil pass0 (pa_cons (pv 2) pa_nil)))))), ?_⟩
    intro d hd
    have l1 := h2.length
    have l2 := k2.length
    refine ⟨_, rfl, a, rfl, ⟨xs, (ext_upd hd).tup h1⟩, for_tup (xs := xs) (fun i σ H1 => (∃ x1 x2 x3 x4 x5 x6 x7, σ = [some (.ref a), some (.ref b), some (.ref d), x1, x2, x3, x4, x5, x6, x7]) ∧ Ext H H1 ∧ H1 d = some (.dT (kvsOf (gather (mulT (p.take i) q)))))
      ⟨⟨_, _, _, _, _, _, _, rfl⟩, ext_upd hd, upd_same⟩ (fun i σ H1 _ h => h.2.1.tup h1) (fun i x σ H1 hi hP => ?_) (fun σ H1 hP => ?_)⟩
    · obtain ⟨⟨x1, x2, x3, x4, x5, x6, x7, rfl⟩, s1, hd1⟩ := hP
      obtain ⟨t, ht, a1, b1, rfl, g1, g2⟩ := paired_at h2 hi
      refine ⟨a1, _, rfl, s1.tup g1, rfl, _, _, rfl, ?_⟩
      refine ⟨b1, _, rfl, s1.tup g2, rfl, _, _, rfl, _, _, rfl, rfl, _, _, rfl, rfl, ?_⟩
      have ep : mulT (p.take (i + 1)) q = mulT (p.take i) q ++ rowT t q := by rw [take_snoc ht, mul_snoc]
      refine ⟨_, rfl, b, rfl, ⟨ys, s1.tup k1⟩, for_tup (xs := ys) (fun j σ H2 => (∃ y1 y2 y3 y4, σ = [some (.ref a), some (.ref b), some (.ref d), some (.int t.1.1), some (.int t.1.2), some (.int t.2), y1, y2, y3, y4]) ∧ Ext H H2 ∧ H2 d = some (.dT (kvsOf (gather (mulT (p.take i) q ++ rowT t (q.take j))))))
        ⟨⟨_, _, _, _, rfl⟩, s1, by rw [List.take_zero, show rowT t [] = [] from rfl, List.append_nil]; exact hd1⟩ (fun j σ H2 _ h => h.2.1.tup k1) (fun j y σ H2 hj hP2 => ?_) (fun σ H2 hP2 => ?_)⟩
      · obtain ⟨⟨y1, y2, y3, y4, rfl⟩, s2, hd2⟩ := hP2
        obtain ⟨u, hu, c1, e1, rfl, m1, m2⟩ := paired_at k2 hj
        refine ⟨c1, _, rfl, s2.tup m1, rfl, _, _, rfl, ?_⟩
        refine ⟨e1, _, rfl, s2.tup m2, rfl, _, _, rfl, _, _, rfl, rfl, _, _, rfl, rfl, ?_⟩
        have mt := mid_mul (hmp t (List.mem_of_getElem? ht)) (hmq u (List.mem_of_getElem? hu))
        refine ⟨_, rfl, _, rfl, _, _, rfl, rfl, _, rfl, _, rfl, _, _, rfl, rfl, sl2, fun p2 hp2 => ?_⟩
        have hd3 := (ext_upd (o := .tup [.int (t.1.1 + u.1.1), .int (t.1.2 + u.1.2)]) hp2).dt hd2
        refine ⟨_, rfl, d, rfl, .inr ⟨_, .inl hd3⟩, _, rfl, _, DGet.t hd3 (k := pairKey (addE t.1 u.1)) upd_same, _, rfl, _, rfl, _, _, rfl, rfl, mt, ?_⟩
        refine ⟨look (gather (mulT (p.take i) q ++ rowT t (q.take j))) (addE t.1 u.1), t.2 * u.2, getD_kvs _ _, rfl, ?_⟩
        refine ⟨_, rfl, _, rfl, d, _, rfl, DPut.t hd3 (k := pairKey (addE t.1 u.1)) upd_same ?_, ?_⟩
        · have l3 := gather_len (mulT (p.take i) q ++ rowT t (q.take j))
          have l4 := len_part p q i j t ht
          rw [length_kvs]
          exact sl_lt (by omega)
        · refine ⟨⟨_, _, _, _, rfl⟩, (s2.new hp2).own hd, ?_⟩
          rw [upd_same, put_kvs, take_snoc hu]
          have e9 : rowT t (q.take j ++ [u]) = rowT t (q.take j) ++ [(addE t.1 u.1, t.2 * u.2)] := by
            unfold rowT
            rw [List.map_append]
            rfl
          rw [e9, ← List.append_assoc, gather_snoc]
          rfl
      · obtain ⟨⟨y1, y2, y3, y4, rfl⟩, s2, hd2⟩ := hP2
        refine ⟨⟨_, _, _, _, _, _, _, rfl⟩, s2, ?_⟩
        rw [l2, List.take_length] at hd2
        rw [ep]
        exact hd2
    · obtain ⟨⟨x1, x2, x3, x4, x5, x6, x7, rfl⟩, s1, hd1⟩ := hP
      rw [l1, List.take_length] at hd1
      have l3 := gather_len (mulT p q)
      rw [PM.length_mul] at l3
      exact ⟨_, rfl, d, gather (mulT p q), mulT p q, rfl, hd1, PM.gather_nodup _, PM.gather_eqv _, by omega, G.ext s1, fun p2 H2 s2 hp h0 => r p2 H2 (s1.trans s2) hp (s1.free h0)⟩
/-! ### the law's cell of the script -/
def cellZ (ns : List Int) (k : Nat) : Int := ns.getD k 0
def spCellZ (K : PySem.W.Frag) : Sp := fun vs H Q _ => ∃ (l : Addr) (ns : List Int) (k : Nat), vs = [.ref l, .int (k : Int)] ∧ SqL K H l (ns.map V.int) ∧ Q (.int (cellZ ns k)) H
theorem ok_law_cell (T : Top K mg) : FnOk P w K mg base CX0 1 T.f_law_cell T.d_law_cell ["script", "k"] (spCellZ K) := by
  refine T.F_law_cell.ok sc_law_cell (fun vs H Q E h => ?_) (fun cdv A outer s H vs Q E hr h => ?_)
  · obtain ⟨l, ns, k, rfl, _⟩ := h
    rfl
  · obtain ⟨l, ns, k, rfl, hS, q⟩ := h
    refine ⟨_, (pss_cons (ps_if (pt_cmpR op_lt (pv 1) (pe_callB call_len_seq (by rfl) T.m_len (by decide +kernel) (pa_cons (pv 0) pa_nil)) (nomark _)) (pss_one (ps_ret (pe_callTy call_int1 (by rfl) T.m_int (by decide +kernel) (pa_cons (pe_ix ix_list (pv 0) (pv 1) (fun _ _ => rfl)) pa_nil)))) pss_nil)
      (pss_one (ps_ret pe_int))), ?_⟩
    refine ⟨_, rfl, _, rfl, l, _, rfl, .inl hS, _, _, rfl, rfl, _, rfl, ?_⟩
    refine ite2 (fun e => ?_) (fun e => ?_)
    · have hk : k < ns.length := by
        have := of_decide_eq_true e
        rw [List.length_map] at this
        omega
      refine ⟨_, rfl, _, rfl, l, _, _, .int ns[k], rfl, rfl, hS, ?_, .inl ⟨_, rfl, ?_⟩⟩
      · refine atI_nat ?_
        rw [List.getElem?_map, List.getElem?_eq_getElem hk]
        rfl
      · have : cellZ ns k = ns[k] := by
          unfold cellZ
          rw [List.getD_eq_getElem?_getD, List.getElem?_eq_getElem hk]
          rfl
        rw [← this]
        exact q
    · have hk : ¬ k < ns.length := fun z => e (by
        refine decide_eq_true ?_
        rw [List.length_map]
        omega)
      have : cellZ ns k = 0 := by
        unfold cellZ
        rw [List.getD_eq_getElem?_getD, List.getElem?_eq_none (by omega)]
        rfl
      show Q (.int 0) H
      rw [← this]
      exact q
/-! ### data that stands in the heap -/
mutual
theorem dp_same {K : PySem.W.Frag} {H H' : Hp} (s : Same H H') : ∀ {v : V} {d : PyData}, Dp K H v d → Dp K H' v d
  | _, _, .non => .non
  | _, _, .bl b => .bl b
  | _, _, .int i => .int i
  | _, _, .str x => .str x
  | _, _, .lst h t => .lst (s.seq h) (dpAll_same s t)
  | _, _, .tup h t => .tup (s.tup h) (dpAll_same s t)
theorem dpAll_same {K : PySem.W.Frag} {H H' : Hp} (s : Same H H') : ∀ {vs : List V} {ds : List PyData}, DpAll K H vs ds → DpAll K H' vs ds
  | _, _, .nil => .nil
  | _, _, .cons h t => .cons (dp_same s h) (dpAll_same s t)
end
theorem dpAll_len {K : PySem.W.Frag} {H : Hp} : ∀ {vs : List V} {ds : List PyData}, DpAll K H vs ds → vs.length = ds.length
  | _, _, .nil => rfl
  | _, _, .cons _ t => congrArg (· + 1) (dpAll_len t)
theorem dpAll_get {K : PySem.W.Frag} {H : Hp} : ∀ {vs : List V} {ds : List PyData} {i : Nat} {v : V}, DpAll K H vs ds → vs[i]? = some v → ∃ d, ds[i]? = some d ∧ d ∈ ds ∧ Dp K H v d
  | _, _, i, v, .nil, h => by simp at h
  | _, d :: ds, 0, v, .cons a t, h => by
    simp only [List.getElem?_cons_zero, Option.some.injEq] at h
    subst h
    exact ⟨d, rfl, List.mem_cons_self, a⟩
  | _, d :: ds, i + 1, v, .cons a t, h => by
    simp only [List.getElem?_cons_succ] at h
    obtain ⟨e, h1, h2, h3⟩ := dpAll_get t h
    exact ⟨e, by simpa using h1, List.mem_cons_of_mem _ h2, h3⟩
theorem dpAll_of {α : Type} {K : PySem.W.Frag} {H : Hp} {f : α → PyData} {R : V → α → Prop} (hR : ∀ v x, R v x → Dp K H v (f x)) : ∀ {vs : List V} {xs : List α}, Paired R vs xs → DpAll K H vs (xs.map f)
  | _, _, .nil => .nil
  | _, _, .cons h t => .cons (hR _ _ h) (dpAll_of hR t)
theorem sqt_ty {K : PySem.W.Frag} {H : Hp} {a : Addr} {xs : List V} (h : SqT K H a xs) : TyX K H (.ref a) (.type "tuple") := by
  rcases h with (h | ⟨o, h⟩) | ⟨o, its, n, h, hc, _⟩
  · exact .base (.tup h)
  · exact .fTuple h
  · exact .kTuple h hc
theorem sql_ty {K : PySem.W.Frag} {H : Hp} {a : Addr} {xs : List V} (h : SqL K H a xs) : TyX K H (.ref a) (.type "list") := by
  rcases h with (h | ⟨o, h⟩) | ⟨o, its, n, h, hc, _⟩
  · exact .base (.lst h)
  · exact .base (.frz h)
  · exact .kList h hc
/-- nested tuples of ints, at most n - 1 deep -/
def tupD : Nat → PyData → Prop
  | 0, _ => False
  | _ + 1, .int _ => True
  | n + 1, .tuple ds => ds.length < 1000000 ∧ ∀ x ∈ ds, tupD n x
  | _ + 1, _ => False
def spTup (K : PySem.W.Frag) (n : Nat) : Sp := fun vs H Q _ => ∃ v d, vs = [v] ∧ Dp K H v d ∧ tupD n d ∧ ∀ H', Same H H' → Q (.bl true) H'
theorem ok_law_tuples (T : Top K mg) : ∀ n, FnOk P w K mg base CX0 (n + 1) T.f_law_tuples T.d_law_tuples ["thing"] (spTup K n)
  | 0 => T.F_law_tuples.ok sc_law_tuples (fun vs H Q E h => by obtain ⟨v, d, _, _, h, _⟩ := h; exact h.elim) (fun cdv A outer s H vs Q E hr h => by obtain ⟨v, d, _, _, h, _⟩ := h; exact h.elim)
  | n + 1 => by
    have ih := ok_law_tuples T n
    refine T.F_law_tuples.ok sc_law_tuples (fun vs H Q E h => ?_) (fun cdv A outer s H vs Q E hr h => ?_)
    · obtain ⟨v, d, rfl, _⟩ := h
      rfl
    · obtain ⟨v, d, rfl, hd, ht, q⟩ := h
      refine ⟨_, (pss_cons (ps_if (pt_val (pe_callB call_isi (by rfl) T.m_isinstance (by decide +kernel) (pa_cons (pv 0) (pa_cons (pe_bltn (v := .ty "tuple") (by rfl) T.m_tuple boot_tuple rfl) pa_nil)))) (pss_one (ps_ret (pe_callB (cr_all rfl) (by rfl) T.m_all (by decide +kernel) (pa_cons (pe_lc (own := [("part", 1)]) (g := gName 1) (tt := tYes) rfl sc_law_tuples.nd (pi_tup (pv 0)) (blkOk_by (own := [("part", 1)]) (N := n_law_tuples) (sc := defScope s_law_tuples) (by decide +kernel)) (fun _ _ _ _ _ => (pg_name (i := 1) sc_law_tuples.nd rfl (by first | exact .inl rfl | exact .inr rfl))) (fun _ _ _ _ _ => pts_nil) (fun _ _ _ _ _ => (pe_call ih hr (by rfl) T.g_law_tuples T.F_law_tuples.kp T.b_law_tuples .nil pass0 (pa_cons (pv 1) pa_nil)))) pa_nil)))) pss_nil)
      (pss_one (ps_ret (pe_and (pe_callB call_isi (by rfl) T.m_isinstance (by decide +kernel) (pa_cons (pv 0) (pa_cons (pe_bltn (v := .ty "int") (by rfl) T.m_int boot_int rfl) pa_nil))) (pe_one (pe_not (pe_callB call_isi (by rfl) T.m_isinstance (by decide +kernel) (pa_cons (pv 0) (pa_cons (pe_bltn (v := .ty "bool") (by rfl) T.m_bool boot_bool rfl) pa_nil))))))))), ?_⟩
      cases d with
      | int i =>
        cases hd
        refine ⟨_, rfl, _, _, _, _, _, rfl, .ty _, .base (.int i), kit_ty (r := false) (by decide +kernel), _, rfl, iteF ?_⟩
        refine ⟨_, rfl, _, _, _, _, _, rfl, .ty _, .base (.int i), kit_ty (r := true) (by decide +kernel), _, rfl, iteT ?_⟩
        exact ⟨_, rfl, _, _, _, _, _, rfl, .ty _, .base (.int i), kit_ty (r := false) (by decide +kernel), _, rfl, q H (Same.refl H)⟩
      | tuple ds =>
        cases hd with
        | @tup a xs _ hx hds =>
        refine ⟨_, rfl, _, _, _, _, _, rfl, .ty _, sqt_ty hx, kit_ty (r := true) (by decide +kernel), _, rfl, iteT ?_⟩
        refine ⟨_, rfl, a, rfl, ⟨_, hx⟩, fun D hD => lc_tup (xs := xs) (fun i H' => Same H H' ∧ H' D = some (.lst ((List.replicate i true).map V.bl)) ∧ i ≤ xs.length) ⟨same_upd hD, upd_same, Nat.zero_le _⟩ (fun i H' _ h => h.1.tup hx) (fun i x H' hi hP => ?_) (fun H' hP => ?_)⟩
        · obtain ⟨s1, hl, hix⟩ := hP
          obtain ⟨d, _, hm, hdx⟩ := dpAll_get hds hi
          have hil : i < xs.length := (List.getElem?_eq_some_iff.mp hi).1
          have hlen := dpAll_len hds
          have hz := ht.1
          refine ⟨rfl, _, rfl, x, d, rfl, dp_same s1 hdx, ht.2 d hm, fun H2 s2 => ⟨_, s2 _ _ hl, ?_, fun b o e => ?_, ?_, hil⟩⟩
          · rw [List.length_map, List.length_replicate]
            exact sl_lt (by omega)
          · rw [upd_ne (ne_of_none e hD)]
            exact s2 _ _ (s1 _ _ e)
          · rw [upd_same, List.replicate_succ', List.map_append]
            rfl
        · obtain ⟨s1, hl, _⟩ := hP
          refine ⟨D, List.replicate xs.length true, rfl, SqL.of hl, ?_⟩
          have e : (List.replicate xs.length true).all id = true := by
            rw [List.all_eq_true]
            intro x hx
            rw [List.eq_of_mem_replicate hx]
            rfl
          rw [e]
          exact q H' s1
      | none => exact ht.elim
      | bool b => exact ht.elim
      | str x => exact ht.elim
      | list x => exact ht.elim
      | dict x => exact ht.elim
theorem pos_lit {z : Int} {n : Nat} (h : z = ((n + 1 : Nat) : Int)) : 0 < z := by omega
def spMix : Sp := fun vs H Q _ => ∃ c k : Int, vs = [.int c, .int k] ∧ ∀ m : Int, 0 ≤ m → Q (.int m) H
theorem ok_law_mix (T : Top K mg) : FnOk P w K mg base CX0 1 T.f_law_mix T.d_law_mix ["cell", "k"] spMix := by
  refine T.F_law_mix.ok sc_law_mix (fun vs H Q E h => ?_) (fun cdv A outer s H vs Q E hr h => ?_)
  · obtain ⟨c, k, rfl, _⟩ := h
    rfl
  · obtain ⟨c, k, rfl, q⟩ := h
    refine ⟨_, (pss_cons (ps_set (i := 2) sc_law_mix.nd rfl (by first | exact .inl rfl | exact .inr rfl) (pe_op op_mod (pe_callTy call_int1 (by rfl) T.m_int (by decide +kernel) (pa_cons (pe_op op_add (pe_op op_add (pe_op op_mul (pv 0) pe_int) (pe_op op_mul (pv 1) pe_int)) pe_int) pa_nil)) pe_int))
      (pss_cons (ps_set (i := 2) sc_law_mix.nd rfl (by first | exact .inl rfl | exact .inr rfl) (pe_op op_mod (pe_callTy call_int1 (by rfl) T.m_int (by decide +kernel) (pa_cons (pe_op op_add (pe_op op_add (pe_op op_mul (pv 2) pe_int) (pe_op op_mul (pv 1) pe_int)) pe_int) pa_nil)) pe_int))
      (pss_one (ps_ret (pe_op op_fdiv (pv 2) pe_int))))), ?_⟩
    refine ⟨_, rfl, _, _, rfl, rfl, .inr ⟨by decide, by decide⟩, _, rfl, _, _, rfl, rfl, .inr ⟨by decide, by decide⟩, _, _, rfl, rfl, _, _, rfl, rfl, .inl ⟨_, rfl, _, _, rfl, rfl, pos_lit rfl, ?_⟩⟩
    refine ⟨_, rfl, _, _, rfl, rfl, .inr ⟨by decide, by decide⟩, _, rfl, _, _, rfl, rfl, .inr ⟨by decide, by decide⟩, _, _, rfl, rfl, _, _, rfl, rfl, .inl ⟨_, rfl, _, _, rfl, rfl, pos_lit rfl, ?_⟩⟩
    refine ⟨_, rfl, _, _, rfl, rfl, ⟨by decide, by decide⟩, q _ ?_⟩
    refine Int.ediv_nonneg (Int.emod_nonneg _ (by decide)) (by decide)
/-- some n numbers from 0 up to below b -/
def spRow (K : PySem.W.Frag) : Sp := fun vs H Q _ => ∃ (c b : Int) (n : Nat), vs = [.int c, .int (n : Int), .int b] ∧ n ≤ 1000 ∧ 0 < b ∧ b < 1000 ∧
  ∀ l H' (rs : List Int), Ext H H' → H l = none → H' l = some (.lst (rs.map V.int)) → rs.length = n → (∀ r ∈ rs, 0 ≤ r ∧ r < b) → Q (.ref l) H'
theorem ok_law_row (T : Top K mg) : FnOk P w K mg base CX0 2 T.f_law_row T.d_law_row ["cell", "count", "bound"] (spRow K) := by
  refine T.F_law_row.ok sc_law_row (fun vs H Q E h => ?_) (fun cdv A outer s H vs Q E hr h => ?_)
  · obtain ⟨c, b, n, rfl, _⟩ := h
    rfl
  · obtain ⟨c, b, n, rfl, hn, hb, hb2, q⟩ := h
    refine ⟨_, (pss_cons (ps_set (i := 3) sc_law_row.nd rfl (by first | exact .inl rfl | exact .inr rfl) (pe_lst pa_nil))
      (pss_cons (ps_set (i := 4) sc_law_row.nd rfl (by first | exact .inl rfl | exact .inr rfl) (pe_callB call_abs (by rfl) T.m_abs (by decide +kernel) (pa_cons (pv 0) pa_nil)))
      (pss_cons (ps_for PassesOwn.never rfl (pi_range1 (by rfl) T.m_range (pa_cons (pv 1) pa_nil)) (pg_name (i := 5) sc_law_row.nd rfl (by first | exact .inl rfl | exact .inr rfl)) (pss_one (ps_if (pt_cmpR op_ge (pe_callB call_abs (by rfl) T.m_abs (by decide +kernel) (pa_cons (pv 0) pa_nil)) pe_int (nomark _)) (pss_cons (ps_expr (pe_bm PySem.F.plainAttrs_list PySem.F.slot_list_append PySem.F.type_list_append mt_append (pv 3) (pa_cons (pe_op op_mod (pe_callTy call_int1 (by rfl) T.m_int (by decide +kernel) (pa_cons (pv 4) pa_nil)) (pv 2)) pa_nil)))
      (pss_one (ps_set (i := 4) sc_law_row.nd rfl (by first | exact .inl rfl | exact .inr rfl) (pe_op op_fdivZ (pv 4) (pv 2))))) (pss_one (ps_expr (pe_bm PySem.F.plainAttrs_list PySem.F.slot_list_append PySem.F.type_list_append mt_append (pv 3) (pa_cons (pe_op op_mod (pe_callTy call_int1 (by rfl) T.m_int (by decide +kernel) (pa_cons (pe_call (ok_law_mix T) (hr.mono (by decide)) (by rfl) T.g_law_mix T.F_law_mix.kp T.b_law_mix .nil pass0 (pa_cons (pv 0) (pa_cons (pv 5) pa_nil))) pa_nil)) (pv 2)) pa_nil)))))))
      (pss_one (ps_ret (pv 3)))))), ?_⟩
    refine ⟨by rw [sizeLine_eq]; simp, fun l hl => ?_⟩
    refine ⟨_, rfl, c, rfl, ?_⟩
    refine ⟨_, rfl, _, rfl, by omega, by omega, for_range (n := n) (fun i σ H1 => (∃ (x : Int) (y : Option V) (rs : List Int), σ = [some (.int c), some (.int (n : Int)), some (.int b), some (.ref l), some (.int x), y] ∧ Ext H H1 ∧ H1 l = some (.lst (rs.map V.int)) ∧ rs.length = i ∧ ∀ r ∈ rs, 0 ≤ r ∧ r < b))
      ⟨_, _, [], rfl, ext_upd hl, upd_same, rfl, fun r m => by simp at m⟩ (fun i σ H1 hi hP => ?_) (fun σ H1 hP => ?_)⟩
    · obtain ⟨x, y, rs, rfl, s1, hl1, hlen, hrs⟩ := hP
      have step : ∀ m : Int, ∃ rs', rs' = rs ++ [m % b] ∧ rs'.length = i + 1 ∧ ∀ r ∈ rs', 0 ≤ r ∧ r < b := fun m => ⟨_, rfl, by rw [List.length_append, hlen]; rfl, fun r hr => by
        rcases List.mem_append.mp hr with hr | hr
        · exact hrs r hr
        · rw [List.mem_singleton.mp hr]
          exact ⟨Int.emod_nonneg _ (by omega), Int.emod_lt_of_pos _ hb⟩⟩
      have cnt : (rs.map V.int).length < sizeLine := sl_lt (by rw [List.length_map]; omega)
      have app : ∀ m : Int, rs.map V.int ++ [V.int (m % b)] = (rs ++ [m % b]).map V.int := fun m => by rw [List.map_append]; rfl
      refine ⟨_, rfl, c, rfl, _, _, rfl, rfl, _, rfl, iteB (fun z => ?_) (fun z => ?_)⟩
      · refine ⟨_, rfl, .inl ⟨rfl, _, SqL.of hl1⟩, _, rfl, .inl ⟨_, rfl, _, rfl, _, _, rfl, rfl, hb, l, _, _, rfl, rfl, hl1, cnt, ?_⟩⟩
        refine ⟨_, rfl, _, rfl, _, _, rfl, rfl, ⟨by omega, ?_⟩, ?_⟩
        · refine Nat.lt_of_lt_of_le (PySem.Flt.log2_lt_of (k := 10) (by decide) ?_) (by decide)
          omega
        · obtain ⟨rs', e1, e2, e3⟩ := step x
          subst e1
          exact ⟨_, _, _, rfl, s1.own hl, by rw [upd_same, app], e2, e3⟩
      · refine ⟨_, rfl, .inl ⟨rfl, _, SqL.of hl1⟩, _, rfl, _, rfl, c, _, rfl, fun m hm => .inl ⟨_, rfl, _, rfl, _, _, rfl, rfl, hb, l, _, _, rfl, rfl, hl1, cnt, ?_⟩⟩
        obtain ⟨rs', e1, e2, e3⟩ := step m
        subst e1
        exact ⟨_, _, _, rfl, s1.own hl, by rw [upd_same, app], e2, e3⟩
    · obtain ⟨x, y, rs, rfl, s1, hl1, hlen, hrs⟩ := hP
      exact ⟨_, rfl, q l H1 rs s1 hl hl1 hlen hrs⟩
/-! ### numbers of some kind in the heap, and their sums and products -/
def IsTp (u : HO) : Prop := (∃ xs, u = .tup xs) ∨ ∃ o xs, u = .frz o (.tup xs)
/-- tuples stay -/
def Keep (H H' : Hp) : Prop := ∀ b u, H b = some u → IsTp u → H' b = some u
theorem Keep.refl (H : Hp) : Keep H H := fun _ _ e _ => e
theorem Keep.trans {H H1 H2 : Hp} (a : Keep H H1) (b : Keep H1 H2) : Keep H H2 := fun c u e n => b c u (a c u e n) n
theorem _root_.EXT.Ext.kp {H H' : Hp} (s : Ext H H') : Keep H H' := fun b u e n => s.keep b u e fun ps z => by
  subst z
  rcases n with ⟨_, z⟩ | ⟨_, _, z⟩ <;> cases z
theorem keep_upd {H : Hp} {d : Addr} {u o : HO} (h : H d = some u) (n : ¬ IsTp u) : Keep H (upd H d o) := fun b x e nx => by
  rw [upd_ne (fun z => ?_)]
  · exact e
  · rw [z, h] at e
    cases e
    exact n nx
theorem keep_new {H : Hp} {d : Addr} {o : HO} (h : H d = none) : Keep H (upd H d o) := (ext_upd h).kp
theorem ntp_dk {kvs : List (Key × V)} : ¬ IsTp (.dK kvs) := fun h => by rcases h with ⟨_, z⟩ | ⟨_, _, z⟩ <;> cases z
theorem ntp_lst {xs : List V} : ¬ IsTp (.lst xs) := fun h => by rcases h with ⟨_, z⟩ | ⟨_, _, z⟩ <;> cases z
theorem ntp_frk {o : Obj} {kvs : List (Key × V)} : ¬ IsTp (.frz o (.dK kvs)) := fun h => by rcases h with ⟨_, z⟩ | ⟨_, _, z⟩ <;> cases z
theorem Keep.tup {H H' : Hp} (s : Keep H H') {a : Addr} {xs : List V} (h : SqT K H a xs) : SqT K H' a xs := by
  rcases h with (h | ⟨o, h⟩) | h
  · exact .inl (.inl (s _ _ h (.inl ⟨_, rfl⟩)))
  · exact .inl (.inr ⟨o, s _ _ h (.inr ⟨_, _, rfl⟩)⟩)
  · exact .inr h
/-- a lock is let go -/
theorem ext_unlock {H H' : Hp} {d : Addr} {u : HO} {o : Obj} (h : H d = some u) (n : ∀ ps, u ≠ .tbl ps) (s : Ext (upd H d (.frz o u)) H') : Ext H (upd H' d u) := by
  refine ⟨fun b x e nx => ?_, fun b ps e => ?_⟩
  · by_cases z : b = d
    · rw [z, h] at e
      cases e
      rw [z, upd_same]
    · rw [upd_ne z]
      exact s.keep b x (by rw [upd_ne z]; exact e) nx
  · have z : b ≠ d := fun z => by
      rw [z, h] at e
      cases e
      exact n _ rfl
    obtain ⟨qs, g1, g2⟩ := s.tabs b ps (by rw [upd_ne z]; exact e)
    exact ⟨qs, by rw [upd_ne z]; exact g1, g2⟩
/-- a kind of numbers: how they stand, how large they are behind some steps -/
structure Ar (K : PySem.W.Frag) (α : Type) where
  S : MT.Sr α
  Val : Hp → V → α → Prop
  keep : ∀ {H H' : Hp} {v : V} {x : α}, Keep H H' → Val H v x → Val H' v x
  Sz : Nat → Nat → α → Prop
  sz_le : ∀ {i X Y : Nat} {x : α}, X ≤ Y → Sz i X x → Sz i Y x
  sz_add : ∀ {i X Y : Nat} {x y : α}, Sz i X x → Sz i Y y → Sz i (X + Y) (S.add x y)
  sz_mul : ∀ {i X Y : Nat} {x y : α}, Sz i X x → Sz 1 Y y → Sz (i + 1) (X * Y) (S.mul x y)
  sz_zero : ∀ i, Sz i 0 S.zero
section
variable {α : Type} (A : Ar K α) (G : Hp → Prop)
def spA : Sp := fun vs H Q _ => ∃ (v1 v2 : V) (x y : α) (i X Y : Nat), vs = [v1, v2] ∧ A.Val H v1 x ∧ A.Val H v2 y ∧ A.Sz i X x ∧ A.Sz i Y y ∧ i ≤ 20 ∧ X + Y ≤ 2 ^ 1000 ∧ G H ∧ ∀ v H', Ext H H' → A.Val H' v (A.S.add x y) → Q v H'
def spM : Sp := fun vs H Q _ => ∃ (v1 v2 : V) (x y : α) (i X Y : Nat), vs = [v1, v2] ∧ A.Val H v1 x ∧ A.Val H v2 y ∧ A.Sz i X x ∧ A.Sz 1 Y y ∧ i ≤ 20 ∧ X ≤ 2 ^ 1000 ∧ Y ≤ 2 ^ 1000 ∧ G H ∧ ∀ v H', Ext H H' → A.Val H' v (A.S.mul x y) → Q v H'
/-- an entry of a dict -/
def KvA (H : Hp) (kv : Key × V) (e : Nat × α) : Prop := kv.1 = Sum.inl ((e.1 : Nat) : Int) ∧ A.Val H kv.2 e.2
def KvsA (H : Hp) (kvs : List (Key × V)) (l : List (Nat × α)) : Prop := Paired (KvA A H) kvs l
variable {A G}
theorem KvsA.kp {H H' : Hp} (s : Keep H H') {kvs : List (Key × V)} {l : List (Nat × α)} (h : KvsA A H kvs l) : KvsA A H' kvs l := paired_imp (fun _ _ ⟨a, b⟩ => ⟨a, A.keep s b⟩) h
theorem inl_inj {a b : Nat} (h : (Sum.inl ((a : Nat) : Int) : Key) = Sum.inl ((b : Nat) : Int)) : a = b := by
  have := Sum.inl.inj h
  omega
theorem kvs_get {H : Hp} {zv : V} (hz : A.Val H zv A.S.zero) (m : Nat) : ∀ {kvs : List (Key × V)} {l : List (Nat × α)}, KvsA A H kvs l → A.Val H ((valV kvs (Sum.inl ((m : Nat) : Int))).getD zv) (MT.getA A.S l m)
  | _, _, .nil => hz
  | _, _, .cons (a := kv) (b := e) ⟨h1, h2⟩ t => by
    obtain ⟨k, v⟩ := kv
    have h1 : k = Sum.inl ((e.1 : Nat) : Int) := h1
    subst h1
    rw [MT.get_cons]
    by_cases z : e.1 = m
    · rw [if_pos z, valV_pos (by rw [z])]
      exact h2
    · rw [if_neg z, valV_neg (fun q => z (inl_inj q))]
      exact kvs_get hz m t
theorem kvs_val {H : Hp} {m : Nat} : ∀ {kvs : List (Key × V)} {l : List (Nat × α)}, KvsA A H kvs l → m ∈ MT.keysA l → ∃ v, valV kvs (Sum.inl ((m : Nat) : Int)) = some v ∧ A.Val H v (MT.getA A.S l m)
  | _, _, .nil, h => by cases h
  | _, _, .cons (a := kv) (b := e) (l₁ := kvs) (l₂ := l) ⟨h1, h2⟩ t, h => by
    obtain ⟨k, v⟩ := kv
    have h1 : k = Sum.inl ((e.1 : Nat) : Int) := h1
    subst h1
    rw [MT.get_cons]
    by_cases z : e.1 = m
    · rw [if_pos z, valV_pos (by rw [z])]
      exact ⟨_, rfl, h2⟩
    · rw [if_neg z, valV_neg (fun q => z (inl_inj q))]
      refine kvs_val t ?_
      rcases List.mem_cons.mp (show m ∈ e.1 :: MT.keysA l from h) with q | q
      · exact absurd q.symm z
      · exact q
theorem any_kvs {H : Hp} (m : Nat) : ∀ {kvs : List (Key × V)} {l : List (Nat × α)}, KvsA A H kvs l → (kvs.any fun kv => decide (kv.1 = Sum.inl ((m : Nat) : Int))) = l.any fun p => decide (p.1 = m)
  | _, _, .nil => rfl
  | _, _, .cons (a := kv) (b := e) ⟨h1, h2⟩ t => by
    rw [List.any_cons, List.any_cons, any_kvs m t]
    congr 1
    refine decide_eq_decide.mpr ?_
    have h1 : kv.1 = Sum.inl ((e.1 : Nat) : Int) := h1
    rw [h1]
    exact ⟨fun z => inl_inj z, fun z => by rw [z]⟩
theorem map_kvs {H : Hp} {m : Nat} {v : V} {x : α} (hv : A.Val H v x) : ∀ {kvs : List (Key × V)} {l : List (Nat × α)}, KvsA A H kvs l → KvsA A H (kvs.map fun kv => if kv.1 = Sum.inl ((m : Nat) : Int) then (kv.1, v) else kv) (l.map fun p => if p.1 = m then (p.1, x) else p)
  | _, _, .nil => .nil
  | _, _, .cons (a := kv) (b := e) ⟨h1, h2⟩ t => by
    refine .cons ?_ (map_kvs hv t)
    have h1 : kv.1 = Sum.inl ((e.1 : Nat) : Int) := h1
    dsimp only
    by_cases z : e.1 = m
    · rw [if_pos z, if_pos (by rw [h1, z])]
      exact ⟨h1, hv⟩
    · rw [if_neg z, if_neg (fun q => z (inl_inj (h1.symm.trans q)))]
      exact ⟨h1, h2⟩
theorem kvs_put {H : Hp} {m : Nat} {v : V} {x : α} (hv : A.Val H v x) {kvs : List (Key × V)} {l : List (Nat × α)} (h : KvsA A H kvs l) : KvsA A H (putK kvs (Sum.inl ((m : Nat) : Int)) v) (MT.putA l m x) := by
  unfold putK MT.putA
  rw [any_kvs m h]
  by_cases z : (l.any fun p => decide (p.1 = m)) = true
  · rw [if_pos z, if_pos z]
    have e : (kvs.map fun kv => if kv.1 = Sum.inl ((m : Nat) : Int) then (kv.1, v) else kv) = kvs.map fun kv => if kv.1 = Sum.inl ((m : Nat) : Int) then (Sum.inl ((m : Nat) : Int), v) else kv := List.map_congr_left fun kv _ => by
      by_cases q : kv.1 = Sum.inl ((m : Nat) : Int)
      · rw [if_pos q, if_pos q, q]
      · rw [if_neg q, if_neg q]
    have g := map_kvs (m := m) hv h
    first
      | exact g
      | (rw [e] at g; exact g)
  · rw [if_neg z, if_neg z]
    exact paired_snoc h ⟨rfl, hv⟩
end
section
variable {α : Type} (A : Ar K α) (G : Hp → Prop)
def RowA (H : Hp) (a : Addr) (lk : List (Nat × α)) : Prop := ∃ kvs, H a = some (.dK kvs) ∧ KvsA A H kvs lk
structure LinksA (H : Hp) (l : Addr) (ds : List Addr) (lks : List (List (Nat × α))) : Prop where
  at' : H l = some (.lst (ds.map V.ref))
  nd : ds.Nodup
  rows : Paired (RowA A H) ds lks
def EdW (H : Hp) (v : V) (e : Nat × Nat × α) : Prop := ∃ a wv, v = .ref a ∧ SqT K H a [.int ((e.1 : Nat) : Int), .int ((e.2.1 : Nat) : Int), wv] ∧ A.Val H wv e.2.2
/-- a further edge -/
def linkE (lks : List (List (Nat × α))) (e : Nat × Nat × α) : List (List (Nat × α)) := if e.1 = e.2.1 then lks else lks.set (min e.1 e.2.1) (MT.addA A.S (lks.getD (min e.1 e.2.1) []) (max e.1 e.2.1) e.2.2)
def linkS (count : Nat) (es : List (Nat × Nat × α)) : List (List (Nat × α)) := es.foldl (linkE A) (List.replicate count [])
theorem linkS_snoc (count : Nat) (es : List (Nat × Nat × α)) (e : Nat × Nat × α) : linkS A count (es ++ [e]) = linkE A (linkS A count es) e := by
  unfold linkS
  rw [List.foldl_append]
  rfl
theorem linkE_len (lks : List (List (Nat × α))) (e : Nat × Nat × α) : (linkE A lks e).length = lks.length := by
  unfold linkE
  split
  · rfl
  · rw [List.length_set]
/-- what the rows are -/
structure RowOk (count v X m : Nat) (lk : List (Nat × α)) : Prop where
  bnd : MT.LkOk v count lk
  nd : (MT.keysA lk).Nodup
  sz : ∀ p ∈ lk, A.Sz 1 X p.2
  len : lk.length ≤ m
variable {A G}
theorem get_sz {i X m : Nat} {lk : List (Nat × α)} (h : ∀ p ∈ lk, A.Sz i X p.2) : A.Sz i X (MT.getA A.S lk m) := by
  induction lk with
  | nil => exact A.sz_le (Nat.zero_le _) (A.sz_zero i)
  | cons p t ih =>
    rw [MT.get_cons]
    split
    · exact h p (List.mem_cons_self ..)
    · exact ih fun q hq => h q (List.mem_cons_of_mem _ hq)
theorem mem_put {lk : List (Nat × α)} {m : Nat} {x : α} {p : Nat × α} (h : p ∈ MT.putA lk m x) : p = (m, x) ∨ p ∈ lk := by
  unfold MT.putA at h
  split at h
  · obtain ⟨q, hq, e⟩ := List.mem_map.mp h
    split at e
    · rename_i z
      rw [← e, z]
      exact .inl rfl
    · rw [← e]
      exact .inr hq
  · rcases List.mem_append.mp h with h | h
    · exact .inr h
    · exact .inl (List.mem_singleton.mp h)
theorem put_len (lk : List (Nat × α)) (m : Nat) (x : α) : (MT.putA lk m x).length ≤ lk.length + 1 := by
  unfold MT.putA
  split
  · rw [List.length_map]
    omega
  · rw [List.length_append]
    exact Nat.le_refl _
theorem RowOk.put {count v X Y m b : Nat} {lk : List (Nat × α)} {w : α} (h : RowOk A count v X m lk) (hb : v < b) (hc : b < count) (hw : A.Sz 1 Y w) : RowOk A count v (X + Y) (m + 1) (MT.addA A.S lk b w) := by
  refine ⟨fun p hp => ?_, MT.nodup_put h.nd _ _, fun p hp => ?_, Nat.le_trans (put_len _ _ _) (Nat.succ_le_succ h.len)⟩
  · rcases mem_put hp with e | hp
    · rw [e]
      exact ⟨hb, hc⟩
    · exact h.bnd p hp
  · rcases mem_put hp with e | hp
    · rw [e]
      exact A.sz_add (get_sz h.sz) hw
    · exact A.sz_le (Nat.le_add_right _ _) (h.sz p hp)
theorem linkS_ok {count Y : Nat} : ∀ (j : Nat) (es : List (Nat × Nat × α)), es.length = j → (∀ e ∈ es, e.1 < count ∧ e.2.1 < count ∧ A.Sz 1 Y e.2.2) → ∀ v < count, RowOk A count v (j * Y) j ((linkS A count es).getD v [])
  | 0, es, h, _, v, hv => by
    rw [List.length_eq_zero_iff.mp h]
    have e : (linkS A count []).getD v [] = [] := by
      show (List.replicate count []).getD v [] = []
      rw [List.getD_eq_getElem?_getD, List.getElem?_replicate, if_pos hv]
      rfl
    rw [e]
    exact ⟨fun p hp => (by cases hp), List.nodup_nil, fun p hp => (by cases hp), Nat.zero_le _⟩
  | j + 1, es, h, he, v, hv => by
    have hne : es ≠ [] := fun e => by rw [e] at h; cases h
    have hd := List.dropLast_concat_getLast hne
    have ih := linkS_ok j es.dropLast (by rw [List.length_dropLast, h]; rfl) (fun e m => he e (List.dropLast_subset _ m))
    obtain ⟨e1, e2, e3⟩ := he _ (List.getLast_mem hne)
    rw [← hd, linkS_snoc, Nat.succ_mul]
    generalize es.getLast hne = e at *
    have ihv := ih v hv
    unfold linkE
    split
    · exact ⟨ihv.bnd, ihv.nd, fun p hp => A.sz_le (Nat.le_add_right _ _) (ihv.sz p hp), Nat.le_succ_of_le ihv.len⟩
    · rename_i hne2
      by_cases z : min e.1 e.2.1 = v
      · subst z
        have hl : (linkS A count es.dropLast).length = count := by
          have : ∀ (l : List (Nat × Nat × α)) (s : List (List (Nat × α))), (l.foldl (linkE A) s).length = s.length := fun l => by
            induction l with
            | nil => exact fun s => rfl
            | cons x l ih2 => exact fun s => (ih2 _).trans (linkE_len A s x)
          unfold linkS
          rw [this, List.length_replicate]
        rw [List.getD_eq_getElem?_getD, List.getElem?_set_self (by omega)]
        exact ihv.put (by omega) (by omega) e3
      · rw [List.getD_eq_getElem?_getD, List.getElem?_set_ne z, ← List.getD_eq_getElem?_getD]
        exact ⟨ihv.bnd, ihv.nd, fun p hp => A.sz_le (Nat.le_add_right _ _) (ihv.sz p hp), Nat.le_succ_of_le ihv.len⟩
theorem linkS_len (count : Nat) (es : List (Nat × Nat × α)) : (linkS A count es).length = count := by
  have : ∀ (l : List (Nat × Nat × α)) (s : List (List (Nat × α))), (l.foldl (linkE A) s).length = s.length := fun l => by
    induction l with
    | nil => exact fun s => rfl
    | cons x l ih2 => exact fun s => (ih2 _).trans (linkE_len A s x)
  unfold linkS
  rw [this, List.length_replicate]
theorem rowA_kp {H H' : Hp} (s : Ext H H') {ds : List Addr} {lks : List (List (Nat × α))} (h : Paired (RowA A H) ds lks) : Paired (RowA A H') ds lks := paired_imp (fun _ _ ⟨kvs, a, b⟩ => ⟨kvs, s.keep _ _ a (fun _ z => by cases z), b.kp s.kp⟩) h
theorem LinksA.up {H H' : Hp} (s : Ext H H') {l : Addr} {ds : List Addr} {lks : List (List (Nat × α))} (h : LinksA A H l ds lks) : LinksA A H' l ds lks := ⟨s.lst h.at', h.nd, rowA_kp s h.rows⟩
theorem rows_set {H : Hp} {kvs : List (Key × V)} {lk : List (Nat × α)} {d : Addr} : ∀ {ds : List Addr} {lks : List (List (Nat × α))} {k : Nat}, ds.Nodup → ds[k]? = some d → Paired (RowA A H) ds lks → KvsA A (upd H d (.dK kvs)) kvs lk → (∀ e u, e ≠ d → RowA A H e u → RowA A (upd H d (.dK kvs)) e u) → Paired (RowA A (upd H d (.dK kvs))) ds (lks.set k lk)
  | [], _, k, _, h, _, _, _ => by simp at h
  | d1 :: ds, _ :: lks, 0, nd, h, .cons a t, hk, up => by
    simp only [List.getElem?_cons_zero, Option.some.injEq] at h
    subst h
    refine .cons ⟨kvs, upd_same, hk⟩ ?_
    have hn := (List.nodup_cons.mp nd).1
    clear a
    induction t with
    | nil => exact .nil
    | cons x t2 ih =>
      refine .cons (up _ _ (fun z => hn (by rw [← z]; exact List.mem_cons_self ..)) x) (ih ?_ ?_)
      · have := List.nodup_cons.mp nd
        exact List.nodup_cons.mpr ⟨fun z => this.1 (List.mem_cons_of_mem _ z), (List.nodup_cons.mp this.2).2⟩
      · exact fun z => hn (List.mem_cons_of_mem _ z)
  | d1 :: ds, _ :: lks, k + 1, nd, h, .cons a t, hk, up => by
    simp only [List.getElem?_cons_succ] at h
    obtain ⟨n1, n2⟩ := List.nodup_cons.mp nd
    exact .cons (up _ _ (fun z => n1 (by rw [z]; exact List.mem_of_getElem? h)) a) (rows_set n2 h t hk up)
theorem rowA_other {H : Hp} {d e : Addr} {kvs0 kvs : List (Key × V)} {lk : List (Nat × α)} (hd : H d = some (.dK kvs0)) (n : e ≠ d) (h : RowA A H e lk) : RowA A (upd H d (.dK kvs)) e lk := by
  obtain ⟨k, a, b⟩ := h
  exact ⟨k, by rw [upd_ne n]; exact a, b.kp (keep_upd hd ntp_dk)⟩
variable (A G)
def spLinks (fS : Addr) : Sp := fun vs H Q _ => ∃ (count : Nat) (ea : Addr) (xs : List V) (es : List (Nat × Nat × α)) (zv : V), vs = [.int (count : Int), .ref ea, zv, .ref fS] ∧ SqL K H ea xs ∧ Paired (EdW A H) xs es ∧ (∀ e ∈ es, e.1 < count ∧ e.2.1 < count ∧ A.Sz 1 36 e.2.2) ∧ es.length ≤ 24 ∧ count ≤ 100 ∧ A.Val H zv A.S.zero ∧ G H ∧
  ∀ l ds H', Ext H H' → H l = none → LinksA A H' l ds (linkS A count es) → Q (.ref l) H'
theorem ok_links (T : Top K mg) (hG : ∀ {H H' : Hp}, Ext H H' → G H → G H') {fS : Addr} {dS : FuncData} {psS : List Str} (okS : FnOk P w K mg base CX0 4 fS dS psS (spA A G)) (kS : PySem.W.keepIn K (.ref fS) = true) (bS : Binds K dS psS []) :
    FnOk P w K mg base CX0 5 T.f_links T.d_links ["count", "edges", "zero", "summed"] (spLinks A G fS) := by
  refine T.F_links.ok sc_links (fun vs H Q E h => ?_) (fun cdv A' outer s H vs Q E hr h => ?_)
  · obtain ⟨count, ea, xs, es, zv, rfl, _⟩ := h
    rfl
  obtain ⟨count, ea, xs, es, zv, rfl, he, hes, hin, h24, h100, hz, g, q⟩ := h
  refine ⟨_, (pss_cons (ps_setLc (i := 4) (own := [("_", 5)]) (g := gName 5) (tt := tYes) rfl sc_links.nd rfl rfl (sw_true rfl rfl rfl (by decide +kernel)) (pi_range1 (by rfl) T.m_range (pa_cons (pv 0) pa_nil)) (blkOk_by (own := [("_", 5)]) (N := n_links) (sc := defScope s_links) (by decide +kernel)) (fun _ _ _ _ _ => (pg_name (i := 5) sc_links.nd rfl (by first | exact .inl rfl | exact .inr rfl))) (fun _ _ _ _ _ => pts_nil) (fun _ _ _ _ _ => pe_dnewK))
      (pss_cons (ps_for PassesOwn.never rfl (pi_list (pv 1)) (pg_tup rfl (pgs_cons (pg_name (i := 6) sc_links.nd rfl (by first | exact .inl rfl | exact .inr rfl)) (pgs_cons (pg_name (i := 7) sc_links.nd rfl (by first | exact .inl rfl | exact .inr rfl)) (pgs_cons (pg_name (i := 8) sc_links.nd rfl (by first | exact .inl rfl | exact .inr rfl)) pgs_nil)))) (pss_one (ps_if (pt_cmpR op_ne (pv 6) (pv 7) (nomark _)) (pss_cons (ps_set (i := 9) sc_links.nd rfl (by first | exact .inl rfl | exact .inr rfl) (pe_ix ix_list (pv 4) (pe_callB (call_min2 rfl) (by rfl) T.m_min (by decide +kernel) (pa_cons (pv 6) (pa_cons (pv 7) pa_nil))) (fun _ _ => rfl)))
      (pss_one (ps_dput (hu_of hr) (pv 9) (pe_callB (call_max2 rfl) (by rfl) T.m_max (by decide +kernel) (pa_cons (pv 6) (pa_cons (pv 7) pa_nil))) (pe_callL (i := 3) okS (hr.mono (by decide)) rfl (Or.inl rfl) kS bS .nil pass0 (pa_cons (pe_dget2 (hu_of hr) (pv 9) (pe_callB (call_max2 rfl) (by rfl) T.m_max (by decide +kernel) (pa_cons (pv 6) (pa_cons (pv 7) pa_nil))) (pv 2) ⟨rfl, rfl, rfl, rfl⟩) (pa_cons (pv 8) pa_nil))) rfl))) pss_nil)))
      (pss_one (ps_ret (pv 4))))), ?_⟩
  have lx := hes.length
  refine ⟨_, rfl, _, rfl, by omega, by omega, fun D hD => lc_range (lo := 0) (n := (count : Int).toNat) (fun i H3 => Ext H H3 ∧ ∃ ds : List Addr, H3 D = some (.lst (ds.map V.ref)) ∧ ds.Nodup ∧ ds.length = i ∧ ∀ d ∈ ds, H3 d = some (.dK []) ∧ H d = none ∧ d ≠ D) ⟨ext_upd hD, [], upd_same, List.nodup_nil, rfl, fun d hd => by cases hd⟩ (fun i H3 hi hP => ?_) (fun H3 hP => ?_)⟩
  · obtain ⟨s3, ds, hD3, nd, ld, hds⟩ := hP
    refine ⟨rfl, fun d hd => ?_⟩
    have x4 := ext_upd (o := .dK []) hd
    have nd4 : d ≠ D := fun z => by rw [z, hD3] at hd; cases hd
    refine ⟨_, x4.lst hD3, sl_lt (by rw [List.length_map]; omega), (s3.trans x4).own hD, ds ++ [d], ?_, ?_, by rw [List.length_append, ld]; rfl, fun e he2 => ?_⟩
    · rw [upd_same, List.map_append]
      rfl
    · exact List.nodup_append.mpr ⟨nd, by simp, fun x hx y hy z => by
        rw [List.mem_singleton] at hy
        have := (hds x hx).1
        rw [z, hy, hd] at this
        cases this⟩
    · rcases List.mem_append.mp he2 with he2 | he2
      · obtain ⟨a1, a2, a3⟩ := hds e he2
        exact ⟨by rw [upd_ne a3]; exact x4.keep _ _ a1 (fun _ z => by cases z), a2, a3⟩
      · rw [List.mem_singleton.mp he2]
        exact ⟨by rw [upd_ne nd4, upd_same], s3.free hd, nd4⟩
  · obtain ⟨s3, ds, hD3, nd, ld, hds⟩ := hP
    rw [Int.toNat_natCast] at ld
    have L0 : LinksA A H3 D ds (linkS A count []) := by
      refine ⟨hD3, nd, ?_⟩
      show Paired (RowA A H3) ds (List.replicate count [])
      rw [← ld]
      clear hD3 nd ld
      induction ds with
      | nil => exact .nil
      | cons d ds ih => exact .cons ⟨[], (hds d (List.mem_cons_self ..)).1, .nil⟩ (ih fun e m => hds e (List.mem_cons_of_mem _ m))
    have hnew : ∀ d ∈ ds, H d = none ∧ d ≠ D := fun d m => (hds d m).2
    have hz3 := A.keep s3.kp hz
    clear hds hD3
    refine ⟨_, rfl, ea, rfl, ⟨_, s3.seq he⟩, for_list (xs := xs) (fun i σ H4 => (∃ y6 y7 y8 y9, σ = [some (.int (count : Int)), some (.ref ea), some zv, some (.ref fS), some (.ref D), none, y6, y7, y8, y9]) ∧ Ext H H4 ∧ LinksA A H4 D ds (linkS A count (es.take i)))
      ⟨⟨none, none, none, none, rfl⟩, s3, L0⟩ (fun i σ H4 _ h => h.2.1.seq he) (fun i x σ H4 hi hP => ?_) (fun σ H4 hP => ?_)⟩
    · obtain ⟨⟨y6, y7, y8, y9, rfl⟩, s4, L⟩ := hP
      obtain ⟨⟨u, v, w0⟩, hei, a0, wv, rfl, ha0, hw0⟩ := paired_at hes hi
      obtain ⟨hu, hv, hsz⟩ := hin _ (List.mem_of_getElem? hei)
      have hu : u < count := hu
      have hv : v < count := hv
      have hw0 : A.Val H wv w0 := hw0
      have hsz : A.Sz 1 36 w0 := hsz
      have ht := take_snoc hei
      have ll := linkS_len (A := A) count (es.take i)
      have okr := fun z (hz : z < count) => linkS_ok (A := A) (count := count) (Y := 36) _ (es.take i) rfl (fun e m => hin e (List.mem_of_mem_take m)) z hz
      refine ⟨a0, _, rfl, s4.tup ha0, rfl, _, _, rfl, _, _, rfl, _, _, rfl, rfl, ?_⟩
      refine ⟨_, rfl, _, rfl, rfl, _, rfl, iteB (fun z => ?_) (fun z => ?_)⟩
      · have huv : u ≠ v := fun e => by
          rw [e] at z
          simp at z
        have emn : (if ((v : Nat) : Int) < ((u : Nat) : Int) then ((v : Nat) : Int) else ((u : Nat) : Int)) = ((min u v : Nat) : Int) := by
          split <;> omega
        have emx : (if ((v : Nat) : Int) > ((u : Nat) : Int) then ((v : Nat) : Int) else ((u : Nat) : Int)) = ((max u v : Nat) : Int) := by
          split <;> omega
        have hmn : min u v < ds.length := by omega
        obtain ⟨d, hd⟩ : ∃ d, ds[min u v]? = some d := ⟨_, List.getElem?_eq_getElem hmn⟩
        obtain ⟨lk, hlk, kvs, hdk, hkv⟩ := paired_at L.rows hd
        have elk : (linkS A count (es.take i)).getD (min u v) [] = lk := by
          rw [List.getD_eq_getElem?_getD, hlk]
          rfl
        have or := okr (min u v) (by omega)
        rw [elk] at or
        refine ⟨_, rfl, _, rfl, _, rfl, _, _, rfl, ?_⟩
        dsimp only
        rw [emn]
        refine ⟨D, _, _, .ref d, rfl, rfl, SqL.of L.at', atI_nat (by rw [List.getElem?_map, hd]; rfl), ?_⟩
        refine ⟨rfl, _, rfl, d, rfl, .inl ⟨_, .inl hdk⟩, _, rfl, _, rfl, _, _, rfl, ?_⟩
        dsimp only
        rw [emx]
        have hz4 := A.keep s4.kp hz
        refine ⟨_, rfl, _, DGet.k (k := Sum.inl ((max u v : Nat) : Int)) hdk, _, rfl, _, wv, _, w0, 1, _, _, rfl, kvs_get hz4 (max u v) hkv, A.keep s4.kp hw0, get_sz or.sz, hsz, by decide, ?_, hG s4 g, fun nv H5 s5 hnv => ?_⟩
        · have l1 : (es.take i).length ≤ 24 := by rw [List.length_take]; omega
          have : (es.take i).length * 36 + 36 ≤ 2 ^ 10 := by omega
          exact Nat.le_trans this (Nat.pow_le_pow_right (by decide) (by decide))
        refine ⟨_, rfl, _, rfl, _, rfl, _, _, rfl, ?_⟩
        dsimp only
        rw [emx]
        have hdk5 := s5.keep _ _ hdk (fun _ z => by cases z)
        have hkv5 := hkv.kp s5.kp
        have ml := List.mem_of_getElem? hd
        refine ⟨d, _, rfl, DPut.k (k := Sum.inl ((max u v : Nat) : Int)) hdk5 ?_, ⟨_, _, _, _, rfl⟩, (s4.trans s5).own (hnew d ml).1, ?_⟩
        · rw [hkv.length]
          have := or.len
          have l1 : (es.take i).length ≤ 24 := by rw [List.length_take]; omega
          exact sl_lt (by omega)
        · have L5 := L.up s5
          have kpu : Keep H5 (upd H5 d (.dK (putK kvs (Sum.inl ((max u v : Nat) : Int)) nv))) := keep_upd hdk5 ntp_dk
          refine ⟨?_, L5.nd, ?_⟩
          · rw [upd_ne (fun z => (hnew d ml).2 z.symm)]
            exact L5.at'
          · rw [ht, linkS_snoc]
            unfold linkE
            rw [if_neg huv]
            show Paired _ ds (List.set _ (min u v) (MT.addA A.S (List.getD _ (min u v) []) (max u v) w0))
            rw [elk]
            exact rows_set L5.nd hd L5.rows (kvs_put (A.keep kpu hnv) (hkv5.kp kpu)) (fun e lk' n r => rowA_other hdk5 n r)
      · have huv : u = v := by
          have : ((u : Nat) : Int) = ((v : Nat) : Int) := by
            simpa using z
          omega
        refine ⟨⟨_, _, _, _, rfl⟩, s4, ?_⟩
        rw [ht, linkS_snoc]
        unfold linkE
        rw [if_pos huv]
        exact L
    · obtain ⟨⟨y6, y7, y8, y9, rfl⟩, s4, L⟩ := hP
      rw [lx, List.take_length] at L
      exact ⟨_, rfl, q D ds H4 s4 hD L⟩
end
section
variable {α : Type} (A : Ar K α) (G : Hp → Prop)
def ChA (H : Hp) (v : V) (c : Nat × α) : Prop := ∃ a wv, v = .ref a ∧ H a = some (.tup [.int ((c.1 : Nat) : Int), wv]) ∧ A.Val H wv c.2
def Xb (v : Nat) : Nat := 2 ^ (40 * v + 10)
variable {A G}
theorem chA_kp {H H' : Hp} (s : Keep H H') {ys : List V} {cs : List (Nat × α)} (h : Paired (ChA A H) ys cs) : Paired (ChA A H') ys cs := paired_imp (fun _ _ ⟨a, wv, e, g, k⟩ => ⟨a, wv, e, s _ _ g (.inl ⟨_, rfl⟩), A.keep s k⟩) h
theorem add_sz {g : List (Nat × α)} {i c B m : Nat} {y : α} (h : ∀ p ∈ g, A.Sz i (c * B) p.2) (hy : A.Sz i B y) : ∀ p ∈ MT.addA A.S g m y, A.Sz i ((c + 1) * B) p.2 := fun p hp => by
  rw [Nat.succ_mul]
  rcases mem_put hp with e | hp
  · rw [e]
    exact A.sz_add (get_sz h) hy
  · exact A.sz_le (Nat.le_add_right _ _) (h p hp)
theorem fill_sz {x : α} {v X : Nat} (hx : A.Sz v X x) : ∀ (cs g : List (Nat × α)) (c : Nat), (∀ d ∈ cs, A.Sz 1 1024 d.2) → (∀ p ∈ g, A.Sz (v + 1) (c * (X * 1024)) p.2) → ∀ p ∈ MT.fill A.S x g cs, A.Sz (v + 1) ((c + cs.length) * (X * 1024)) p.2
  | [], g, c, _, hg, p, hp => hg p hp
  | d :: cs, g, c, hd, hg, p, hp => by
    have h1 := fill_sz hx cs _ (c + 1) (fun e m => hd e (List.mem_cons_of_mem _ m)) (add_sz (m := d.1) hg (A.sz_mul hx (hd d (List.mem_cons_self ..)))) p hp
    rw [List.length_cons]
    rw [show c + (cs.length + 1) = c + 1 + cs.length by omega]
    exact h1
theorem chs_sz {alone : α} {v m : Nat} {lk : List (Nat × α)} (h1 : A.Sz 1 1024 A.S.one) (h2 : A.Sz 1 1024 alone) (hl : ∀ p ∈ lk, A.Sz 1 1024 p.2) : ∀ c ∈ MT.chs A.S alone v m lk, A.Sz 1 1024 c.2 := fun c hc => by
  unfold MT.chs at hc
  split at hc
  · rw [List.mem_singleton.mp hc]
    exact h1
  · rcases List.mem_cons.mp hc with rfl | hc
    · exact h2
    · obtain ⟨e, he, rfl⟩ := List.mem_map.mp hc
      exact hl e (List.mem_filter.mp he).1
theorem key_len {n : Nat} {l : List Nat} (nd : l.Nodup) (h : ∀ k ∈ l, k < n) : l.length ≤ n := by
  have := List.Nodup.length_le_of_subset nd (l₂ := List.range n) fun k hk => List.mem_range.mpr (h k hk)
  rwa [List.length_range] at this
theorem pw1 (v : Nat) : (1 : Int) * 2 ^ ((v : Nat) : Int).toNat = ((2 ^ v : Nat) : Int) := by
  rw [Int.one_mul, Int.toNat_natCast, Int.natCast_pow]
  rfl
theorem xor_n (m k : Nat) : Builtin.bitXor ((m : Nat) : Int) ((k : Nat) : Int) = ((m ^^^ k : Nat) : Int) := by
  rw [Bits.bitXor_pp (Int.natCast_nonneg _) (Int.natCast_nonneg _), Int.toNat_natCast, Int.toNat_natCast]
theorem or_n (m k : Nat) : Builtin.bitOr ((m : Nat) : Int) ((k : Nat) : Int) = ((m ||| k : Nat) : Int) := by
  rw [Bits.bitOr_pp (Int.natCast_nonneg _) (Int.natCast_nonneg _), Int.toNat_natCast, Int.toNat_natCast]
theorem tbn (m v : Nat) : (Builtin.bitAnd (((m : Nat) : Int) / 2 ^ ((v : Nat) : Int).toNat) 1 != 0) = m.testBit v := by
  rw [Int.toNat_natCast]
  have h := PySem.W.kbt_mask (((m : Nat) : Int) / 2 ^ v) 1
  have e : (2 : Int) ^ 1 - 1 = 1 := by decide
  rw [e] at h
  rw [h]
  have e2 : (2 : Int) ^ 1 = 2 := by decide
  rw [e2]
  have e3 : ((m : Nat) : Int) / 2 ^ v = ((m / 2 ^ v : Nat) : Int) := by
    rw [Int.natCast_ediv, Int.natCast_pow]
    rfl
  rw [e3, Nat.testBit_eq_decide_div_mod_eq]
  by_cases z : m / 2 ^ v % 2 = 1
  · rw [decide_eq_true z]
    have : (((m / 2 ^ v : Nat) : Int) % 2) = 1 := by omega
    rw [this]
    rfl
  · rw [decide_eq_false z]
    have : (((m / 2 ^ v : Nat) : Int) % 2) = 0 := by omega
    rw [this]
    rfl
theorem kvs_at {H : Hp} {m : Nat} {v : V} : ∀ {kvs : List (Key × V)} {l : List (Nat × α)} {j : Nat}, KvsA A H kvs l → (MT.keysA l).Nodup → kvs[j]? = some (Sum.inl ((m : Nat) : Int), v) → valV kvs (Sum.inl ((m : Nat) : Int)) = some v
  | _, _, _, .nil, _, h => by simp at h
  | _, _, 0, .cons (a := kv) ⟨h1, _⟩ t, _, h => by
    simp only [List.getElem?_cons_zero, Option.some.injEq] at h
    rw [h, valV_pos rfl]
  | _, _, j + 1, .cons (a := kv) (b := e) (l₂ := l) ⟨h1, _⟩ t, nd, h => by
    simp only [List.getElem?_cons_succ] at h
    obtain ⟨n1, n2⟩ := List.nodup_cons.mp (show (e.1 :: MT.keysA l).Nodup from nd)
    obtain ⟨k, v'⟩ := kv
    have h1 : k = Sum.inl ((e.1 : Nat) : Int) := h1
    subst h1
    rw [valV_neg (fun z => ?_)]
    · exact kvs_at t n2 h
    · obtain ⟨f, hf, hk, _⟩ := paired_at t h
      have := inl_inj (z.trans hk)
      exact n1 (by rw [this]; exact List.mem_map.mpr ⟨f, List.mem_of_getElem? hf, rfl⟩)
theorem fill_len (x : α) : ∀ (cs g : List (Nat × α)), (MT.fill A.S x g cs).length ≤ g.length + cs.length
  | [], g => Nat.le_refl _
  | c :: cs, g => by
    have h1 := fill_len x cs (MT.addA A.S g c.1 (A.S.mul x c.2))
    have h2 := put_len g c.1 (A.S.add (MT.getA A.S g c.1) (A.S.mul x c.2))
    have h3 : (MT.addA A.S g c.1 (A.S.mul x c.2)).length ≤ g.length + 1 := h2
    rw [List.length_cons]
    show (MT.fill A.S x (MT.addA A.S g c.1 (A.S.mul x c.2)) cs).length ≤ _
    omega
theorem fold_len {alone : α} {v : Nat} {lk : List (Nat × α)} (h : lk.length ≤ 24) : ∀ (T g : List (Nat × α)), (T.foldl (fun g p => MT.fill A.S p.2 g (MT.chs A.S alone v p.1 lk)) g).length ≤ g.length + T.length * 32
  | [], g => by simp
  | p :: T, g => by
    have h1 := fold_len (alone := alone) (v := v) h T (MT.fill A.S p.2 g (MT.chs A.S alone v p.1 lk))
    have h2 := fill_len (A := A) p.2 (MT.chs A.S alone v p.1 lk) g
    have h3 := MT.chs_len A.S alone v p.1 lk
    rw [List.foldl_cons, List.length_cons]
    omega
theorem sz_bnd {c v : Nat} (hc : c ≤ 4194304) (hv : v ≤ 16) : c * (Xb v * 1024) ≤ 2 ^ 1000 ∧ c * (Xb v * 1024) ≤ Xb (v + 1) := by
  have h1 : c * (Xb v * 1024) ≤ 2 ^ 22 * (2 ^ (40 * v + 10) * 2 ^ 10) := Nat.mul_le_mul hc (Nat.le_refl _)
  rw [← Nat.pow_add, ← Nat.pow_add] at h1
  exact ⟨Nat.le_trans h1 (Nat.pow_le_pow_right (by decide) (by omega)), Nat.le_trans h1 (Nat.pow_le_pow_right (by decide) (by omega))⟩
variable (A G)
def spSumM (fS fM : Addr) : Sp := fun vs H Q _ => ∃ (l : Addr) (av zv ov : V) (ds : List Addr) (lks : List (List (Nat × α))) (alone : α), vs = [.ref l, av, zv, ov, .ref fS, .ref fM] ∧ LinksA A H l ds lks ∧ (∀ v < lks.length, RowOk A lks.length v 1024 24 (lks.getD v [])) ∧ lks.length ≤ 16 ∧
  A.Val H av alone ∧ A.Val H zv A.S.zero ∧ A.Val H ov A.S.one ∧ A.Sz 1 1024 alone ∧ A.Sz 1 1024 A.S.one ∧ A.Sz 0 1024 A.S.one ∧ G H ∧ ∀ v H', Ext H H' → A.Val H' v (MT.Fr A.S alone lks 0 0) → Q v H'
theorem ok_sum_over_matchings (T : Top K mg) (hG : ∀ {H H' : Hp}, Ext H H' → G H → G H') {fS fM : Addr} {dS dM : FuncData} {psS psM : List Str} (okS : FnOk P w K mg base CX0 4 fS dS psS (spA A G)) (kS : PySem.W.keepIn K (.ref fS) = true) (bS : Binds K dS psS [])
    (okM : FnOk P w K mg base CX0 4 fM dM psM (spM A G)) (kM : PySem.W.keepIn K (.ref fM) = true) (bM : Binds K dM psM []) :
    FnOk P w K mg base CX0 5 T.f_sum_over_matchings T.d_sum_over_matchings ["links", "alone", "zero", "one", "summed", "multiplied"] (spSumM A G fS fM) := by
  refine T.F_sum_over_matchings.ok sc_sum_over_matchings (fun vs H Q E h => ?_) (fun cdv A' outer s H vs Q E hr h => ?_)
  · obtain ⟨l, av, zv, ov, ds, lks, alone, rfl, _⟩ := h
    rfl
  obtain ⟨l, av, zv, ov, ds, lks, alone, rfl, hL, hrow, h16, ha, hz, ho, s1, s2, s3, g, q⟩ := h
  refine ⟨_, (pss_cons (ps_set (i := 6) sc_sum_over_matchings.nd rfl (by first | exact .inl rfl | exact .inr rfl) (pe_disp (pps_cons pe_int (pv 3) pps_nil) (by rfl) (by rfl) (fun z => by cases z) (by decide)))
      (pss_cons (ps_for PassesOwn.never rfl (pi_enumS rfl (by rfl) T.m_enumerate (pa_cons (pv 0) pa_nil)) (pg_tup rfl (pgs_cons (pg_name (i := 7) sc_sum_over_matchings.nd rfl (by first | exact .inl rfl | exact .inr rfl)) (pgs_cons (pg_name (i := 8) sc_sum_over_matchings.nd rfl (by first | exact .inl rfl | exact .inr rfl)) pgs_nil))) (pss_cons (ps_set (i := 9) sc_sum_over_matchings.nd rfl (by first | exact .inl rfl | exact .inr rfl) pe_dnewK)
      (pss_cons (ps_lock (ps_for PassesOwn.never rfl (pi_keys (pv 6)) (pg_name (i := 10) sc_sum_over_matchings.nd rfl (by first | exact .inl rfl | exact .inr rfl)) (C8.pss_cut (ps_if (pt_truthI (pe_op op_and (pe_op op_shr (pv 10) (pv 7)) pe_int) (by intro _; rfl)) (pss_one (ps_set (i := 11) sc_sum_over_matchings.nd rfl (by first | exact .inl rfl | exact .inr rfl) (pe_lst (pa_cons (pe_tup (pa_cons (pe_op op_xor (pv 10) (pe_op op_shl pe_int (pv 7))) (pa_cons (pv 3) pa_nil))) pa_nil)))) (pss_cons (ps_set (i := 11) sc_sum_over_matchings.nd rfl (by first | exact .inl rfl | exact .inr rfl) (pe_lst (pa_cons (pe_tup (pa_cons (pv 10) (pa_cons (pv 1) pa_nil))) pa_nil)))
      (pss_one (ps_aug (i := 11) sc_sum_over_matchings.nd rfl (by first | exact .inl rfl | exact .inr rfl) (pe_lock (pe_lc (own := [("other", 12)]) (g := gName 12) rfl sc_sum_over_matchings.nd (pi_keys (pv 8)) (blkOk_by (own := [("other", 12)]) (N := n_sum_over_matchings) (sc := defScope s_sum_over_matchings) (by decide +kernel)) (fun _ _ _ _ _ => (pg_name (i := 12) sc_sum_over_matchings.nd rfl (by first | exact .inl rfl | exact .inr rfl))) (fun _ _ _ _ _ => pts_one (pt_not (pt_truthI (pe_op op_and (pe_op op_shr (pv 10) (pv 12)) pe_int) (by intro _; rfl)))) (fun _ _ _ _ _ => (pe_tup (pa_cons (pe_op op_or (pv 10) (pe_op op_shl pe_int (pv 12))) (pa_cons (pe_dget (hu_of hr) (pv 8) (pv 12) (fun _ _ => rfl)) pa_nil)))))) iop_ext))))
      (pss_one (ps_for PassesOwn.never rfl (pi_list (pv 11)) (pg_tup rfl (pgs_cons (pg_name (i := 13) sc_sum_over_matchings.nd rfl (by first | exact .inl rfl | exact .inr rfl)) (pgs_cons (pg_name (i := 14) sc_sum_over_matchings.nd rfl (by first | exact .inl rfl | exact .inr rfl)) pgs_nil))) (pss_one (ps_dput (hu_of hr) (pv 9) (pv 13) (pe_callL (i := 4) okS (hr.mono (by decide)) rfl (Or.inl rfl) kS bS .nil pass0 (pa_cons (pe_dget2 (hu_of hr) (pv 9) (pv 13) (pv 2) ⟨rfl, rfl, rfl, rfl⟩) (pa_cons (pe_callL (i := 5) okM (hr.mono (by decide)) rfl (Or.inl rfl) kM bM .nil pass0 (pa_cons (pe_dget (hu_of hr) (pv 6) (pv 10) (fun _ _ => rfl)) (pa_cons (pv 14) pa_nil))) pa_nil))) rfl)))))))
      (pss_one (ps_set (i := 6) sc_sum_over_matchings.nd rfl (by first | exact .inl rfl | exact .inr rfl) (pv 9))))))
      (pss_one (ps_ret (pe_dget (hu_of hr) (pv 6) pe_int (fun _ _ => rfl)))))), ?_⟩
  have hds := hL.rows.length
  have lkok : ∀ v < lks.length, MT.LkOk v lks.length (lks.getD v []) := fun v hv => (hrow v hv).bnd
  intro tb htb
  refine ⟨_, rfl, upd_same, [(Sum.inl ((0 : Nat) : Int), ov)], rfl, by simp, ?_⟩
  have x1 : Ext H (upd (upd H tb (.dK [])) tb (.dK (mergeK [] [(Sum.inl ((0 : Nat) : Int), ov)]))) := (ext_upd htb).own htb
  have T1 : RowA A (upd (upd H tb (.dK [])) tb (.dK (mergeK [] [(Sum.inl ((0 : Nat) : Int), ov)]))) tb (MT.tabT A.S alone lks 0) := ⟨_, upd_same, .cons ⟨rfl, A.keep x1.kp ho⟩ .nil⟩
  have ntb : H tb = none := htb
  generalize upd (upd H tb (.dK [])) tb (.dK (mergeK [] [(Sum.inl ((0 : Nat) : Int), ov)])) = H1 at *
  refine ⟨_, rfl, l, _, H, rfl, x1, .inl (SqL.of hL.at'), fun J wJ => for_enum wJ (fun v σ H2 => (∃ tb y7 y8 y9 y10 y11 y13 y14, σ = [some (.ref l), some av, some zv, some ov, some (.ref fS), some (.ref fM), some (.ref tb), y7, y8, y9, y10, y11, none, y13, y14] ∧ H tb = none ∧ RowA A H2 tb (MT.tabT A.S alone lks v)) ∧ Ext H H2 ∧ ∀ p ∈ MT.tabT A.S alone lks v, A.Sz v (Xb v) p.2)
    ⟨⟨tb, none, none, none, none, none, none, none, rfl, ntb, T1⟩, x1, fun p hp => by
      rw [List.mem_singleton.mp hp]
      exact s3⟩ (fun v σ H2 _ h => h.2.1) (fun v x tt σ H2 hi hP htt => ?_) (fun σ H2 hP => ?_)⟩
  · obtain ⟨⟨tb, y7, y8, y9, y10, y11, y13, y14, rfl, ntb, kvs, htb, hkv⟩, e2, hsz⟩ := hP
    rw [List.getElem?_map] at hi
    obtain ⟨d, hd, rfl⟩ := Option.map_eq_some_iff.mp hi
    have hvd := (List.getElem?_eq_some_iff.mp hd).1
    have hv : v < lks.length := by omega
    have x3 := ext_upd (o := .tup [V.int (v : Int), .ref d]) htt
    have y3 : upd H2 tt (.tup [V.int (v : Int), .ref d]) tt = some (.tup [V.int (v : Int), .ref d]) := upd_same
    have e3 := e2.trans x3
    have htb3 := x3.keep _ _ htb (fun _ z => by cases z)
    have hkv3 := hkv.kp x3.kp
    refine ⟨tt, _, rfl, SqT.of y3, rfl, _, _, rfl, _, _, rfl, rfl, ?_⟩
    generalize upd H2 tt (.tup [V.int (v : Int), .ref d]) = H3 at *
    intro gr hgr
    have x4 := ext_upd (o := .dK []) hgr
    have ngr : H gr = none := e3.free hgr
    have ngt : tb ≠ gr := fun z => by rw [z, hgr] at htb3; cases htb3
    have htb4 := x4.keep _ _ htb3 (fun _ z => by cases z)
    have hkv4 := hkv3.kp x4.kp
    have hgr4 : upd H3 gr (.dK []) gr = some (.dK []) := upd_same
    have e4 := e3.trans x4
    dsimp only [gName]
    generalize upd H3 gr (.dK []) = H4 at *
    have hrv := hrow v hv
    obtain ⟨lk, hlk, kl, hdk, hkl⟩ := paired_at hL.rows hd
    have elk : lks.getD v [] = lk := by
      rw [List.getD_eq_getElem?_getD, hlk]
      rfl
    rw [elk] at hrv
    obtain ⟨hnd, _⟩ := MT.tab_dot A.S alone lks v (by omega)
    obtain ⟨hko, _⟩ := MT.tab_ok A.S (alone := alone) (n := lks.length) lkok v (by omega)
    have lT : (MT.tabT A.S alone lks v).length ≤ 65536 := by
      have h1 := key_len hnd (n := 2 ^ lks.length) fun k hk => (hko k hk).1
      have h2 : 2 ^ lks.length ≤ 2 ^ 16 := Nat.pow_le_pow_right (by decide) h16
      unfold MT.keysA at h1
      rw [List.length_map] at h1
      omega
    have lkv := hkv4.length
    have etab : MT.tabT A.S alone lks (v + 1) = (MT.tabT A.S alone lks v).foldl (fun g p => MT.fill A.S p.2 g (MT.chs A.S alone v p.1 lk)) [] := by
      show MT.stepT A.S alone v _ _ = _
      rw [elk]
      rfl
    generalize MT.tabT A.S alone lks v = Tv at *
    have lT2 : ∀ i, i ≤ Tv.length → ((Tv.take i).foldl (fun g p => MT.fill A.S p.2 g (MT.chs A.S alone v p.1 lk)) []).length ≤ i * 32 := fun i hi => by
      have h1 := fold_len (A := A) (alone := alone) (v := v) hrv.len (Tv.take i) []
      rw [List.length_nil, Nat.zero_add, List.length_take, Nat.min_eq_left hi] at h1
      exact h1
    refine ⟨tb, _, htb4, trivial, fun od => ?_⟩
    have x5 : Ext H (upd H4 tb (.frz od (.dK kvs))) := e4.own ntb
    refine ⟨_, rfl, tb, od, rfl, .inl ⟨kvs, upd_same, for_keysK (fun i σ H5 => (∃ z10 z11 z13 z14, σ = [some (.ref l), some av, some zv, some ov, some (.ref fS), some (.ref fM), some (.ref tb), some (.int (v : Int)), some (.ref d), some (.ref gr), z10, z11, none, z13, z14]) ∧ Ext H H5 ∧ H5 tb = some (.frz od (.dK kvs)) ∧ KvsA A H5 kvs Tv ∧ RowA A H5 gr ((Tv.take i).foldl (fun g p => MT.fill A.S p.2 g (MT.chs A.S alone v p.1 lk)) []) ∧ ∀ p ∈ (Tv.take i).foldl (fun g p => MT.fill A.S p.2 g (MT.chs A.S alone v p.1 lk)) [], A.Sz (v + 1) (i * 32 * (Xb v * 1024)) p.2)
      ⟨⟨_, _, _, _, rfl⟩, x5, upd_same, hkv4.kp (keep_upd htb4 ntp_dk), ⟨[], by rw [upd_ne ngt.symm]; exact hgr4, .nil⟩, fun p hp => by cases hp⟩ (fun i σ H5 _ h => h.2.2.1) (fun i k vv σ H5 hi hP => ?_) (fun σ H5 hP => ?_)⟩⟩
    · obtain ⟨⟨z10, z11, z13, z14, rfl⟩, e5, htb5, hkv5, hgr5, hsz5⟩ := hP
      obtain ⟨⟨m, xm⟩, hTi, hk1, hvx⟩ := paired_at hkv5 hi
      have hk1 : k = Sum.inl ((m : Nat) : Int) := hk1
      subst hk1
      have hvx : A.Val H5 vv xm := hvx
      have hTm := List.mem_of_getElem? hTi
      have hxz := hsz _ hTm
      have hxz : A.Sz v (Xb v) xm := hxz
      -- the choices
      refine ⟨fun σ H6 => ∃ ca cvs, σ = [some (.ref l), some av, some zv, some ov, some (.ref fS), some (.ref fM), some (.ref tb), some (.int (v : Int)), some (.ref d), some (.ref gr), some (.int ((m : Nat) : Int)), some (.ref ca), none, z13, z14] ∧ Ext H5 H6 ∧ H6 ca = some (.lst cvs) ∧ Paired (ChA A H6) cvs (MT.chs A.S alone v m lk), ?_, ?_⟩
      · refine ⟨_, rfl, _, rfl, _, _, rfl, rfl, by omega, _, _, rfl, rfl, _, rfl, ?_⟩
        rw [tbn]
        have so : (1 : Nat) ≤ sizeLine := sl_of (by decide)
        refine iteB (fun z => ?_) (fun z => ?_)
        · refine ⟨_, rfl, _, rfl, 1, (v : Int), rfl, rfl, ⟨by omega, by omega, by decide⟩, _, _, rfl, rfl, _, rfl, sl2, fun t1 ht1 => ⟨so, fun c hc => ?_⟩⟩
          have w1 := ext_upd (o := .tup [V.int (Builtin.bitXor ((m : Nat) : Int) (1 * 2 ^ ((v : Nat) : Int).toNat)), ov]) ht1
          have w2 := ext_upd (o := .lst [V.ref t1]) hc
          refine ⟨c, [.ref t1], rfl, w1.trans w2, upd_same, ?_⟩
          unfold MT.chs
          rw [if_pos z]
          refine .cons ⟨t1, ov, rfl, ?_, A.keep (e5.kp.trans (w1.trans w2).kp) ho⟩ .nil
          show _ = some (HO.tup [V.int ((m ^^^ 2 ^ v : Nat) : Int), ov])
          rw [← xor_n, ← pw1]
          exact w2.at upd_same
        · refine ⟨_, rfl, _, rfl, sl2, fun t1 ht1 => ⟨so, fun c hc => ?_⟩⟩
          have w1 := ext_upd (o := .tup [kV (Sum.inl ((m : Nat) : Int)), av]) ht1
          have w2 := ext_upd (o := .lst [V.ref t1]) hc
          have c1 : upd (upd H5 t1 (.tup [kV (Sum.inl ((m : Nat) : Int)), av])) c (.lst [V.ref t1]) c = some (.lst [V.ref t1]) := upd_same
          have c2 : upd (upd H5 t1 (.tup [kV (Sum.inl ((m : Nat) : Int)), av])) c (.lst [V.ref t1]) t1 = some (.tup [V.int ((m : Nat) : Int), av]) := w2.at (upd_same (H := H5) (a := t1) (o := .tup [V.int ((m : Nat) : Int), av]))
          have w := w1.trans w2
          have nc : H5 c = none := w1.free hc
          dsimp only [gName]
          generalize upd (upd H5 t1 (.tup [kV (Sum.inl ((m : Nat) : Int)), av])) c (.lst [V.ref t1]) = H6 at *
          have e6 := e5.trans w
          have hd6 := e6.keep _ _ hdk (fun _ z => by cases z)
          have hkl6 := hkl.kp e6.kp
          refine ⟨_, rfl, d, _, hd6, trivial, fun od2 => ?_⟩
          have kk := keep_upd (o := .frz od2 (.dK kl)) hd6 ntp_dk
          refine ⟨_, rfl, d, od2, rfl, .inl ⟨kl, upd_same, fun D hD => w_keysK (fun j H7 => Ext (upd H6 d (.frz od2 (.dK kl))) H7 ∧ ∃ ys, H7 D = some (.lst ys) ∧ Paired (ChA A H7) ys (((lk.take j).filter fun e => !m.testBit e.1).map fun e => (m ||| 2 ^ e.1, e.2))) ⟨ext_upd hD, [], upd_same, .nil⟩ (fun j H7 _ h => h.1.keep _ _ upd_same (fun _ z => by cases z)) (fun j k2 v2 H7 hj hP => ?_) (fun H7 hP => ?_)⟩⟩
          · obtain ⟨s7, ys, hys, hp7⟩ := hP
            obtain ⟨⟨o2, w2⟩, hlo, hk2, hv2⟩ := paired_at hkl hj
            have hk2 : k2 = Sum.inl ((o2 : Nat) : Int) := hk2
            subst hk2
            have hlo2 := hrv.bnd _ (List.mem_of_getElem? hlo)
            have h02 : o2 < lks.length := hlo2.2
            refine ⟨rfl, _, rfl, _, rfl, _, _, rfl, rfl, by omega, _, _, rfl, rfl, _, rfl, ?_⟩
            rw [tbn, take_snoc hlo, List.filter_append]
            have hd7 := s7.keep _ _ upd_same (fun _ z => by cases z)
            refine iteB (fun z2 => ?_) (fun z2 => ?_)
            · refine ⟨_, rfl, _, rfl, 1, (o2 : Int), rfl, rfl, ⟨by omega, by omega, by decide⟩, _, _, rfl, rfl, _, rfl, _, rfl, d, v2, rfl, .inl ⟨kl, Sum.inl ((o2 : Nat) : Int), .inr ⟨od2, hd7⟩, rfl, (kvs_at hkl hrv.nd hj).symm⟩, sl2, fun t3 ht3 => ?_⟩
              have u1 := ext_upd (o := .tup [V.int (Builtin.bitOr ((m : Nat) : Int) (1 * 2 ^ ((o2 : Nat) : Int).toNat)), v2]) ht3
              have u2 : upd H7 t3 (.tup [V.int (Builtin.bitOr ((m : Nat) : Int) (1 * 2 ^ ((o2 : Nat) : Int).toNat)), v2]) t3 = some (.tup [V.int ((m ||| 2 ^ o2 : Nat) : Int), v2]) := by rw [upd_same, pw1, or_n]
              have hys7 := u1.lst hys
              have hp8 := chA_kp u1.kp hp7
              have hv7 : A.Val (upd H7 t3 (.tup [V.int (Builtin.bitOr ((m : Nat) : Int) (1 * 2 ^ ((o2 : Nat) : Int).toNat)), v2])) v2 w2 := A.keep (((e6.kp.trans kk).trans s7.kp).trans u1.kp) hv2
              refine ⟨ys, hys7, ?_, (s7.trans u1).own hD, ys ++ [.ref t3], upd_same, ?_⟩
              · have l1 := hp7.length
                rw [List.length_map] at l1
                have l2 := List.length_filter_le (fun e : Nat × α => !m.testBit e.1) (lk.take j)
                rw [List.length_take] at l2
                have := hrv.len
                exact sl_lt (by omega)
              · rw [List.filter_cons_of_pos (p := fun e : Nat × α => !m.testBit e.1) (a := (o2, w2)) z2, List.filter_nil, List.map_append]
                exact chA_kp (keep_upd hys7 ntp_lst) (paired_snoc hp8 ⟨t3, v2, rfl, u2, hv7⟩)
            · refine ⟨s7, ys, hys, ?_⟩
              rw [List.filter_cons_of_neg (p := fun e : Nat × α => !m.testBit e.1) (a := (o2, w2)) (by dsimp only; rw [z2]; decide), List.filter_nil, List.append_nil]
              exact hp7
          · obtain ⟨s7, ys, hys, hp7⟩ := hP
            have hd7 := s7.keep _ _ upd_same (fun _ z => by cases z)
            have e7 := ext_unlock hd6 (fun _ z => by cases z) s7
            have nDd : D ≠ d := fun z => by rw [z, upd_same] at hD; cases hD
            have hys8 : upd H7 d (.dK kl) D = some (.lst ys) := by rw [upd_ne nDd]; exact hys
            have hc8 := e7.lst c1
            rw [hkl.length, List.take_length] at hp7
            have hp8 := chA_kp (keep_upd (o := .dK kl) hd7 ntp_frk) hp7
            have l1 := hp7.length
            rw [List.length_map] at l1
            have l2 := List.length_filter_le (fun e : Nat × α => !m.testBit e.1) lk
            have := hrv.len
            refine ⟨hd7, c, D, _, _, rfl, rfl, hc8, hys8, sl_of (by simp; omega), c, _, rfl, (w.trans e7).own nc, upd_same, ?_⟩
            have c3 := e7.at c2
            unfold MT.chs
            rw [if_neg (by rw [z]; decide)]
            exact chA_kp (keep_upd hc8 ntp_lst) (.cons ⟨t1, av, rfl, c3, A.keep (e6.trans e7).kp ha⟩ hp8)
      rintro σ H6 ⟨ca, cvs, rfl, e6, hca, hcs⟩
      have htb6 := e6.keep _ _ htb5 (fun _ z => by cases z)
      have hkv6 := hkv5.kp e6.kp
      have hvx6 := A.keep e6.kp hvx
      have hgr6 : RowA A H6 gr ((Tv.take i).foldl (fun g p => MT.fill A.S p.2 g (MT.chs A.S alone v p.1 lk)) []) := by
        obtain ⟨k, a, b⟩ := hgr5
        exact ⟨k, e6.keep _ _ a (fun _ z => by cases z), b.kp e6.kp⟩
      have e06 := e5.trans e6
      have hil := (List.getElem?_eq_some_iff.mp hTi).1
      have csz := chs_sz (A := A) (alone := alone) (v := v) (m := m) s2 s1 hrv.sz
      have cl := MT.chs_len A.S alone v m lk
      have lkl := hrv.len
      have lcs := hcs.length
      generalize hg0 : (Tv.take i).foldl (fun g p => MT.fill A.S p.2 g (MT.chs A.S alone v p.1 lk)) [] = g0 at *
      have efold : (Tv.take (i + 1)).foldl (fun g p => MT.fill A.S p.2 g (MT.chs A.S alone v p.1 lk)) [] = MT.fill A.S xm g0 (MT.chs A.S alone v m lk) := by
        rw [take_snoc hTi, List.foldl_append, hg0]
        rfl
      generalize MT.chs A.S alone v m lk = cs at *
      have lg0 : g0.length ≤ i * 32 := by
        rw [← hg0]
        exact lT2 i (by omega)
      refine ⟨_, rfl, ca, rfl, ⟨_, SqL.of hca⟩, for_list (xs := cvs) (fun j σ H7 => (∃ w13 w14, σ = [some (.ref l), some av, some zv, some ov, some (.ref fS), some (.ref fM), some (.ref tb), some (.int (v : Int)), some (.ref d), some (.ref gr), some (.int ((m : Nat) : Int)), some (.ref ca), none, w13, w14]) ∧ Ext H H7 ∧ H7 ca = some (.lst cvs) ∧ Paired (ChA A H7) cvs cs ∧ H7 tb = some (.frz od (.dK kvs)) ∧ KvsA A H7 kvs Tv ∧ RowA A H7 gr (MT.fill A.S xm g0 (cs.take j)))
        ⟨⟨_, _, rfl⟩, e06, hca, hcs, htb6, hkv6, hgr6⟩ (fun j σ H7 _ h => SqL.of h.2.2.1) (fun j x σ H7 hj hP => ?_) (fun σ H7 hP => ?_)⟩
      · obtain ⟨⟨w13, w14, rfl⟩, e7, hca7, hcs7, htb7, hkv7, kg, hgr7, hkg7⟩ := hP
        obtain ⟨⟨mk, f⟩, hcj, a1, wv, rfl, ha1, hwv⟩ := paired_at hcs7 hj
        have ha1 : H7 a1 = some (.tup [.int ((mk : Nat) : Int), wv]) := ha1
        have hwv : A.Val H7 wv f := hwv
        have hfz : A.Sz 1 1024 f := csz _ (List.mem_of_getElem? hcj)
        have hjl := (List.getElem?_eq_some_iff.mp hcj).1
        obtain ⟨_, hTi7, _, hvx7⟩ := paired_at hkv7 hi
        rw [hTi] at hTi7
        cases hTi7
        have hvx7 : A.Val H7 vv xm := hvx7
        have gz := fill_sz (A := A) hxz (cs.take j) g0 (i * 32) (fun e m => csz e (List.mem_of_mem_take m)) hsz5
        have lf := fill_len (A := A) xm (cs.take j) g0
        have lt : (cs.take j).length = j := by rw [List.length_take]; omega
        rw [lt] at gz lf
        have bnd := sz_bnd (c := i * 32 + j + 1) (v := v) (by omega) (by omega)
        refine ⟨a1, _, rfl, SqT.of ha1, rfl, _, _, rfl, _, _, rfl, rfl, ?_⟩
        refine ⟨rfl, _, rfl, gr, rfl, .inl ⟨_, .inl hgr7⟩, _, rfl, _, rfl, _, DGet.k (k := Sum.inl ((mk : Nat) : Int)) hgr7, rfl, _, rfl, _, rfl, tb, vv, rfl, .inl ⟨kvs, Sum.inl ((m : Nat) : Int), .inr ⟨od, htb7⟩, rfl, (kvs_at hkv7 hnd hi).symm⟩, _, rfl, vv, wv, xm, f, v, Xb v, 1024, rfl, hvx7, hwv, hxz, hfz, by omega, ?_, Nat.le_trans (by decide : 1024 ≤ 2 ^ 10) (Nat.pow_le_pow_right (by decide) (by decide)), hG e7 g, fun pv H8 s8 hpv => ?_⟩
        · exact Nat.pow_le_pow_right (by decide) (by omega)
        have hz8 := A.keep (e7.trans s8).kp hz
        refine ⟨_, pv, _, _, v + 1, (i * 32 + j) * (Xb v * 1024), Xb v * 1024, rfl, kvs_get hz8 mk (hkg7.kp s8.kp), hpv, get_sz gz, A.sz_mul hxz hfz, by omega, ?_, hG (e7.trans s8) g, fun nv H9 s9 hnv => ?_⟩
        · rw [← Nat.succ_mul]
          exact bnd.1
        have s79 := s8.trans s9
        have hgr9 := s79.keep _ _ hgr7 (fun _ z => by cases z)
        have kpu : Keep H9 (upd H9 gr (.dK (putK kg (Sum.inl ((mk : Nat) : Int)) nv))) := keep_upd hgr9 ntp_dk
        have ngc : ca ≠ gr := fun z => by rw [z, hgr7] at hca7; cases hca7
        refine ⟨_, rfl, _, rfl, gr, _, rfl, DPut.k (k := Sum.inl ((mk : Nat) : Int)) hgr9 ?_, ⟨_, _, rfl⟩, (e7.trans s79).own ngr, ?_, ?_, ?_, ?_, ?_⟩
        · rw [hkg7.length, sizeLine_eq]
          omega
        · rw [upd_ne ngc]
          exact s79.lst hca7
        · exact chA_kp (s79.kp.trans kpu) hcs7
        · rw [upd_ne ngt]
          exact s79.keep _ _ htb7 (fun _ z => by cases z)
        · exact hkv7.kp (s79.kp.trans kpu)
        · refine ⟨_, upd_same, ?_⟩
          have ef : MT.fill A.S xm g0 (cs.take (j + 1)) = MT.addA A.S (MT.fill A.S xm g0 (cs.take j)) mk (A.S.mul xm f) := by
            rw [take_snoc hcj]
            unfold MT.fill
            rw [List.foldl_append]
            rfl
          rw [ef]
          exact kvs_put (A.keep kpu hnv) (hkg7.kp (s79.kp.trans kpu))
      · obtain ⟨⟨w13, w14, rfl⟩, e7, hca7, hcs7, htb7, hkv7, hgr7⟩ := hP
        rw [lcs, List.take_length] at hgr7
        refine ⟨⟨_, _, _, _, rfl⟩, e7, htb7, hkv7, by rw [efold]; exact hgr7, fun p hp => ?_⟩
        rw [efold] at hp
        have gz := fill_sz (A := A) hxz cs g0 (i * 32) csz hsz5 p hp
        refine A.sz_le (Nat.mul_le_mul_right _ ?_) gz
        omega
    · obtain ⟨⟨z10, z11, z13, z14, rfl⟩, e5, htb5, hkv5, hgr5, hsz5⟩ := hP
      rw [lkv, List.take_length] at hgr5 hsz5
      rw [← etab] at hgr5 hsz5
      refine ⟨htb5, _, rfl, ⟨gr, _, _, _, _, _, _, _, rfl, ngr, ?_⟩, e5.own ntb, fun p hp => ?_⟩
      · obtain ⟨k, a, b⟩ := hgr5
        exact ⟨k, by rw [upd_ne ngt.symm]; exact a, b.kp (keep_upd htb5 ntp_frk)⟩
      · refine A.sz_le ?_ (hsz5 p hp)
        exact (sz_bnd (c := Tv.length * 32) (v := v) (by omega) (by omega)).2
  · obtain ⟨⟨tb, y7, y8, y9, y10, y11, y13, y14, rfl, ntb, kvs, htb, hkv⟩, e2, hsz⟩ := hP
    rw [List.length_map, hds, MT.tab_last A.S lkok] at hkv
    cases hkv with
    | cons h1 t =>
      cases t
      rename_i kv
      obtain ⟨k, v⟩ := kv
      obtain ⟨hk, hv⟩ := h1
      have hk : k = Sum.inl ((0 : Nat) : Int) := hk
      subst hk
      refine ⟨_, rfl, tb, v, rfl, ?_, q v _ e2 hv⟩
      have := DGet.k (k := Sum.inl ((0 : Nat) : Int)) htb
      rw [valV_pos rfl] at this
      exact this
end
/-! ### polynomials as numbers -/
abbrev CP : Type := {p : List Trm // Canon p}
theorem cp_ext {p q : CP} (h : PM.Eqv p.1 q.1) : p = q := Subtype.ext (PM.canon_uniq p.2 q.2 h)
def cpS : MT.Sr CP where
  add p q := ⟨canon (p.1 ++ q.1), PM.canon_canon _⟩
  mul p q := ⟨canon (mulT p.1 q.1), PM.canon_canon _⟩
  zero := ⟨[], by simp [PM.Canon]⟩
  one := ⟨one, by simp [PM.Canon, PM.one]⟩
  add_comm a b := cp_ext ((PM.eqv_canon _).trans ((PM.Eqv.perm List.perm_append_comm).trans (PM.eqv_canon _).symm))
  add_assoc a b c := cp_ext ((PM.eqv_canon _).trans (((PM.eqv_canon _).append (.refl _)).trans ((by rw [List.append_assoc]; exact (PM.Eqv.refl a.1).append (PM.eqv_canon _).symm : PM.Eqv (a.1 ++ b.1 ++ c.1) (a.1 ++ canon (b.1 ++ c.1))).trans (PM.eqv_canon _).symm)))
  add_zero a := cp_ext ((PM.eqv_canon _).trans (by rw [List.append_nil]; exact .refl _))
  mul_assoc a b c := cp_ext ((PM.eqv_canon _).trans (((PM.eqv_canon _).mul (.refl _)).trans ((PM.mul_assoc _ _ _).trans (((PM.Eqv.refl a.1).mul (PM.eqv_canon _).symm).trans (PM.eqv_canon _).symm))))
  mul_comm a b := cp_ext ((PM.eqv_canon _).trans ((PM.mul_comm _ _).trans (PM.eqv_canon _).symm))
  mul_add a b c := cp_ext ((PM.eqv_canon _).trans (((PM.Eqv.refl a.1).mul (PM.eqv_canon _)).trans (((PM.mul_comm _ _).trans (by
    have : mulT (b.1 ++ c.1) a.1 = mulT b.1 a.1 ++ mulT c.1 a.1 := by
      unfold mulT
      rw [List.flatMap_append]
    rw [this]
    exact (((PM.mul_comm _ _).trans (PM.eqv_canon _).symm).append ((PM.mul_comm _ _).trans (PM.eqv_canon _).symm)))).trans (PM.eqv_canon _).symm)))
  mul_zero a := cp_ext ((PM.eqv_canon _).trans ((PM.mul_comm _ _).trans (.refl _)))
  mul_one a := cp_ext ((PM.eqv_canon _).trans ((PM.mul_comm _ _).trans (PM.one_mul _)))
theorem norm_le_len : ∀ {p : List Trm}, (∀ t ∈ p, t.2 ≠ 0) → p.length ≤ PM.norm p
  | [], _ => Nat.le_refl _
  | t :: p, h => by
    have h1 := h t (List.mem_cons_self ..)
    have h2 := norm_le_len (p := p) fun u m => h u (List.mem_cons_of_mem _ m)
    have : PM.norm (t :: p) = t.2.natAbs + PM.norm p := rfl
    rw [this, List.length_cons]
    omega
/-- powers of x alone, of few sizes -/
def szP (i X : Nat) (p : List Trm) : Prop := PM.norm p ≤ X ∧ ∀ t ∈ p, t.1.2 = 0 ∧ 0 ≤ t.1.1 ∧ t.1.1 ≤ i
theorem mem_canon {t : Trm} : ∀ {ts : List Trm}, t ∈ canon ts → ∃ s ∈ ts, s.1 = t.1
  | [], h => by cases h
  | u :: ts, h => by
    rcases PM.mem_ins (show t ∈ PM.ins u (canon ts) from h) with e | h
    · exact ⟨u, List.mem_cons_self .., e.symm⟩
    · obtain ⟨s, hs, e⟩ := mem_canon h
      exact ⟨s, List.mem_cons_of_mem _ hs, e⟩
theorem szP_len {i X : Nat} {p : List Trm} (hc : Canon p) (h : szP i X p) : p.length ≤ i + 1 := by
  have hn : (p.map fun t => t.1.1.toNat).Nodup := by
    refine List.Pairwise.map _ (S := fun a b => a ≠ b) (R := fun s t : Trm => s ∈ p ∧ t ∈ p ∧ PM.ltE s.1 t.1) (fun a b ⟨ma, mb, hl⟩ e => ?_) ?_
    · obtain ⟨a1, a2, a3⟩ := h.2 a ma
      obtain ⟨b1, b2, b3⟩ := h.2 b mb
      unfold PM.ltE at hl
      omega
    · exact List.Pairwise.and_mem.mp hc.1 |>.imp fun hx => ⟨hx.1, hx.2.1, hx.2.2⟩
  have := key_len hn (n := i + 1) fun k hk => by
    obtain ⟨t, ht, rfl⟩ := List.mem_map.mp hk
    obtain ⟨b1, b2, b3⟩ := h.2 t ht
    omega
  rwa [List.length_map] at this
def cpA (K : PySem.W.Frag) : Ar K CP where
  S := cpS
  Val H v p := ∃ a, v = .ref a ∧ PolyAt K H a p.1
  keep := fun s ⟨a, e, xs, h1, h2⟩ => ⟨a, e, xs, s.tup h1, paired_imp (fun _ _ ⟨b, c, e2, g1, g2⟩ => ⟨b, c, e2, s.tup g1, s.tup g2⟩) h2⟩
  Sz i X p := szP i X p.1
  sz_le := fun h ⟨a, b⟩ => ⟨Nat.le_trans a h, b⟩
  sz_add := fun ⟨a, b⟩ ⟨c, d⟩ => ⟨Nat.le_trans (PM.norm_canon _) (by rw [PM.norm_append]; exact Nat.add_le_add a c), fun t ht => by
    obtain ⟨s, hs, e⟩ := mem_canon ht
    rw [← e]
    rcases List.mem_append.mp hs with hs | hs
    · exact b s hs
    · exact d s hs⟩
  sz_mul := fun ⟨a, b⟩ ⟨c, d⟩ => ⟨Nat.le_trans (PM.norm_canon _) (by rw [PM.norm_mul]; exact Nat.mul_le_mul a c), fun t ht => by
    obtain ⟨s, hs, e⟩ := mem_canon ht
    rw [← e]
    unfold mulT at hs
    obtain ⟨x, hx, hs⟩ := List.mem_flatMap.mp hs
    obtain ⟨y, hy, rfl⟩ := List.mem_map.mp hs
    obtain ⟨b1, b2, b3⟩ := b x hx
    obtain ⟨d1, d2, d3⟩ := d y hy
    refine ⟨?_, ?_, ?_⟩
    · show x.1.2 + y.1.2 = 0
      omega
    · show 0 ≤ x.1.1 + y.1.1
      omega
    · show x.1.1 + y.1.1 ≤ ((_ + 1 : Nat) : Int)
      omega⟩
  sz_zero := fun i => ⟨Nat.le_refl _, fun t ht => by cases ht⟩
theorem okS_plus (T : Top K mg) (B : Tb T base) : FnOk P w K mg base CX0 4 T.f_plus T.d_plus ["p", "q"] (spA (cpA K) (Tg T)) := (ok_plus T B).imp fun vs H Q E ⟨v1, v2, x, y, i, X, Y, e, ⟨a, e1, hx⟩, ⟨b, e2, hy⟩, s1, s2, hi, hb, g, q⟩ => by
  subst e e1 e2
  have l1 := szP_len x.2 s1
  have l2 := szP_len y.2 s2
  exact ⟨a, b, x.1, y.1, rfl, hx, hy, by omega, g, fun p H' s hp _ => q _ H' s ⟨p, rfl, hp.at⟩⟩
theorem okM_times (T : Top K mg) (B : Tb T base) : FnOk P w K mg base CX0 4 T.f_times T.d_times ["p", "q"] (spM (cpA K) (Tg T)) := ((ok_times T B).mono (by decide)).imp fun vs H Q E ⟨v1, v2, x, y, i, X, Y, e, ⟨a, e1, hx⟩, ⟨b, e2, hy⟩, s1, s2, hi, hX, hY, g, q⟩ => by
  subst e e1 e2
  have l1 := szP_len x.2 s1
  have l2 := szP_len y.2 s2
  have p19 : (2 : Nat) ^ 1000 < 2 ^ 1900 := Nat.pow_lt_pow_right (by decide) (by decide)
  refine ⟨a, b, x.1, y.1, rfl, hx, hy, ?_, fun t ht => ?_, fun t ht => ?_, g, fun p H' s hp _ => q _ H' s ⟨p, rfl, hp.at⟩⟩
  · have : x.1.length * y.1.length ≤ 21 * 2 := Nat.mul_le_mul (by omega) (by omega)
    omega
  · have := PM.norm_mem ht
    have := s1.1
    show t.2.natAbs < 2 ^ 1900
    omega
  · have := PM.norm_mem ht
    have := s2.1
    show t.2.natAbs < 2 ^ 1900
    omega
/-! ### the check -/
def EdI (K : PySem.W.Frag) (H : Hp) (v : V) (e : Int × Int) : Prop := ∃ a wv, v = .ref a ∧ SqT K H a [.int e.1, .int e.2, wv]
def inB (n : Int) (e : Int × Int) : Prop := 0 ≤ e.1 ∧ e.1 < n ∧ 0 ≤ e.2 ∧ e.2 < n
instance (n : Int) (e : Int × Int) : Decidable (inB n e) := inferInstanceAs (Decidable (_ ∧ _ ∧ _ ∧ _))
def spCheck (T : Top K mg) : Sp := fun vs H Q E => ∃ (n : Int) (ea : Addr) (xs : List V) (us : List (Int × Int)), vs = [.int n, .ref ea] ∧ SqL K H ea xs ∧ Paired (EdI K H) xs us ∧
  ((∀ e ∈ us, inB n e) → n ≤ 16 → Q .non H) ∧ (¬ (∀ e ∈ us, inB n e) → E (.ref T.f_InvalidWeight) none H) ∧ ((∀ e ∈ us, inB n e) → 16 < n → E (.ref T.f_TooLarge) none H)
theorem ok_check_graph (T : Top K mg) : FnOk P w K mg base (L2.CX P w) 1 T.f_check_graph T.d_check_graph ["count", "edges"] (spCheck T) := by
  refine T.F_check_graph.okX sc_check_graph (fun vs H Q E h => ?_) (fun cdv A outer s H vs Q E hr h => ?_)
  · obtain ⟨n, ea, xs, us, rfl, _⟩ := h
    rfl
  obtain ⟨n, ea, xs, us, rfl, he, hes, q1, q2, q3⟩ := h
  refine ⟨_, (pss_cons (ps_for (passes_of rfl) rfl (pi_list (pv 1)) (pg_tup rfl (pgs_cons (pg_name (i := 2) sc_check_graph.nd rfl (by first | exact .inl rfl | exact .inr rfl)) (pgs_cons (pg_name (i := 3) sc_check_graph.nd rfl (by first | exact .inl rfl | exact .inr rfl)) (pgs_cons (pg_name (i := 4) sc_check_graph.nd rfl (by first | exact .inl rfl | exact .inr rfl)) pgs_nil)))) (pss_one (ps_if (pt_not (PW.pt (pw_and (pt_chain op_le op_lt pe_int (pv 2) (pv 0)) (pw_and1 (pt_chain op_le op_lt pe_int (pv 3) (pv 0)))))) (pss_one (ps_raise rfl (takes_of rfl rfl rfl rfl) (pmk_own PySem.F.excBase_ValueError T.q_InvalidWeight T.g_InvalidWeight T.k_InvalidWeight (raises_own T.b_InvalidWeight T.y_InvalidWeight) (by rfl)))) pss_nil)))
      (pss_one (ps_if (pt_cmpR op_gt (pv 0) (pe_glob (v := .int 16) (by rfl) T.g_MOST_VERTICES ⟨_, rfl⟩) (nomark _)) (pss_one (ps_raise rfl (takes_of rfl rfl rfl rfl) (pmk_own PySem.F.excBase_ValueError T.q_TooLarge T.g_TooLarge T.k_TooLarge (raises_own T.b_TooLarge T.y_TooLarge) (by rfl)))) pss_nil))), ?_⟩
  have lx := hes.length
  refine ⟨_, rfl, ea, rfl, ⟨_, he⟩, for_list (xs := xs) (fun i σ H3 => H3 = H ∧ (∃ y2 y3 y4, σ = [some (.int n), some (.ref ea), y2, y3, y4]) ∧ ∀ e ∈ us.take i, inB n e) ⟨rfl, ⟨none, none, none, rfl⟩, fun e h => by simp at h⟩ (fun i σ H3 _ h => by rw [h.1]; exact he) (fun i x σ H3 hi hP => ?_) (fun σ H3 hP => ?_)⟩
  · obtain ⟨rfl, ⟨y2, y3, y4, rfl⟩, hin⟩ := hP
    obtain ⟨⟨u, v⟩, hui, a, wv, rfl, ha⟩ := paired_at hes hi
    refine ⟨a, _, rfl, ha, rfl, _, _, rfl, _, _, rfl, _, _, rfl, rfl, ?_⟩
    have step : inB n (u, v) → ∀ e ∈ us.take (i + 1), inB n e := fun hb e me => by
      rw [take_snoc hui] at me
      rcases List.mem_append.mp me with me | me
      · exact hin e me
      · rw [List.mem_singleton.mp me]
        exact hb
    have bad : ¬ inB n (u, v) → ¬ ∀ e ∈ us, inB n e := fun hb h => hb (h _ (List.mem_of_getElem? hui))
    refine ⟨_, rfl, _, _, rfl, rfl, _, rfl, ite2 (fun b1 => ?_) (fun b1 => ?_)⟩
    · have b1 : 0 ≤ u := of_decide_eq_true b1
      refine ⟨_, rfl, _, _, rfl, rfl, _, rfl, ?_⟩
      by_cases b2 : u < n
      · rw [decide_eq_true b2]
        refine iteT ⟨_, rfl, _, _, rfl, rfl, _, rfl, ite2 (fun b3 => ?_) (fun b3 => ?_)⟩
        · have b3 : 0 ≤ v := of_decide_eq_true b3
          refine ⟨_, rfl, _, _, rfl, rfl, _, rfl, ?_⟩
          by_cases b4 : v < n
          · rw [decide_eq_true b4]
            exact iteF ⟨rfl, ⟨_, _, _, rfl⟩, step ⟨b1, b2, b3, b4⟩⟩
          · rw [decide_eq_false b4]
            exact iteT (q2 (bad fun z => b4 z.2.2.2))
        · have b3 : ¬ 0 ≤ v := fun z => b3 (decide_eq_true z)
          exact ⟨_, rfl, iteT (q2 (bad fun z => b3 z.2.2.1))⟩
      · rw [decide_eq_false b2]
        exact iteF (iteT (q2 (bad fun z => b2 z.2.1)))
    · have b1 : ¬ 0 ≤ u := fun z => b1 (decide_eq_true z)
      exact ⟨_, rfl, iteF (iteT (q2 (bad fun z => b1 z.1)))⟩
  · obtain ⟨rfl, ⟨y2, y3, y4, rfl⟩, hin⟩ := hP
    rw [lx, List.take_length] at hin
    refine ⟨_, rfl, _, _, rfl, rfl, _, rfl, iteB (fun z => ?_) (fun z => ?_)⟩
    · exact q3 hin (of_decide_eq_true z)
    · exact q1 hin (by have := of_decide_eq_false z; omega)
theorem cpx_canon : PM.Canon [(((1 : Int), (0 : Int)), (1 : Int))] := by simp [PM.Canon]
def cpX : CP := ⟨[((1, 0), 1)], cpx_canon⟩
def EdN (K : PySem.W.Frag) (H : Hp) (v : V) (e : Nat × Nat) : Prop := ∃ a wv, v = .ref a ∧ SqT K H a [.int ((e.1 : Nat) : Int), .int ((e.2 : Nat) : Int), wv]
def spMP (T : Top K mg) : Sp := fun vs H Q _ => ∃ (n : Nat) (ea : Addr) (xs : List V) (es : List (Nat × Nat)), vs = [.int (n : Int), .ref ea] ∧ SqL K H ea xs ∧ Paired (EdN K H) xs es ∧ (∀ e ∈ es, e.1 < n ∧ e.2 < n) ∧ n ≤ 16 ∧ es.length ≤ 24 ∧ Tg T H ∧
  ∀ v H', Ext H H' → (cpA K).Val H' v (MT.Pl cpS cpX es 0) → Q v H'
theorem sz_cpx : szP 1 36 cpX.1 := ⟨by decide, fun t ht => by rw [List.mem_singleton.mp ht]; decide⟩
theorem sz_one (i : Nat) : szP i 1024 PM.one := ⟨by decide, fun t ht => by
  rw [List.mem_singleton.mp (show t ∈ [((0, 0), 1)] from ht)]
  exact ⟨rfl, Int.le_refl _, Int.natCast_nonneg i⟩⟩
theorem ok_matching_polynomial (T : Top K mg) (B : Tb T base) : FnOk P w K mg base (L2.CX P w) 6 T.f_matching_polynomial T.d_matching_polynomial ["count", "edges"] (spMP T) := by
  refine T.F_matching_polynomial.okX sc_matching_polynomial (fun vs H Q E h => ?_) (fun cdv A outer s H vs Q E hr h => ?_)
  · obtain ⟨n, ea, xs, es, rfl, _⟩ := h
    rfl
  obtain ⟨n, ea, xs, es, rfl, he, hes, hin, hn, h24, G, q⟩ := h
  refine ⟨_, (pss_cons (ps_expr (pe_call (ok_check_graph T) (hr.mono (by decide)) (by rfl) T.g_check_graph T.F_check_graph.kp T.b_check_graph .nil (passes_call (takes_of rfl rfl rfl rfl) (fun _ _ _ _ h => h)) (pa_cons (pv 0) (pa_cons (pv 1) pa_nil))))
      (pss_cons (ps_setLc (i := 2) (own := [("u", 3), ("v", 4), ("_", 5)]) (g := gTup K 3 (gCons (gName 3) (gCons (gName 4) (gCons (gName 5) gNil)))) (tt := tYes) rfl sc_matching_polynomial.nd rfl rfl (sw_true rfl rfl rfl (by decide +kernel)) (pi_list (pv 1)) (blkOk_by (own := [("u", 3), ("v", 4), ("_", 5)]) (N := n_matching_polynomial) (sc := defScope s_matching_polynomial) (by decide +kernel)) (fun _ _ _ _ _ => (pg_tup rfl (pgs_cons (pg_name (i := 3) sc_matching_polynomial.nd rfl (by first | exact .inl rfl | exact .inr rfl)) (pgs_cons (pg_name (i := 4) sc_matching_polynomial.nd rfl (by first | exact .inl rfl | exact .inr rfl)) (pgs_cons (pg_name (i := 5) sc_matching_polynomial.nd rfl (by first | exact .inl rfl | exact .inr rfl)) pgs_nil))))) (fun _ _ _ _ _ => pts_nil) (fun _ _ _ _ _ => (pe_tup (pa_cons (pv 3) (pa_cons (pv 4) (pa_cons (pe_tup (pa_cons (pe_tup (pa_cons (pe_tup (pa_cons pe_int (pa_cons pe_int pa_nil))) (pa_cons pe_int pa_nil))) pa_nil)) pa_nil))))))
      (pss_one (ps_ret (pe_call (ok_sum_over_matchings (cpA K) (Tg T) T (fun s g => g.ext s) (okS_plus T B) T.F_plus.kp T.b_plus (okM_times T B) T.F_times.kp T.b_times) (hr.mono (by decide)) (by rfl) T.g_sum_over_matchings T.F_sum_over_matchings.kp T.b_sum_over_matchings .nil pass0 (pa_cons (pe_call (ok_links (cpA K) (Tg T) T (fun s g => g.ext s) (okS_plus T B) T.F_plus.kp T.b_plus) (hr.mono (by decide)) (by rfl) T.g_links T.F_links.kp T.b_links .nil pass0 (pa_cons (pv 0) (pa_cons (pv 2) (pa_cons (pe_tup pa_nil) (pa_cons (pe_glob (v := .ref T.f_plus) (by rfl) T.g_plus rfl) pa_nil))))) (pa_cons (pe_glob (v := .ref T.f_ONE) (by rfl) T.g_ONE rfl) (pa_cons (pe_tup pa_nil) (pa_cons (pe_glob (v := .ref T.f_ONE) (by rfl) T.g_ONE rfl) (pa_cons (pe_glob (v := .ref T.f_plus) (by rfl) T.g_plus rfl) (pa_cons (pe_glob (v := .ref T.f_times) (by rfl) T.g_times rfl) pa_nil))))))))))), ?_⟩
  have lx := hes.length
  have hui : Paired (EdI K H) xs (es.map fun e => (((e.1 : Nat) : Int), ((e.2 : Nat) : Int))) := by
    clear lx he hin h24 q
    induction hes with
    | nil => exact .nil
    | cons h t ih => exact .cons h ih
  have hall : ∀ e ∈ es.map fun e => (((e.1 : Nat) : Int), ((e.2 : Nat) : Int)), inB (n : Int) e := fun e m => by
    obtain ⟨f, mf, rfl⟩ := List.mem_map.mp m
    obtain ⟨a, b⟩ := hin f mf
    exact ⟨Int.natCast_nonneg _, by show ((f.1 : Nat) : Int) < n; omega, Int.natCast_nonneg _, by show ((f.2 : Nat) : Int) < n; omega⟩
  refine ⟨_, rfl, _, rfl, (n : Int), ea, xs, _, rfl, he, hui, fun _ _ => ?_, fun z => absurd hall z, fun _ z => by omega⟩
  refine ⟨_, rfl, ea, rfl, ⟨_, he⟩, fun D hD => lc_list (xs := xs) (fun i H3 => Ext H H3 ∧ ∃ ys, H3 D = some (.lst ys) ∧ Paired (EdW (cpA K) H3) ys ((es.take i).map fun e => (e.1, e.2, cpX))) ⟨ext_upd hD, [], upd_same, .nil⟩ (fun i H3 _ h => h.1.seq he) (fun i x H3 hi hP => ?_) (fun H3 hP => ?_)⟩
  · obtain ⟨s3, ys, hD3, hys⟩ := hP
    obtain ⟨⟨u, v⟩, hei, a, wv, rfl, ha⟩ := paired_at hes hi
    have ly := hys.length
    have hil := (List.getElem?_eq_some_iff.mp hei).1
    rw [List.length_map, List.length_take] at ly
    refine ⟨a, _, rfl, s3.tup ha, rfl, _, _, rfl, _, _, rfl, _, _, rfl, rfl, ?_⟩
    refine ⟨rfl, _, rfl, _, rfl, sl_of (by simp), fun t1 h1 => ⟨sl_of (by simp), fun t2 h2 => ⟨sl_of (by simp), fun t3 h3 => ⟨sl_of (by simp), fun t4 h4 => ?_⟩⟩⟩⟩
    have x1 := ext_upd (o := .tup [.int 1, .int 0]) h1
    have g1 : upd H3 t1 (.tup [.int 1, .int 0]) t1 = some (.tup [.int 1, .int 0]) := upd_same
    generalize upd H3 t1 (.tup [.int 1, .int 0]) = J1 at *
    have x2 := ext_upd (o := .tup [.ref t1, .int 1]) h2
    have g2 : upd J1 t2 (.tup [.ref t1, .int 1]) t2 = some (.tup [.ref t1, .int 1]) := upd_same
    generalize upd J1 t2 (.tup [.ref t1, .int 1]) = J2 at *
    have x3 := ext_upd (o := .tup [.ref t2]) h3
    have g3 : upd J2 t3 (.tup [.ref t2]) t3 = some (.tup [.ref t2]) := upd_same
    generalize upd J2 t3 (.tup [.ref t2]) = J3 at *
    have x4 := ext_upd (o := .tup [.int ((u : Nat) : Int), .int ((v : Nat) : Int), .ref t3]) h4
    have g4 : upd J3 t4 (.tup [.int ((u : Nat) : Int), .int ((v : Nat) : Int), .ref t3]) t4 = some (.tup [.int ((u : Nat) : Int), .int ((v : Nat) : Int), .ref t3]) := upd_same
    show ∃ acc, upd J3 t4 (.tup [.int ((u : Nat) : Int), .int ((v : Nat) : Int), .ref t3]) D = some (HO.lst acc) ∧ _
    generalize upd J3 t4 (.tup [.int ((u : Nat) : Int), .int ((v : Nat) : Int), .ref t3]) = J4 at *
    have xx := ((x1.trans x2).trans x3).trans x4
    have x24 := (x2.trans x3).trans x4
    have x34 := x3.trans x4
    have hD4 := xx.lst hD3
    have kD : Keep J4 (upd J4 D (.lst (ys ++ [.ref t4]))) := keep_upd hD4 ntp_lst
    refine ⟨ys, hD4, sl_lt (by omega), (s3.trans xx).own hD, ys ++ [.ref t4], upd_same, ?_⟩
    rw [take_snoc hei, List.map_append]
    refine paired_snoc (paired_imp (fun _ _ ⟨b, wv, e, k1, k2⟩ => ⟨b, wv, e, (xx.kp.trans kD).tup k1, (cpA K).keep (xx.kp.trans kD) k2⟩) hys) ⟨t4, _, rfl, kD.tup (SqT.of g4), t3, rfl, ?_⟩
    exact ⟨_, kD.tup (x4.kp.tup (SqT.of g3)), .cons ⟨t2, t1, rfl, kD.tup (x34.kp.tup (SqT.of g2)), kD.tup (x24.kp.tup (SqT.of g1))⟩ .nil⟩
  · obtain ⟨s3, ys, hD3, hys⟩ := hP
    rw [lx, List.take_length] at hys
    dsimp only [gName]
    have hsz : ∀ e ∈ es.map (fun e => (e.1, e.2, cpX)), e.1 < n ∧ e.2.1 < n ∧ (cpA K).Sz 1 36 e.2.2 := fun e m => by
      obtain ⟨f, mf, rfl⟩ := List.mem_map.mp m
      obtain ⟨a, b⟩ := hin f mf
      exact ⟨a, b, sz_cpx⟩
    refine ⟨_, rfl, _, rfl, sl_of (by simp), fun z hz => ?_⟩
    have x4 := ext_upd (o := .tup []) hz
    have g4 : upd H3 z (.tup []) z = some (.tup []) := upd_same
    generalize upd H3 z (.tup []) = H4 at *
    refine ⟨n, D, ys, _, _, rfl, SqL.of (x4.lst hD3), paired_imp (fun _ _ ⟨b, wv, e, k1, k2⟩ => ⟨b, wv, e, x4.kp.tup k1, (cpA K).keep x4.kp k2⟩) hys, hsz, by rw [List.length_map]; exact h24, by omega, ⟨z, rfl, _, SqT.of g4, .nil⟩, G.ext (s3.trans x4), fun l ds H5 x5 nl L => ?_⟩
    refine ⟨sl_of (by simp), fun z2 hz2 => ?_⟩
    have x6 := ext_upd (o := .tup []) hz2
    have g6 : upd H5 z2 (.tup []) z2 = some (.tup []) := upd_same
    generalize upd H5 z2 (.tup []) = H6 at *
    have ll := linkS_len (A := cpA K) n (es.map fun e => (e.1, e.2, cpX))
    have lok := linkS_ok (A := cpA K) (count := n) (Y := 36) _ _ rfl hsz
    rw [List.length_map] at lok
    have s6 := ((s3.trans x4).trans x5).trans x6
    refine ⟨l, _, _, _, ds, _, cpS.one, rfl, L.up x6, fun v hv => ?_, by rw [ll]; exact hn, ⟨_, rfl, T.k_ONE _⟩, ⟨z2, rfl, _, SqT.of g6, .nil⟩, ⟨_, rfl, T.k_ONE _⟩, sz_one 1, sz_one 1, sz_one 0, G.ext s6, fun v H7 x7 hv => q v H7 (s6.trans x7) ?_⟩
    · rw [ll] at hv ⊢
      have h := lok v hv
      exact ⟨h.bnd, h.nd, fun p hp => (cpA K).sz_le (by omega) (h.sz p hp), by have := h.len; omega⟩
    · have e := MT.fr_pl cpS cpX hin n 0 0 (by omega) ⟨Nat.two_pow_pos _, fun i hi => by omega⟩
      have e2 : MT.Pl cpS cpX es 0 = MT.Fr cpS cpS.one (linkS (cpA K) n (es.map fun e => (e.1, e.2, cpX))) 0 0 := e.symm
      rw [e2]
      exact hv
/-! ### sets of edges, as the law goes through them -/
theorem Pl_perm {α : Type} (S : MT.Sr α) (X : α) {a b : List MT.Ed} (h : a.Perm b) : ∀ U, MT.Pl S X a U = MT.Pl S X b U := by
  induction h with
  | nil => exact fun _ => rfl
  | cons e _ ih =>
    intro U
    rw [MT.Pl, MT.Pl, ih U, ih (MT.orE U e)]
  | trans _ _ i1 i2 => exact fun U => (i1 U).trans (i2 U)
  | swap x y l =>
    intro U
    have h1 := MT.us_comm U x y
    rw [MT.Pl, MT.Pl, MT.Pl, MT.Pl, MT.Pl, MT.Pl, MT.orE_comm U y x]
    generalize MT.Pl S X l (MT.orE (MT.orE U x) y) = bxy
    generalize MT.Pl S X l (MT.orE U x) = bx
    generalize MT.Pl S X l (MT.orE U y) = byy
    generalize MT.Pl S X l U = a
    generalize MT.usE U x = p1 at *
    generalize MT.usE U y = p2 at *
    generalize MT.usE (MT.orE U x) y = p3 at *
    generalize MT.usE (MT.orE U y) x = p4 at *
    have sw : S.add (S.add a (S.mul X bx)) (S.mul X byy) = S.add (S.add a (S.mul X byy)) (S.mul X bx) := S.swap _ _ _
    have sw2 : S.add (S.add a (S.mul X bx)) (S.mul X (S.add byy (S.mul X bxy))) = S.add (S.add a (S.mul X byy)) (S.mul X (S.add bx (S.mul X bxy))) := by
      rw [S.mul_add, S.mul_add, ← S.add_assoc, ← S.add_assoc, sw]
    cases p1 <;> cases p2 <;> cases p3 <;> cases p4 <;> simp_all
def bitsN (m k : Nat) : List Nat := (List.range k).filter fun j => m.testBit j
def endsN (es : List MT.Ed) (m : Nat) : List Nat := (bitsN m es.length).flatMap fun k => [(es.getD k (0, 0)).1, (es.getD k (0, 0)).2]
def okU (U : Nat) (es : List MT.Ed) (m : Nat) : Prop := (endsN es m).Nodup ∧ ∀ x ∈ endsN es m, U.testBit x = false
instance (U : Nat) (es : List MT.Ed) (m : Nat) : Decidable (okU U es m) := inferInstanceAs (Decidable (_ ∧ _))
def trmM (es : List MT.Ed) (m : Nat) : Trm := (((((endsN es m).length / 2 : Nat) : Int), 0), 1)
def termsU (U : Nat) (es : List MT.Ed) : List Trm := ((List.range (2 ^ es.length)).filter fun m => decide (okU U es m)).map (trmM es)
theorem bits_snoc (m k : Nat) : bitsN m (k + 1) = bitsN m k ++ (if m.testBit k = true then [k] else []) := by
  unfold bitsN
  rw [List.range_succ, List.filter_append]
  congr 1
  by_cases h : m.testBit k = true
  · rw [if_pos h, List.filter_cons_of_pos h]
    rfl
  · rw [if_neg h, List.filter_cons_of_neg h]
    rfl
theorem flat_congr {β γ : Type} {f g : β → List γ} : ∀ {l : List β}, (∀ x ∈ l, f x = g x) → l.flatMap f = l.flatMap g
  | [], _ => rfl
  | x :: l, h => by
    rw [List.flatMap_cons, List.flatMap_cons, h x (List.mem_cons_self ..), flat_congr fun y m => h y (List.mem_cons_of_mem _ m)]
theorem ends_off {es : List MT.Ed} {e : MT.Ed} {m : Nat} (h : m < 2 ^ es.length) : endsN (es ++ [e]) m = endsN es m := by
  unfold endsN
  rw [List.length_append, List.length_singleton, bits_snoc, if_neg (by rw [Nat.testBit_lt_two_pow h]; decide), List.append_nil]
  refine flat_congr fun k hk => ?_
  have := List.mem_range.mp (List.mem_filter.mp hk).1
  rw [List.getD_eq_getElem?_getD, List.getElem?_append_left this, ← List.getD_eq_getElem?_getD]
theorem bits_hi {m k : Nat} (h : m < 2 ^ k) : bitsN (2 ^ k + m) (k + 1) = bitsN m k ++ [k] := by
  rw [bits_snoc, Nat.testBit_two_pow_add_eq, Nat.testBit_lt_two_pow h]
  congr 1
  unfold bitsN
  refine List.filter_congr fun j hj => ?_
  have := List.mem_range.mp hj
  rw [Nat.testBit_two_pow_add_gt (by omega)]
theorem ends_on {es : List MT.Ed} {e : MT.Ed} {m : Nat} (h : m < 2 ^ es.length) : endsN (es ++ [e]) (2 ^ es.length + m) = endsN es m ++ [e.1, e.2] := by
  unfold endsN
  rw [List.length_append, List.length_singleton, bits_hi h, List.flatMap_append]
  congr 1
  · refine flat_congr fun k hk => ?_
    have := List.mem_range.mp (List.mem_filter.mp hk).1
    rw [List.getD_eq_getElem?_getD, List.getElem?_append_left this, ← List.getD_eq_getElem?_getD]
  · rw [List.flatMap_cons, List.flatMap_nil, List.append_nil, List.getD_eq_getElem?_getD, List.getElem?_append_right (Nat.le_refl _), Nat.sub_self]
    rfl
theorem ok_on {U : Nat} {es : List MT.Ed} {e : MT.Ed} {m : Nat} (h : m < 2 ^ es.length) : okU U (es ++ [e]) (2 ^ es.length + m) ↔ MT.usE U e = true ∧ okU (MT.orE U e) es m := by
  unfold okU MT.usE
  rw [ends_on h]
  generalize endsN es m = l
  constructor
  · rintro ⟨h1, h2⟩
    obtain ⟨n1, n2, n3⟩ := List.nodup_append.mp h1
    have ne : e.1 ≠ e.2 := fun z => by simp [z] at n2
    have u1 := h2 e.1 (List.mem_append_right _ (by simp))
    have u2 := h2 e.2 (List.mem_append_right _ (by simp))
    refine ⟨by rw [u1, u2, decide_eq_true ne]; rfl, n1, fun x hx => ?_⟩
    rw [MT.tb_orE, h2 x (List.mem_append_left _ hx), decide_eq_false (fun z => n3 x hx e.1 (by simp) z.symm), decide_eq_false (fun z => n3 x hx e.2 (by simp) z.symm)]
    rfl
  · rintro ⟨h1, n1, h2⟩
    simp only [Bool.and_eq_true, decide_eq_true_eq, Bool.not_eq_true'] at h1
    obtain ⟨⟨ne, u1⟩, u2⟩ := h1
    have h3 : ∀ x ∈ l, U.testBit x = false ∧ e.1 ≠ x ∧ e.2 ≠ x := fun x hx => by
      have := h2 x hx
      rw [MT.tb_orE] at this
      simp only [Bool.or_eq_false_iff, decide_eq_false_iff_not] at this
      exact ⟨this.1.1, this.1.2, this.2⟩
    refine ⟨List.nodup_append.mpr ⟨n1, by simp [ne], fun x hx y hy z => ?_⟩, fun x hx => ?_⟩
    · obtain ⟨_, a, b⟩ := h3 x hx
      rcases List.mem_cons.mp hy with q | q
      · exact a (by rw [← q, z])
      · exact b (by rw [← List.mem_singleton.mp q, z])
    · rcases List.mem_append.mp hx with hx | hx
      · exact (h3 x hx).1
      · rcases List.mem_cons.mp hx with q | q
        · rw [q]; exact u1
        · rw [List.mem_singleton.mp q]; exact u2
def shX (t : Trm) : Trm := ((t.1.1 + 1, t.1.2), t.2)
theorem terms_snoc (U : Nat) (es : List MT.Ed) (e : MT.Ed) : termsU U (es ++ [e]) = termsU U es ++ (if MT.usE U e = true then (termsU (MT.orE U e) es).map shX else []) := by
  unfold termsU
  rw [List.length_append, List.length_singleton, Nat.pow_succ, Nat.mul_two, List.range_add, List.filter_append, List.map_append]
  congr 1
  · have e1 : (List.range (2 ^ es.length)).filter (fun m => decide (okU U (es ++ [e]) m)) = (List.range (2 ^ es.length)).filter fun m => decide (okU U es m) := List.filter_congr fun m hm => by
      refine decide_eq_decide.mpr ?_
      unfold okU
      rw [ends_off (List.mem_range.mp hm)]
    rw [e1]
    refine List.map_congr_left fun m hm => ?_
    unfold trmM
    rw [ends_off (List.mem_range.mp (List.mem_filter.mp hm).1)]
  · rw [List.filter_map, List.map_map]
    by_cases hu : MT.usE U e = true
    · rw [if_pos hu, List.map_map]
      have e1 : (List.range (2 ^ es.length)).filter ((fun m => decide (okU U (es ++ [e]) m)) ∘ (2 ^ es.length + ·)) = (List.range (2 ^ es.length)).filter fun m => decide (okU (MT.orE U e) es m) := List.filter_congr fun m hm => by
        show decide (okU U (es ++ [e]) (2 ^ es.length + m)) = _
        exact decide_eq_decide.mpr ((ok_on (List.mem_range.mp hm)).trans ⟨fun z => z.2, fun z => ⟨hu, z⟩⟩)
      rw [e1]
      refine List.map_congr_left fun m hm => ?_
      show trmM (es ++ [e]) (2 ^ es.length + m) = shX (trmM es m)
      unfold trmM shX
      rw [ends_on (List.mem_range.mp (List.mem_filter.mp hm).1), List.length_append]
      have : (((endsN es m).length + [e.1, e.2].length) / 2 : Nat) = (endsN es m).length / 2 + 1 := by
        show ((endsN es m).length + 2) / 2 = _
        omega
      rw [this]
      rfl
    · rw [if_neg hu]
      have e1 : (List.range (2 ^ es.length)).filter ((fun m => decide (okU U (es ++ [e]) m)) ∘ (2 ^ es.length + ·)) = [] := List.filter_eq_nil_iff.mpr fun m hm z => by
        have z : decide (okU U (es ++ [e]) (2 ^ es.length + m)) = true := z
        exact hu ((ok_on (List.mem_range.mp hm)).mp (of_decide_eq_true z)).1
      rw [e1]
      rfl
theorem canon_nil_eq : canon [] = [] := rfl
theorem mul_x (p : List Trm) : mulT [(((1 : Int), (0 : Int)), (1 : Int))] p = p.map shX := by
  unfold mulT
  rw [List.flatMap_cons, List.flatMap_nil, List.append_nil]
  refine List.map_congr_left fun t _ => ?_
  unfold shX
  have e1 : (1 : Int) + t.1.1 = t.1.1 + 1 := Int.add_comm _ _
  have e2 : (0 : Int) + t.1.2 = t.1.2 := Int.zero_add _
  have e3 : (1 : Int) * t.2 = t.2 := Int.one_mul _
  show (((1 : Int) + t.1.1, (0 : Int) + t.1.2), (1 : Int) * t.2) = _
  rw [e1, e2, e3]
theorem pl_terms : ∀ (n : Nat) (es : List MT.Ed) (U : Nat), es.length = n → PM.Eqv (termsU U es) (MT.Pl cpS cpX es.reverse U).1
  | 0, es, U, h => by
    rw [List.length_eq_zero_iff.mp h]
    have : termsU U [] = PM.one := by
      have e0 : endsN [] 0 = [] := rfl
      have r : List.range (2 ^ ([] : List MT.Ed).length) = [0] := rfl
      unfold termsU
      have ok : okU U [] 0 := ⟨by rw [e0]; exact List.nodup_nil, fun x hx => by rw [e0] at hx; cases hx⟩
      rw [r, List.filter_cons_of_pos (p := fun m => decide (okU U [] m)) (decide_eq_true ok), List.filter_nil]
      rfl
    rw [this]
    exact .refl _
  | n + 1, es, U, h => by
    have hne : es ≠ [] := fun e => by rw [e] at h; cases h
    have hd := List.dropLast_concat_getLast hne
    have hl : es.dropLast.length = n := by rw [List.length_dropLast, h]; rfl
    rw [← hd]
    generalize es.getLast hne = e
    generalize es.dropLast = r at *
    have i1 := pl_terms n r U hl
    have i2 := pl_terms n r (MT.orE U e) hl
    rw [terms_snoc, List.reverse_append]
    show PM.Eqv _ (MT.Pl cpS cpX (e :: r.reverse) U).1
    rw [MT.Pl]
    by_cases hu : MT.usE U e = true
    · rw [if_pos hu, if_pos hu]
      refine (i1.append ?_).trans (PM.eqv_canon _).symm
      rw [← mul_x]
      exact ((PM.Eqv.refl _).mul i2).trans (PM.eqv_canon _).symm
    · rw [if_neg hu, if_neg hu, List.append_nil]
      exact i1
theorem pl_canon (es : List MT.Ed) : canon (termsU 0 es) = (MT.Pl cpS cpX es 0).1 := by
  rw [← Pl_perm cpS cpX (List.reverse_perm es) 0]
  exact PM.canon_uniq (PM.canon_canon _) (MT.Pl cpS cpX es.reverse 0).2 ((PM.eqv_canon _).trans (pl_terms _ es 0 rfl))
theorem ok_zero (es : List MT.Ed) (m : Nat) : okU 0 es m ↔ (endsN es m).Nodup := ⟨fun h => h.1, fun h => ⟨h, fun x _ => Nat.zero_testBit x⟩⟩
theorem count_cast (l : List Nat) (a : Nat) : (l.map fun x => ((x : Nat) : Int)).count ((a : Nat) : Int) = l.count a := by
  induction l with
  | nil => rfl
  | cons x l ih =>
    rw [List.map_cons, List.count_cons, List.count_cons, ih]
    congr 1
    by_cases h : x = a
    · rw [h]
      simp
    · have : ¬ ((x : Nat) : Int) = ((a : Nat) : Int) := by omega
      simp [h, this]
theorem alone_iff (l : List Nat) : (l.filter fun x => decide (l.count x = 1)).length = l.length ↔ l.Nodup := by
  rw [List.length_filter_eq_length_iff, List.nodup_iff_count]
  constructor
  · intro h a
    by_cases m : a ∈ l
    · have := of_decide_eq_true (h a m)
      omega
    · rw [List.count_eq_zero.mpr m]
      omega
  · intro h a m
    have h1 := h a
    have h2 := List.count_pos_iff.mpr m
    exact decide_eq_true (by omega)
end
end KP
/-! ### list.count over integers -/
namespace EXT
open PySem PySem.Spec PyProof.Rows L2
section
variable {X : Cx}
def rCountI (K : PySem.W.Frag) : V → List V → Hp → VK → Prop := fun x xs H Q => ∃ (a : Addr) (is : List Int) (i : Int), x = .ref a ∧ xs = [.int i] ∧ SqL K H a (is.map V.int) ∧ Q (.int ((is.count i : Nat) : Int)) H
theorem mt_countL : MtR X "list.count" (rCountI X.K) := by
  intro pins s σ H x xs v us Q I rx rxs h
  obtain ⟨a, is, i, rfl, rfl, hs, q⟩ := h
  cases rx
  cases rxs with
  | cons ry rt =>
    cases rt
    obtain ⟨t, rfl⟩ := ry
    obtain ⟨its, rv, ⟨o, n, ho, hc, hdn, hd⟩, hlen⟩ := I.list hs
    exact count_list_ints (vs := its) (ns := is) ⟨o, ho, hc, n, hd⟩ (Vals.ints rv) ⟨.int ((is.count i : Nat) : Int), H, I.tok _, ⟨_, rfl⟩, q⟩
theorem mt_countK {K : PySem.W.Frag} (hK : X.K = K := by rfl) : MtR X "list.count" (rCountI K) := by
  subst hK
  exact mt_countL
end
section
variable {X : Cx}
/-- a method's call whose reading names the frame's fragment, not the context's: for comprehensions -/
theorem pe_bmK {K : PySem.W.Frag} {o e : Expr} {es : List Expr} {apos cpos : Pos} {T : String} {name : Str} {id : String} {r : V → List V → Hp → VK → Prop} {to : TE} {t : TA} (hK : X.K = K) (pa : PlainAttrs T) (slot : Slot T name id) (hty : typeOf (.builtin id) = pure (.type "method_descriptor")) (hm : MtR X id r) (ho : PE X o to) (ha : PA X (e :: es) t)
    (hbase : attributeBase o name X.env (eval o X.env) = eval o X.env := by rfl)
    (hfew : ((backTo cpos (starEach (e :: es) X.env)).all (fun x => !x.1) && (backToKw cpos (keywordEach [] X.env)).all (fun x => x.1.isSome)
      && decide ((e :: es).length + ([] : List Keyword).length + (if ([] : List Keyword).isEmpty then 0 else 1) < 30)) = true := by rfl)
    (hline : (apos.endLine == cpos.line) = true := by rfl) (hs : starEach (e :: es) X.env = (false, eval e X.env) :: starEach es X.env := by rfl) (hplain : (backTo cpos (starEach es X.env)).any (·.1) = false := by rfl) :
    PE X (.Call (.Attribute o name apos) (e :: es) [] cpos) (tBM K T r to t) := by
  subst hK
  exact pe_bm pa slot hty hm ho ha hbase hfew hline hs hplain
end
end EXT
namespace KP
open PySem PySem.Spec PyProof.Rows L2 EXT SDT GXP AUG
open PM (Trm Ex canon mulT look put gather keys addTo pw one addE Canon)
section
variable {P : Program} {w : World} {K : PySem.W.Frag} {mg : Str → Option Value} {base : Heap}
theorem TermT.upd {H : Hp} {D : Addr} {o : HO} {acc : List V} {v : V} {t : Trm} (hD : H D = some (.lst acc)) (h : TermT H v t) : TermT (L2.upd H D o) v t := by
  obtain ⟨a, b, e, h1, h2⟩ := h
  have n1 : a ≠ D := fun z => by rw [z, hD] at h1; cases h1
  have n2 : b ≠ D := fun z => by
    have h2 : H b = some (.tup [.int t.1.1, .int t.1.2]) := h2
    rw [z, hD] at h2
    cases h2
  exact ⟨a, b, e, by rw [upd_ne n1]; exact h1, by show L2.upd H D o b = _; rw [upd_ne n2]; exact h2⟩
theorem termsT_upd {H : Hp} {D : Addr} {o : HO} {acc : List V} {vs : List V} {ts : List Trm} (hD : H D = some (.lst acc)) (h : TermsT H vs ts) : TermsT (L2.upd H D o) vs ts := paired_imp (fun _ _ k => TermT.upd hD k) h
theorem termT_one {H : Hp} {a b : Addr} {t : Trm} (h1 : H a = some (.tup [.ref b, .int t.2])) (h2 : PairAt H t.1 b) : TermT H (.ref a) t := ⟨a, b, rfl, h1, h2⟩
theorem read_len (D : List Trm) (ks : List Ex) : (PM.read D ks).length ≤ ks.length := by
  unfold PM.read
  rw [List.length_map]
  exact List.length_filter_le _ _
theorem read_yes {D : List Trm} {ks : List Ex} {k : Ex} (nz : look D k ≠ 0) : PM.read D (ks ++ [k]) = PM.read D ks ++ [(k, look D k)] := by
  unfold PM.read
  rw [List.filter_append, List.filter_cons_of_pos (by simp [nz]), List.filter_nil, List.map_append]
  rfl
theorem read_no {D : List Trm} {ks : List Ex} {k : Ex} (nz : look D k = 0) : PM.read D (ks ++ [k]) = PM.read D ks := by
  unfold PM.read
  rw [List.filter_append, List.filter_cons_of_neg (by simp [nz]), List.filter_nil, List.append_nil]
theorem nz_yes {x : Int} (z : (!decide (V.int x = V.int 0)) = true) : x ≠ 0 := fun w => by
  rw [w] at z
  cases z
theorem nz_no {x : Int} (z : (!decide (V.int x = V.int 0)) = false) : x = 0 := by
  have z2 : decide (V.int x = V.int 0) = true := by simpa using z
  exact V.int.inj (of_decide_eq_true z2)
def spLPoly (K : PySem.W.Frag) : Sp := fun vs H Q _ => ∃ (a : Addr) (xs : List V) (ts : List Trm), vs = [.ref a] ∧ (SqL K H a xs ∨ SqT K H a xs) ∧ TermsT H xs ts ∧ ts.length < 1000000 ∧ NewP H Q (canon ts)
theorem ok_law_poly (T : Top K mg) : FnOk P w K mg base CX0 1 T.f_law_poly T.d_law_poly ["terms"] (spLPoly K) := by
  refine T.F_law_poly.ok sc_law_poly (fun vs H Q E h => ?_) (fun cdv A outer s H vs Q E hr h => ?_)
  · obtain ⟨a, xs, ts, rfl, _⟩ := h
    rfl
  · obtain ⟨a, xs, ts, rfl, ha, hts, hlen, q⟩ := h
    refine ⟨_, (pss_cons (ps_set (i := 1) sc_law_poly.nd rfl (by first | exact .inl rfl | exact .inr rfl) pe_dnewT)
      (pss_cons (ps_for PassesOwn.never rfl (pi_seq (pv 0)) (pg_tup rfl (pgs_cons (pg_name (i := 2) sc_law_poly.nd rfl (by first | exact .inl rfl | exact .inr rfl)) (pgs_cons (pg_name (i := 3) sc_law_poly.nd rfl (by first | exact .inl rfl | exact .inr rfl)) pgs_nil))) (pss_one (ps_dput (hu_of hr) (pv 1) (pv 2) (pe_op op_add (pe_dget2 (hu_of hr) (pv 1) (pv 2) pe_int ⟨rfl, rfl, rfl, rfl⟩) (pv 3)) rfl)))
      (pss_one (ps_ret (pe_callTy call_tuple_of (by rfl) T.m_tuple (by decide +kernel) (pa_cons (pe_lc (own := [("key", 2)]) (g := gName 2) rfl sc_law_poly.nd (pi_list (pe_callB (SDT.cr_sortedDT rfl) (by rfl) T.m_sorted (by decide +kernel) (pa_cons (pv 1) pa_nil))) (blkOk_by (own := [("key", 2)]) (N := n_law_poly) (sc := defScope s_law_poly) (by decide +kernel)) (fun _ _ _ _ _ => (pg_name (i := 2) sc_law_poly.nd rfl (by first | exact .inl rfl | exact .inr rfl))) (fun _ _ _ _ _ => pts_one (pt_cmpR op_ne (pe_dget (hu_of hr) (pv 1) (pv 2) (fun _ _ => rfl)) pe_int (nomark _))) (fun _ _ _ _ _ => (pe_tup (pa_cons (pv 2) (pa_cons (pe_dget (hu_of hr) (pv 1) (pv 2) (fun _ _ => rfl)) pa_nil))))) pa_nil)))))), ?_⟩
    intro d hd
    have e1 : Ext H (upd H d (.dT [])) := ext_upd hd
    have hxl := hts.length
    refine ⟨_, rfl, a, rfl, for_seq (xs := xs) ha (fun i σ H1 => (∃ x y, σ = [some (.ref a), some (.ref d), x, y]) ∧ Ext H H1 ∧ H1 d = some (.dT (kvsOf (gather (ts.take i))))) ⟨⟨_, _, rfl⟩, e1, upd_same⟩ (fun i σ H1 _ h => h.2.1) (fun i x σ H1 hi hP => ?_) (fun σ H1 hP => ?_)⟩
    · obtain ⟨⟨x1, x2, rfl⟩, s1, hd1⟩ := hP
      obtain ⟨t, ht, ht1⟩ := paired_at hts hi
      obtain ⟨a1, b1, rfl, g1, g2⟩ := s1.termT ht1
      refine ⟨a1, _, rfl, .inl (.inl g1), rfl, _, _, rfl, _, _, rfl, rfl, ?_⟩
      refine ⟨_, rfl, d, rfl, .inr ⟨_, .inl hd1⟩, _, rfl, _, DGet.t hd1 (k := pairKey t.1) g2, _, rfl, look (gather (ts.take i)) t.1, t.2, getD_kvs _ _, rfl, ?_⟩
      refine ⟨_, rfl, _, rfl, d, _, rfl, DPut.t hd1 (k := pairKey t.1) g2 ?_, ?_⟩
      · have l1 := gather_len (ts.take i)
        have l2 : (ts.take i).length ≤ ts.length := by rw [List.length_take]; omega
        rw [length_kvs]
        exact sl_lt (by omega)
      · refine ⟨⟨_, _, rfl⟩, s1.own hd, ?_⟩
        rw [upd_same, put_kvs, take_snoc ht, gather_snoc]
        rfl
    · obtain ⟨⟨x1, x2, rfl⟩, s1, hd1⟩ := hP
      have l1 := gather_len ts
      rw [hxl, List.take_length] at hd1
      have hn := PM.gather_nodup ts
      refine ⟨_, rfl, d, _, keys (gather ts), rfl, .inl hd1, keys_kvs _, fun ks bs l hp hs hb hl => ?_⟩
      have s2 : Ext H (upd H1 l (.lst (bs.map V.ref))) := s1.new hl
      have kl : ks.length ≤ ts.length := by
        have h3 := hp.length_eq
        have h4 : (keys (gather ts)).length = (gather ts).length := by
          unfold keys
          rw [List.length_map]
        omega
      refine ⟨l, rfl, ⟨_, SqL.of upd_same⟩, fun D hD => lc_list (xs := bs.map V.ref) (fun i H3 => Ext (upd H1 l (.lst (bs.map V.ref))) H3 ∧ ∃ zs, H3 D = some (.lst zs) ∧ TermsT H3 zs (PM.read (gather ts) (ks.take i)))
        ⟨ext_upd hD, [], upd_same, .nil⟩ (fun i H3 _ h => SqL.of (h.1.lst upd_same)) (fun i x H3 hi hP => ?_) (fun H3 hP => ?_)⟩
      · obtain ⟨s3, zs, hz, hy⟩ := hP
        rw [List.getElem?_map] at hi
        cases hbi : bs[i]? with
        | none => rw [hbi] at hi; cases hi
        | some b =>
          rw [hbi] at hi
          cases hi
          obtain ⟨k, hk, hkb⟩ := paired_at' hb hbi
          have e3 : Ext H1 H3 := (ext_upd hl).trans s3
          have hb3 : PairAt H3 k b := e3.at hkb
          have hm : k ∈ keys (gather ts) := hp.mem_iff.mp (List.mem_of_getElem? hk)
          have hg : DGet H3 d (.ref b) (some (.int (look (gather ts) k))) := by
            have := DGet.t (e3.dt hd1) (k := pairKey k) hb3
            rw [valV_kvs, if_pos hm] at this
            exact this
          refine ⟨rfl, _, rfl, _, rfl, d, _, rfl, hg, rfl, _, rfl, iteB (fun z => ?_) (fun z => ?_)⟩
          · refine ⟨_, rfl, _, rfl, _, rfl, d, _, rfl, hg, sl2, fun p2 hp2 => ?_⟩
            have hz2 := (ext_upd (o := .tup [.ref b, .int (look (gather ts) k)]) hp2).lst hz
            refine ⟨zs, hz2, ?_, (s3.new hp2).own hD, zs ++ [.ref p2], upd_same, ?_⟩
            · have l3 := hy.length
              have l4 := read_len (gather ts) (ks.take i)
              have l5 : (ks.take i).length ≤ ks.length := by rw [List.length_take]; omega
              exact sl_lt (by omega)
            · rw [take_snoc hk, read_yes (nz_yes z)]
              exact termsT_upd hz2 (paired_snoc ((ext_upd hp2).termsT hy) ⟨p2, b, rfl, upd_same, (ext_upd hp2).at hb3⟩)
          · refine ⟨s3, zs, hz, ?_⟩
            rw [take_snoc hk, read_no (nz_no z)]
            exact hy
      · obtain ⟨s3, zs, hz, hy⟩ := hP
        have ek : PM.read (gather ts) (ks.take (bs.map V.ref).length) = canon ts := by
          rw [List.length_map, ← hb.length, List.take_length]
          exact PM.read_canon hn (PM.gather_eqv ts) hp (hs.imp fun h => lex_lt.mp h)
        rw [ek] at hy
        have e3 : Ext H H3 := s2.trans s3
        refine ⟨D, zs, rfl, .inl ⟨SqL.of hz, fun p hp2 => ?_⟩⟩
        exact q p _ (e3.new hp2) ⟨zs, upd_same, (ext_upd hp2).termsT hy⟩ (e3.free hp2)
def spLBits (K : PySem.W.Frag) : Sp := fun vs H Q _ => ∃ (m n : Nat), vs = [.int (m : Int), .int (n : Int)] ∧ n ≤ 100 ∧ ∀ l H', Ext H H' → H l = none → H' l = some (.lst ((bitsN m n).map fun k => V.int ((k : Nat) : Int))) → Q (.ref l) H'
theorem ok_law_bits (T : Top K mg) : FnOk P w K mg base CX0 1 T.f_law_bits T.d_law_bits ["mask", "count"] (spLBits K) := by
  refine T.F_law_bits.ok sc_law_bits (fun vs H Q E h => ?_) (fun cdv A outer s H vs Q E hr h => ?_)
  · obtain ⟨m, n, rfl, _⟩ := h
    rfl
  obtain ⟨m, n, rfl, hn, q⟩ := h
  refine ⟨_, (pss_one (ps_ret (pe_lc (own := [("k", 2)]) (g := gName 2) rfl sc_law_bits.nd (pi_range1 (by rfl) T.m_range (pa_cons (pv 1) pa_nil)) (blkOk_by (own := [("k", 2)]) (N := n_law_bits) (sc := defScope s_law_bits) (by decide +kernel)) (fun _ _ _ _ _ => (pg_name (i := 2) sc_law_bits.nd rfl (by first | exact .inl rfl | exact .inr rfl))) (fun _ _ _ _ _ => pts_one (pt_truthI (pe_op op_and (pe_op op_shr (pv 0) (pv 2)) pe_int) (by intro _; rfl))) (fun _ _ _ _ _ => (pv 2))))), ?_⟩
  refine ⟨_, rfl, _, rfl, by omega, by omega, fun D hD => lc_range (lo := 0) (n := n) (fun i H3 => Ext H H3 ∧ H3 D = some (.lst ((bitsN m i).map fun k => V.int ((k : Nat) : Int)))) ⟨ext_upd hD, upd_same⟩ (fun i H3 hi hP => ?_) (fun H3 hP => ?_)⟩
  · obtain ⟨s3, hD3⟩ := hP
    have hb := bits_snoc m i
    have lb : (bitsN m i).length ≤ i := by
      unfold bitsN
      have := List.length_filter_le (fun j => m.testBit j) (List.range i)
      rwa [List.length_range] at this
    have h0 : (0 : Int) + ((i : Nat) : Int) = ((i : Nat) : Int) := Int.zero_add _
    dsimp only [gName]
    rw [h0]
    refine ⟨rfl, _, rfl, _, rfl, _, _, rfl, rfl, Int.natCast_nonneg _, _, _, rfl, rfl, _, rfl, ?_⟩
    rw [tbn]
    by_cases z : m.testBit i = true
    · rw [z]
      refine iteT ⟨_, rfl, _, hD3, sl_lt (by rw [List.length_map]; omega), s3.own hD, ?_⟩
      rw [upd_same, hb, if_pos z, List.map_append]
      rfl
    · rw [Bool.eq_false_iff.mpr z]
      refine iteF ⟨s3, ?_⟩
      rw [hb, if_neg z, List.append_nil]
      exact hD3
  · obtain ⟨s3, hD3⟩ := hP
    exact q D H3 s3 hD hD3
/-! ### data that may be laid -/
def Gd (n : Nat) (d : PyData) : Prop := d.canLay0 = true ∧ d.depth ≤ n
theorem gd_int (i : Int) : Gd 3 (.int i) := ⟨by simp [PyData.canLay0], by simp [PyData.depth]⟩
theorem gd_all {n : Nat} : ∀ {ds : List PyData}, (∀ x ∈ ds, Gd n x) → PyData.canLayAll0 ds = true ∧ PyData.depthAll ds ≤ n
  | [], _ => ⟨by simp [PyData.canLayAll0], by simp [PyData.depthAll]⟩
  | d :: ds, h => by
    obtain ⟨h1, h2⟩ := h d List.mem_cons_self
    obtain ⟨h3, h4⟩ := gd_all fun x m => h x (List.mem_cons_of_mem _ m)
    simp only [PyData.canLayAll0, PyData.depthAll, h1, h3, Bool.and_self, true_and]
    omega
theorem gd_tup {n : Nat} {ds : List PyData} (h : ∀ x ∈ ds, Gd n x) : Gd (n + 1) (.tuple ds) := by
  obtain ⟨h1, h2⟩ := gd_all h
  refine ⟨by simp only [PyData.canLay0, h1], ?_⟩
  simp only [PyData.depth]
  omega
theorem gd_lst {n : Nat} {ds : List PyData} (h : ∀ x ∈ ds, Gd n x) : Gd (n + 1) (.list ds) := by
  obtain ⟨h1, h2⟩ := gd_all h
  refine ⟨by simp only [PyData.canLay0, h1], ?_⟩
  simp only [PyData.depth]
  omega
theorem Gd.up {n m : Nat} {d : PyData} (h : Gd n d) (k : n ≤ m) : Gd m d := ⟨h.1, Nat.le_trans h.2 k⟩
theorem Gd.sh {n : Nat} {d : PyData} (h : Gd n d) (k : n ≤ 64 := by decide) : SeqAt.shaped d = true := by
  unfold SeqAt.shaped
  rw [h.1, Bool.true_and]
  exact decide_eq_true (Nat.le_trans h.2 k)
theorem eqv_self {n : Nat} {d : PyData} (h : Gd n d) : PyData.eqv d d = true := SeqAt.eqv_refl d h.1
theorem gd_term (t : Trm) : Gd 5 (termD t) := gd_tup fun x m => by
  rcases List.mem_cons.mp m with rfl | m
  · exact gd_tup fun y m => by
      rcases List.mem_cons.mp m with rfl | m
      · exact gd_int _
      · rw [List.mem_singleton.mp m]
        exact gd_int _
  · rw [List.mem_singleton.mp m]
    exact (gd_int _).up (by decide)
theorem gd_poly (ts : List Trm) : Gd 6 (polyD ts) := gd_tup fun x m => by
  obtain ⟨t, _, rfl⟩ := List.mem_map.mp m
  exact gd_term t
theorem k_one {fO t1 t2 : Addr} {q1 q2 q3 : Option Addr} {m1 m2 m3 : Nat} {u1 u2 u3 : Tok} {w1 w2 w3 : Array (Option Value)} (o1 : K.lookup fO = some ⟨.type "tuple", q1, .seq #[.ref t1] m1, w1⟩) (o2 : K.lookup t1 = some ⟨.type "tuple", q2, .seq #[.ref t2, .int 1 u1] m2, w2⟩)
    (o3 : K.lookup t2 = some ⟨.type "tuple", q3, .seq #[.int 0 u2, .int 0 u3] m3, w3⟩) : ∀ H, PolyAt K H fO one := fun H =>
  ⟨[.ref t1], .inr ⟨_, _, _, o1, rfl, rfl, by rw [sizeLine_eq]; simp, .cons rfl .nil⟩, .cons ⟨t1, t2, rfl, .inr ⟨_, _, _, o2, rfl, rfl, by rw [sizeLine_eq]; simp, .cons rfl (.cons ⟨_, rfl⟩ .nil)⟩, .inr ⟨_, _, _, o3, rfl, rfl, by rw [sizeLine_eq]; simp, .cons ⟨_, rfl⟩ (.cons ⟨_, rfl⟩ .nil)⟩⟩ .nil⟩
theorem poly_dp' {H : Hp} {a : Addr} {ts : List Trm} (h : PolyAt K H a ts) : Dp K H (.ref a) (polyD ts) := by
  obtain ⟨xs, h1, h2⟩ := h
  exact .tup h1 (terms_dp h2)
def spLaw (T : Top K mg) : Sp := fun vs H Q _ => ∃ (a : Addr) (ns : List Int), vs = [.ref a] ∧ SqL K H a (ns.map V.int) ∧ Tg T H ∧ ∀ H', Q (.bl true) H'
theorem law_in (T : Top K mg) (H : Hp) (a : Addr) (ns : List Int) (hl : ns.length ≤ 63) (hb : ∀ z ∈ ns, Builtin.Int.intBits z ≤ 1048576) (G : Tg T H) (hS : SqL K H a (ns.map V.int)) : spLaw T [.ref a] H (fun v _ => v = .bl true) fun _ _ _ => False := ⟨a, ns, rfl, hS, G, fun _ => rfl⟩
theorem tupD_poly {ts : List Trm} (h : ts.length < 1000000) : tupD 4 (polyD ts) := ⟨by rw [List.length_map]; exact h, fun x m => by
  obtain ⟨t, _, rfl⟩ := List.mem_map.mp m
  refine ⟨by simp, fun y n => ?_⟩
  simp only [List.mem_cons, List.not_mem_nil, or_false] at n
  rcases n with rfl | rfl
  · refine ⟨by simp, fun z k => ?_⟩
    simp only [List.mem_cons, List.not_mem_nil, or_false] at k
    rcases k with rfl | rfl <;> trivial
  · trivial⟩
/-- an edge of the law: two ends and a pair -/
def EdL (H : Hp) (v : V) (e : Nat × Nat) : Prop := ∃ a p, v = .ref a ∧ H a = some (.tup [.int ((e.1 : Nat) : Int), .int ((e.2 : Nat) : Int), .ref p])
theorem edl_up {H H' : Hp} (s : Ext H H') {xs : List V} {es : List (Nat × Nat)} (h : Paired (EdL H) xs es) : Paired (EdL H') xs es := paired_imp (fun _ _ ⟨a, p, e, g⟩ => ⟨a, p, e, s.keep _ _ g (fun _ z => by cases z)⟩) h
theorem edl_upd {H : Hp} {D : Addr} {acc : List V} {o : HO} (hD : H D = some (.lst acc)) {xs : List V} {es : List (Nat × Nat)} (h : Paired (EdL H) xs es) : Paired (EdL (upd H D o)) xs es := paired_imp (fun _ _ ⟨a, p, e, g⟩ => ⟨a, p, e, by rw [upd_ne (fun z => by rw [z, hD] at g; cases g)]; exact g⟩) h
theorem edl_n {H : Hp} {xs : List V} {es : List (Nat × Nat)} (h : Paired (EdL H) xs es) : Paired (EdN K H) xs es := paired_imp (fun _ _ ⟨a, p, e, g⟩ => ⟨a, _, e, SqT.of g⟩) h
def endsL (es : List MT.Ed) (L : List Nat) : List Nat := L.flatMap fun k => [(es.getD k (0, 0)).1, (es.getD k (0, 0)).2]
theorem ok_law {f : Addr} {d : FuncData} (F : Fun K "law" "law" s_law f d) (T : Top K mg) (B : Tb T base) : FnOk P w K mg base CX0 8 f d ["script"] (spLaw T) := by
  refine F.ok sc_law (fun vs H Q E h => ?_) (fun cdv A outer s H vs Q E hr h => ?_)
  · obtain ⟨a, ns, rfl, _⟩ := h
    rfl
  obtain ⟨a, ns, rfl, hS, G, q⟩ := h
  refine ⟨_, (pss_cons (ps_set (i := 1) sc_law.nd rfl (by first | exact .inl rfl | exact .inr rfl) (pe_callB call_abs (by rfl) T.m_abs (by decide +kernel) (pa_cons (pe_call (ok_law_cell T) (hr.mono (by decide)) (by rfl) T.g_law_cell T.F_law_cell.kp T.b_law_cell .nil pass0 (pa_cons (pv 0) (pa_cons pe_int pa_nil))) pa_nil)))
      (pss_cons (ps_set (i := 2) sc_law.nd rfl (by first | exact .inl rfl | exact .inr rfl) (pe_op op_add pe_int (pe_op op_mod (pv 1) pe_int)))
      (pss_cons (ps_set (i := 3) sc_law.nd rfl (by first | exact .inl rfl | exact .inr rfl) (pe_call (ok_law_row T) (hr.mono (by decide)) (by rfl) T.g_law_row T.F_law_row.kp T.b_law_row .nil pass0 (pa_cons (pe_call (ok_law_cell T) (hr.mono (by decide)) (by rfl) T.g_law_cell T.F_law_cell.kp T.b_law_cell .nil pass0 (pa_cons (pv 0) (pa_cons pe_int pa_nil))) (pa_cons pe_int (pa_cons pe_int pa_nil)))))
      (pss_cons (ps_set (i := 4) sc_law.nd rfl (by first | exact .inl rfl | exact .inr rfl) (pe_lst pa_nil))
      (pss_cons (ps_for PassesOwn.never rfl (pi_range1 (by rfl) T.m_range (pa_cons (pe_op op_mod (pe_ix ix_list (pv 3) pe_int (fun _ _ => rfl)) pe_int) pa_nil)) (pg_name (i := 5) sc_law.nd rfl (by first | exact .inl rfl | exact .inr rfl)) (pss_one (ps_expr (pe_bm PySem.F.plainAttrs_list PySem.F.slot_list_append PySem.F.type_list_append mt_append (pv 4) (pa_cons (pe_tup (pa_cons (pe_op op_mod (pe_ix ix_list (pv 3) (pe_op op_add (pe_op op_mul pe_int (pv 5)) pe_int) (fun _ _ => rfl)) (pv 2)) (pa_cons (pe_op op_mod (pe_ix ix_list (pv 3) (pe_op op_add (pe_op op_mul pe_int (pv 5)) pe_int) (fun _ _ => rfl)) (pv 2)) (pa_cons (pe_tup (pa_cons (pe_op op_sub (pv 5) pe_int) (pa_cons pe_int pa_nil))) pa_nil)))) pa_nil)))))
      (pss_cons (ps_set (i := 6) sc_law.nd rfl (by first | exact .inl rfl | exact .inr rfl) (pe_lst pa_nil))
      (pss_cons (ps_for PassesOwn.never rfl (pi_range1 (by rfl) T.m_range (pa_cons (pe_op op_shl pe_int (pe_callB call_len_seq (by rfl) T.m_len (by decide +kernel) (pa_cons (pv 4) pa_nil))) pa_nil)) (pg_name (i := 7) sc_law.nd rfl (by first | exact .inl rfl | exact .inr rfl)) (pss_cons (ps_set (i := 8) sc_law.nd rfl (by first | exact .inl rfl | exact .inr rfl) (pe_lst pa_nil))
      (pss_cons (ps_for PassesOwn.never rfl (pi_list (pe_call (ok_law_bits T) (hr.mono (by decide)) (by rfl) T.g_law_bits T.F_law_bits.kp T.b_law_bits .nil pass0 (pa_cons (pv 7) (pa_cons (pe_callB call_len_seq (by rfl) T.m_len (by decide +kernel) (pa_cons (pv 4) pa_nil)) pa_nil)))) (pg_name (i := 5) sc_law.nd rfl (by first | exact .inl rfl | exact .inr rfl)) (pss_one (ps_aug (i := 8) sc_law.nd rfl (by first | exact .inl rfl | exact .inr rfl) (pe_lst (pa_cons (pe_ix ix_tup (pe_ix ix_list (pv 4) (pv 5) (fun _ _ => rfl)) pe_int (fun _ _ => rfl)) (pa_cons (pe_ix ix_tup (pe_ix ix_list (pv 4) (pv 5) (fun _ _ => rfl)) pe_int (fun _ _ => rfl)) pa_nil))) iop_ext)))
      (pss_cons (ps_setLc (i := 9) (own := [("end", 10)]) (g := gName 10) rfl sc_law.nd rfl rfl (sw_true rfl rfl rfl (by decide +kernel)) (pi_list (pv 8)) (blkOk_by (own := [("end", 10)]) (N := n_law) (sc := defScope s_law) (by decide +kernel)) (fun _ _ _ _ _ => (pg_name (i := 10) sc_law.nd rfl (by first | exact .inl rfl | exact .inr rfl))) (fun _ _ _ _ _ => pts_one (pt_cmpR op_eq (pe_bmK (K := K) rfl PySem.F.plainAttrs_list PySem.F.slot_list_count PySem.F.type_list_count (mt_countK (K := K)) (pv 8) (pa_cons (pv 10) pa_nil)) pe_int (nomark _))) (fun _ _ _ _ _ => (pv 10)))
      (pss_one (ps_if (pt_cmpR op_eq (pe_callB call_len_seq (by rfl) T.m_len (by decide +kernel) (pa_cons (pv 9) pa_nil)) (pe_callB call_len_seq (by rfl) T.m_len (by decide +kernel) (pa_cons (pv 8) pa_nil)) (nomark _)) (pss_one (ps_expr (pe_bm PySem.F.plainAttrs_list PySem.F.slot_list_append PySem.F.type_list_append mt_append (pv 6) (pa_cons (pe_tup (pa_cons (pe_tup (pa_cons (pe_op op_fdivZ (pe_callB call_len_seq (by rfl) T.m_len (by decide +kernel) (pa_cons (pv 8) pa_nil)) pe_int) (pa_cons pe_int pa_nil))) (pa_cons pe_int pa_nil))) pa_nil)))) pss_nil))))))
      (pss_cons (ps_set (i := 11) sc_law.nd rfl (by first | exact .inl rfl | exact .inr rfl) (pe_call (ok_matching_polynomial T B) (hr.mono (by decide)) (by rfl) T.g_matching_polynomial T.F_matching_polynomial.kp T.b_matching_polynomial .nil passes_no (pa_cons (pv 2) (pa_cons (pe_callTy call_list_of (by rfl) T.m_list (by decide +kernel) (pa_cons (pv 4) pa_nil)) pa_nil))))
      (pss_cons (ps_setLc (i := 12) (own := [("u", 13), ("v", 14), ("weight", 15)]) (g := gTup K 3 (gCons (gName 13) (gCons (gName 14) (gCons (gName 15) gNil)))) (tt := tYes) rfl sc_law.nd rfl rfl (sw_true rfl rfl rfl (by decide +kernel)) (pi_list (pv 4)) (blkOk_by (own := [("u", 13), ("v", 14), ("weight", 15)]) (N := n_law) (sc := defScope s_law) (by decide +kernel)) (fun _ _ _ _ _ => (pg_tup rfl (pgs_cons (pg_name (i := 13) sc_law.nd rfl (by first | exact .inl rfl | exact .inr rfl)) (pgs_cons (pg_name (i := 14) sc_law.nd rfl (by first | exact .inl rfl | exact .inr rfl)) (pgs_cons (pg_name (i := 15) sc_law.nd rfl (by first | exact .inl rfl | exact .inr rfl)) pgs_nil))))) (fun _ _ _ _ _ => pts_nil) (fun _ _ _ _ _ => (pe_tup (pa_cons (pv 13) (pa_cons (pv 14) (pa_cons (pe_tup (pa_cons pe_int (pa_cons pe_int pa_nil))) pa_nil))))))
      (pss_one (ps_ret (pe_and (pe_cmpR (op_eqD hr.units) (pv 11) (pe_call (ok_law_poly T) (hr.mono (by decide)) (by rfl) T.g_law_poly T.F_law_poly.kp T.b_law_poly .nil pass0 (pa_cons (pv 6) pa_nil)) (nomark _)) (pe_and (pe_call (ok_law_tuples T 4) (hr.mono (by decide)) (by rfl) T.g_law_tuples T.F_law_tuples.kp T.b_law_tuples .nil pass0 (pa_cons (pv 11) pa_nil)) (pe_one (pe_cmpR (op_eqD hr.units) (pe_call (ok_matching_polynomial T B) (hr.mono (by decide)) (by rfl) T.g_matching_polynomial T.F_matching_polynomial.kp T.b_matching_polynomial .nil passes_no (pa_cons (pv 2) (pa_cons (pv 12) pa_nil))) (pv 11) (nomark _)))))))))))))))), ?_⟩
  refine ⟨_, rfl, a, ns, 0, rfl, hS, cellZ ns 0, rfl, ?_⟩
  have c0 : 0 ≤ (if cellZ ns 0 < 0 then -cellZ ns 0 else cellZ ns 0) := by split <;> omega
  dsimp only [gName]
  generalize (if cellZ ns 0 < 0 then -cellZ ns 0 else cellZ ns 0) = cc at *
  refine ⟨_, rfl, _, _, rfl, rfl, (by decide : (0 : Int) < 6), _, _, rfl, rfl, ?_⟩
  obtain ⟨n, hn, n1, n6⟩ : ∃ n : Nat, (1 + cc % 6 : Int) = n ∧ 1 ≤ n ∧ n ≤ 6 := ⟨(1 + cc % 6).toNat, by omega, by omega, by omega⟩
  dsimp only [gName]
  rw [hn]
  refine ⟨_, rfl, a, ns, 1, rfl, hS, cellZ ns 1, 60, 17, rfl, by decide, by decide, by decide, fun l1 H1 rs s1 nl1 hl1 lr hr1 => ?_⟩
  dsimp only [gName]
  have dig : ∀ j : Nat, j < 17 → ∃ d : Int, (rs.map V.int)[j]? = some (.int d) ∧ 0 ≤ d ∧ d < 60 := fun j hj => by
    have hj2 : j < rs.length := by omega
    refine ⟨rs[j], by rw [List.getElem?_map, List.getElem?_eq_getElem hj2]; rfl, hr1 _ (List.getElem_mem hj2)⟩
  obtain ⟨d0, hd0, p0, _⟩ := dig 0 (by decide)
  refine ⟨by rw [sizeLine_eq]; simp, fun el hel => ?_⟩
  dsimp only [gName]
  have x2 := ext_upd (o := .lst []) hel
  have w2 : upd H1 el (.lst []) el = some (.lst []) := upd_same
  have nel : H1 el = none := hel
  generalize upd H1 el (.lst []) = H2 at *
  obtain ⟨m, hm, m8⟩ : ∃ m : Nat, (d0 % 9 : Int) = m ∧ m ≤ 8 := ⟨(d0 % 9).toNat, by omega, by omega⟩
  refine ⟨_, rfl, l1, _, _, _, rfl, rfl, SqL.of (x2.lst hl1), atI_nat (j := 0) hd0, _, _, rfl, rfl, (by decide : (0 : Int) < 9), (m : Int), congrArg (fun z => [V.int z]) hm, by omega, by omega, for_range (n := m) (fun i σ H3 => (∃ y5, σ = [some (.ref a), some (.int cc), some (.int (n : Int)), some (.ref l1), some (.ref el), y5, none, none, none, none, none, none, none, none, none, none]) ∧ Ext H1 H3 ∧ ∃ xs es, H3 el = some (.lst xs) ∧ Paired (EdL H3) xs es ∧ es.length = i ∧ ∀ e ∈ es, e.1 < n ∧ e.2 < n)
    ⟨⟨none, rfl⟩, x2, [], [], w2, .nil, rfl, fun e he => by cases he⟩ (fun i σ H3 hi hP => ?_) (fun σ H3 hP => ?_)⟩
  · obtain ⟨⟨y5, rfl⟩, s3, xs, es, hxs, hes, le, hin⟩ := hP
    have lx := hes.length
    obtain ⟨d1, hd1, a1, _⟩ := dig (2 * i + 1) (by omega)
    obtain ⟨d2, hd2, a2, _⟩ := dig (2 * i + 2) (by omega)
    have z0 : (0 : Int) + ((i : Nat) : Int) = ((i : Nat) : Int) := Int.zero_add _
    have z1 : (2 : Int) * ((i : Nat) : Int) + 1 = ((2 * i + 1 : Nat) : Int) := by omega
    have z2 : (2 : Int) * ((i : Nat) : Int) + 2 = ((2 * i + 2 : Nat) : Int) := by omega
    have pn : (0 : Int) < ((n : Nat) : Int) := by omega
    obtain ⟨u, hu, un⟩ : ∃ u : Nat, (d1 % (n : Int) : Int) = u ∧ u < n := ⟨(d1 % (n : Int)).toNat, by have := Int.emod_nonneg d1 (show (n : Int) ≠ 0 by omega); omega, by have := Int.emod_lt_of_pos d1 pn; have := Int.emod_nonneg d1 (show (n : Int) ≠ 0 by omega); omega⟩
    obtain ⟨v, hv, vn⟩ : ∃ v : Nat, (d2 % (n : Int) : Int) = v ∧ v < n := ⟨(d2 % (n : Int)).toNat, by have := Int.emod_nonneg d2 (show (n : Int) ≠ 0 by omega); omega, by have := Int.emod_lt_of_pos d2 pn; have := Int.emod_nonneg d2 (show (n : Int) ≠ 0 by omega); omega⟩
    dsimp only [gName]
    rw [z0]
    have hl3 := s3.lst hl1
    refine ⟨_, rfl, .inl ⟨rfl, _, SqL.of hxs⟩, _, rfl, _, rfl, _, _, rfl, rfl, .inr ⟨by omega, by omega⟩, _, _, rfl, rfl, l1, _, _, .int d1, rfl, rfl, SqL.of hl3, ?_, _, rfl, _, _, rfl, rfl, pn, _, rfl, _, rfl, _, _, rfl, rfl, .inr ⟨by omega, by omega⟩, _, _, rfl, rfl, l1, _, _, .int d2, rfl, rfl, SqL.of hl3, ?_, _, rfl, _, _, rfl, rfl, pn, _, rfl, _, _, rfl, rfl, sl2, fun t1 h1 => ⟨sl_of (by simp), fun t2 h2 => ?_⟩⟩
    · rw [z1]
      exact atI_nat hd1
    · rw [z2]
      exact atI_nat hd2
    · have x4 := ext_upd (o := .tup [.int (((i : Nat) : Int) - 3), .int 2]) h1
      have x5 := ext_upd (o := .tup [.int (d1 % (n : Int)), .int (d2 % (n : Int)), .ref t1]) h2
      have hx5 := x5.lst (x4.lst hxs)
      have g5 : upd (upd H3 t1 (.tup [.int (((i : Nat) : Int) - 3), .int 2])) t2 (.tup [.int (d1 % (n : Int)), .int (d2 % (n : Int)), .ref t1]) t2 = some (.tup [.int (d1 % (n : Int)), .int (d2 % (n : Int)), .ref t1]) := upd_same
      have hes5 := edl_up (x4.trans x5) hes
      have s5 := s3.trans (x4.trans x5)
      refine ⟨el, xs, .ref t2, rfl, rfl, hx5, sl_lt (by omega), ⟨_, rfl⟩, s5.own nel, xs ++ [.ref t2], es ++ [(u, v)], upd_same, ?_, by rw [List.length_append, le]; rfl, fun e he => ?_⟩
      · refine paired_snoc (edl_upd hx5 hes5) ⟨t2, t1, rfl, ?_⟩
        have nt : t2 ≠ el := fun z => by
          rw [← z] at hx5
          cases g5.symm.trans hx5
        rw [upd_ne nt]
        refine g5.trans ?_
        show _ = some (HO.tup [.int ((u : Nat) : Int), .int ((v : Nat) : Int), .ref t1])
        rw [hu, hv]
      · rcases List.mem_append.mp he with he | he
        · exact hin e he
        · rw [List.mem_singleton.mp he]
          exact ⟨un, vn⟩
  · obtain ⟨⟨y5, rfl⟩, s3, xs, es, hxs, hes, le, hin⟩ := hP
    have lx := hes.length
    have s03 := s1.trans s3
    clear w2 x2 hd0 dig hr1
    generalize hσ : y5 = y5' at *
    refine ⟨by rw [sizeLine_eq]; simp, fun tl htl => ?_⟩
    dsimp only [gName]
    have x4 := ext_upd (o := .lst []) htl
    have w4 : upd H3 tl (.lst []) tl = some (.lst []) := upd_same
    have ntl : H3 tl = none := htl
    have hxs4 := x4.lst hxs
    have hes4 := edl_up x4 hes
    generalize upd H3 tl (.lst []) = H4 at *
    obtain ⟨N, hN⟩ : ∃ N, N = 2 ^ es.length := ⟨_, rfl⟩
    have e2 : (1 : Int) * 2 ^ ((xs.length : Nat) : Int).toNat = ((N : Nat) : Int) := by rw [hN, Int.one_mul, Int.toNat_natCast, lx, Int.natCast_pow]; rfl
    have b8 : N ≤ 2 ^ 8 := by rw [hN]; exact Nat.pow_le_pow_right (by decide) (by omega)
    refine ⟨_, rfl, el, xs, rfl, .inl (SqL.of hxs4), 1, ((xs.length : Nat) : Int), rfl, rfl, ⟨by omega, by omega, by decide⟩, ((N : Nat) : Int), congrArg (fun z => [V.int z]) e2, by omega, by omega, for_range (n := N) (fun i σ H5 => (∃ y5 y7 y8 y9, σ = [some (.ref a), some (.int cc), some (.int (n : Int)), some (.ref l1), some (.ref el), y5, some (.ref tl), y7, y8, y9, none, none, none, none, none, none]) ∧ Ext H3 H5 ∧ ∃ zs, H5 tl = some (.lst zs) ∧ TermsT H5 zs (((List.range i).filter fun m => decide (endsN es m).Nodup).map (trmM es)))
      ⟨⟨y5', none, none, none, rfl⟩, x4, [], w4, .nil⟩ (fun i σ H5 hi hP => ?_) (fun σ H5 hP => ?_)⟩
    · obtain ⟨⟨y5, y7, y8, y9, rfl⟩, s5, zs, hzs, hts⟩ := hP
      have lh := List.length_filter_le (fun m => decide (endsN es m).Nodup) (List.range i)
      have lzs := hts.length
      rw [List.length_map] at lzs
      rw [List.length_range] at lh
      have z0 : (0 : Int) + ((i : Nat) : Int) = ((i : Nat) : Int) := Int.zero_add _
      dsimp only [gName]
      rw [z0]
      refine ⟨by rw [sizeLine_eq]; simp, fun nl hnl => ?_⟩
      dsimp only [gName]
      have x6 := ext_upd (o := .lst []) hnl
      have w6 : upd H5 nl (.lst []) nl = some (.lst []) := upd_same
      have hxs6 := (s5.trans x6).lst hxs
      have lb : (bitsN i es.length).length ≤ es.length := by
        unfold bitsN
        have := List.length_filter_le (fun j => i.testBit j) (List.range es.length)
        rwa [List.length_range] at this
      have fl2 : ∀ L : List Nat, (endsL es L).length = 2 * L.length := fun L => by
        induction L with
        | nil => rfl
        | cons k L ih =>
          show (endsL es (k :: L)).length = 2 * (L.length + 1)
          have : endsL es (k :: L) = [(es.getD k (0, 0)).1, (es.getD k (0, 0)).2] ++ endsL es L := rfl
          rw [this, List.length_append, ih]
          show 2 + _ = _
          omega
      refine ⟨_, rfl, _, rfl, el, xs, rfl, .inl (SqL.of hxs6), i, es.length, by rw [← lx]; rfl, by omega, fun bl H7 s7 nbl hbl => ⟨bl, rfl, ⟨_, SqL.of hbl⟩, ?_⟩⟩
      have nnb : nl ≠ bl := fun z => by
        rw [← z] at nbl
        cases w6.symm.trans nbl
      refine for_list (xs := (bitsN i es.length).map fun k => V.int ((k : Nat) : Int)) (fun j σ H8 => (∃ y5, σ = [some (.ref a), some (.int cc), some (.int (n : Int)), some (.ref l1), some (.ref el), y5, some (.ref tl), some (.int (i : Int)), some (.ref nl), y9, none, none, none, none, none, none]) ∧ Ext H5 H8 ∧ H8 nl = some (.lst ((endsL es ((bitsN i es.length).take j)).map fun k => V.int ((k : Nat) : Int))) ∧ H8 bl = some (.lst ((bitsN i es.length).map fun k => V.int ((k : Nat) : Int))))
        ⟨⟨y5, rfl⟩, x6.trans s7, s7.lst w6, hbl⟩ (fun j σ H8 _ h => SqL.of h.2.2.2) (fun j x σ H8 hj hP => ?_) (fun σ H8 hP => ?_)
      · obtain ⟨⟨y5, rfl⟩, s8, hn8, hb8⟩ := hP
        obtain ⟨k, hk, rfl⟩ : ∃ k, (bitsN i es.length)[j]? = some k ∧ x = V.int ((k : Nat) : Int) := by
          rw [List.getElem?_map] at hj
          obtain ⟨o, h1, h2⟩ := Option.map_eq_some_iff.mp hj
          exact ⟨o, h1, h2.symm⟩
        have hkl : k < es.length := List.mem_range.mp (List.mem_filter.mp (List.mem_of_getElem? hk)).1
        obtain ⟨e, hek⟩ : ∃ e, es[k]? = some e := ⟨_, List.getElem?_eq_getElem hkl⟩
        have egd : es.getD k (0, 0) = e := by
          rw [List.getD_eq_getElem?_getD, hek]
          rfl
        have hkx : k < xs.length := by omega
        obtain ⟨x0, hx0⟩ : ∃ x0, xs[k]? = some x0 := ⟨_, List.getElem?_eq_getElem hkx⟩
        obtain ⟨e', he', ae, p, rfl, hae⟩ := paired_at (edl_up (s5.trans s8) hes) hx0
        rw [hek] at he'
        cases he'
        have hxs8 := (s5.trans s8).lst hxs
        have ltk : ((bitsN i es.length).take j).length ≤ 8 := by
          rw [List.length_take]
          omega
        dsimp only [gName]
        refine ⟨_, rfl, _, rfl, _, rfl, el, xs, _, _, rfl, rfl, SqL.of hxs8, atI_nat hx0, ae, _, 0, _, rfl, rfl, SqT.of hae, atI_nat (j := 0) rfl, _, rfl, _, rfl, el, xs, _, _, rfl, rfl, SqL.of hxs8, atI_nat hx0, ae, _, 1, _, rfl, rfl, SqT.of hae, atI_nat (j := 1) rfl, sl2, fun l2 hl2 => ?_⟩
        have x9 := ext_upd (o := .lst [.int ((e.1 : Nat) : Int), .int ((e.2 : Nat) : Int)]) hl2
        have n2b : l2 ≠ bl := fun z => by rw [z, hb8] at hl2; cases hl2
        refine ⟨nl, l2, _, [.int ((e.1 : Nat) : Int), .int ((e.2 : Nat) : Int)], rfl, rfl, x9.lst hn8, upd_same, sl_of ?_, ⟨_, rfl⟩, (s8.trans x9).own hnl, ?_, ?_⟩
        · rw [List.length_map, fl2]
          show _ + 2 ≤ _
          omega
        · rw [upd_same, take_snoc hk]
          have : endsL es ((bitsN i es.length).take j ++ [k]) = endsL es ((bitsN i es.length).take j) ++ [e.1, e.2] := by
            unfold endsL
            rw [List.flatMap_append, List.flatMap_cons, List.flatMap_nil, List.append_nil, egd]
          rw [this, List.map_append]
          rfl
        · rw [upd_ne nnb.symm, upd_ne n2b.symm]
          exact hb8
      · obtain ⟨⟨y5, rfl⟩, s8, hn8, _⟩ := hP
        rw [List.length_map, List.take_length] at hn8
        have een : endsL es (bitsN i es.length) = endsN es i := rfl
        rw [een] at hn8
        have lel : (endsN es i).length ≤ 16 := by
          rw [← een, fl2]
          omega
        have l2e : (endsN es i).length = 2 * (bitsN i es.length).length := fl2 _
        generalize hl : endsN es i = l at *
        refine ⟨_, rfl, nl, rfl, ⟨_, SqL.of hn8⟩, fun D hD => lc_list (xs := l.map fun k => V.int ((k : Nat) : Int)) (fun j H9 => Ext H5 H9 ∧ H9 nl = some (.lst (l.map fun k => V.int ((k : Nat) : Int))) ∧ H9 D = some (.lst (((l.take j).filter fun x => decide (l.count x = 1)).map fun k => V.int ((k : Nat) : Int)))) ⟨s8.trans (ext_upd hD), (ext_upd hD).lst hn8, upd_same⟩ (fun j H9 _ h => SqL.of h.2.1) (fun j x H9 hj hP => ?_) (fun H9 hP => ?_)⟩
        · obtain ⟨s9, hn9, hD9⟩ := hP
          obtain ⟨k, hk, rfl⟩ : ∃ k, l[j]? = some k ∧ x = V.int ((k : Nat) : Int) := by
            rw [List.getElem?_map] at hj
            obtain ⟨o, h1, h2⟩ := Option.map_eq_some_iff.mp hj
            exact ⟨o, h1, h2.symm⟩
          have n9 : D ≠ nl := fun z => by rw [z, hn8] at hD; cases hD
          have lfl : ((l.take j).filter fun x => decide (l.count x = 1)).length ≤ 16 := by
            have h1 := List.length_filter_le (fun x => decide (l.count x = 1)) (l.take j)
            have h2 := List.length_take_le j l
            rw [List.length_take] at h1
            omega
          have emm : (l.map fun k => V.int ((k : Nat) : Int)) = (l.map fun x => ((x : Nat) : Int)).map V.int := by
            rw [List.map_map]
            rfl
          dsimp only [gName]
          refine ⟨rfl, _, rfl, .inl ⟨rfl, _, SqL.of hn9⟩, _, rfl, nl, l.map fun x => ((x : Nat) : Int), _, rfl, rfl, by rw [← emm]; exact SqL.of hn9, rfl, _, rfl, ?_⟩
          rw [count_cast, take_snoc hk, List.filter_append]
          have ecn : decide (V.int ((l.count k : Nat) : Int) = V.int 1) = decide (l.count k = 1) := decide_eq_decide.mpr ⟨fun h => by have := V.int.inj h; omega, fun h => by rw [h]; rfl⟩
          rw [ecn]
          refine iteB (fun z => ?_) (fun z => ?_)
          · refine ⟨_, rfl, _, hD9, sl_lt (by rw [List.length_map]; omega), s9.own (s8.free hD), by rw [upd_ne n9.symm]; exact hn9, ?_⟩
            rw [upd_same, List.filter_cons_of_pos (p := fun x => decide (l.count x = 1)) z, List.filter_nil, List.map_append]
            rfl
          · rw [List.filter_cons_of_neg (p := fun x => decide (l.count x = 1)) (by rw [z]; decide), List.filter_nil, List.append_nil]
            exact ⟨s9, hn9, hD9⟩
        · obtain ⟨s9, hn9, hD9⟩ := hP
          rw [List.length_map, List.take_length] at hD9
          dsimp only [gName]
          have hz9 := s9.lst hzs
          have ht9 := s9.termsT hts
          have ern : (List.range (i + 1)).filter (fun m => decide (endsN es m).Nodup) = (List.range i).filter (fun m => decide (endsN es m).Nodup) ++ (if l.Nodup then [i] else []) := by
            rw [List.range_succ, List.filter_append]
            congr 1
            by_cases hd : l.Nodup
            · rw [if_pos hd, List.filter_cons_of_pos (p := fun m => decide (endsN es m).Nodup) (decide_eq_true (hl ▸ hd)), List.filter_nil]
            · rw [if_neg hd, List.filter_cons_of_neg (p := fun m => decide (endsN es m).Nodup) (by rw [decide_eq_false (fun q => hd (hl ▸ q))]; decide), List.filter_nil]
          refine ⟨_, rfl, D, _, rfl, .inl (SqL.of hD9), _, rfl, nl, _, rfl, .inl (SqL.of hn9), rfl, _, rfl, ?_⟩
          refine iteB (fun z => ?_) (fun z => ?_)
          · have z := V.int.inj (of_decide_eq_true z)
            rw [List.length_map, List.length_map] at z
            have hd : l.Nodup := (alone_iff l).mp (by omega)
            refine ⟨_, rfl, .inl ⟨rfl, _, SqL.of hz9⟩, _, rfl, nl, _, rfl, .inl (SqL.of hn9), _, _, rfl, rfl, ⟨by decide, by decide⟩, sl2, fun t1 h1 => ⟨sl2, fun t2 h2 => ?_⟩⟩
            have efd : (((l.map fun k => V.int ((k : Nat) : Int)).length : Nat) : Int).fdiv 2 = ((l.length / 2 : Nat) : Int) := by
              rw [List.length_map, Int.fdiv_eq_ediv_of_nonneg _ (by decide)]
              omega
            have x10 := ext_upd (o := .tup [.int ((((l.map fun k => V.int ((k : Nat) : Int)).length : Nat) : Int).fdiv 2), .int 0]) h1
            have g10 : upd H9 t1 (.tup [.int ((((l.map fun k => V.int ((k : Nat) : Int)).length : Nat) : Int).fdiv 2), .int 0]) t1 = some (.tup [.int ((((l.map fun k => V.int ((k : Nat) : Int)).length : Nat) : Int).fdiv 2), .int 0]) := upd_same
            have x11 := ext_upd (o := .tup [.ref t1, .int 1]) h2
            have hz11 := x11.lst (x10.lst hz9)
            have s11 := s9.trans (x10.trans x11)
            refine ⟨tl, zs, .ref t2, rfl, rfl, hz11, sl_lt (by omega), ⟨_, _, _, _, rfl⟩, ?_, zs ++ [.ref t2], upd_same, ?_⟩
            · exact (s5.trans s11).own ntl
            · rw [ern, if_pos hd, List.map_append]
              refine termsT_upd hz11 (paired_snoc (x11.termsT (x10.termsT ht9)) (termT_one (b := t1) upd_same ?_))
              show upd _ t2 _ t1 = some (HO.tup [.int (((((endsN es i).length / 2 : Nat) : Int))), .int 0])
              rw [hl, ← efd]
              exact x11.keep _ _ g10 (fun _ z => by cases z)
          · have z : ¬ _ = _ := of_decide_eq_false z
            rw [List.length_map, List.length_map] at z
            have hd : ¬ l.Nodup := fun h => z (congrArg V.int (by rw [(alone_iff l).mpr h]))
            refine ⟨⟨_, _, _, _, rfl⟩, s5.trans s9, zs, hz9, ?_⟩
            rw [ern, if_neg hd, List.append_nil]
            exact ht9
    · obtain ⟨⟨y5, y7, y8, y9, rfl⟩, s5, zs, hzs, hts⟩ := hP
      have ets : ((List.range N).filter fun m => decide (endsN es m).Nodup).map (trmM es) = termsU 0 es := by
        unfold termsU
        rw [hN]
        congr 1
        exact List.filter_congr fun m _ => decide_eq_decide.mpr (ok_zero es m).symm
      rw [ets] at hts
      have lts : (termsU 0 es).length ≤ 256 := by
        rw [← ets, List.length_map]
        have := List.length_filter_le (fun m => decide (endsN es m).Nodup) (List.range N)
        rw [List.length_range] at this
        omega
      have hxs5 := s5.lst hxs
      have hes5 := edl_up s5 hes
      refine ⟨_, rfl, _, rfl, el, xs, rfl, .inl (SqL.of hxs5), fun l9 hl9 => ?_⟩
      have x6 := ext_upd (o := .lst xs) hl9
      have w6 : upd H5 l9 (.lst xs) l9 = some (.lst xs) := upd_same
      generalize upd H5 l9 (.lst xs) = H6 at *
      refine ⟨n, l9, xs, es, rfl, SqL.of w6, edl_n (edl_up x6 hes5), hin, by omega, by omega, G.ext ((s03.trans s5).trans x6), fun v H7 s7 hv => ?_⟩
      obtain ⟨pa, rfl, hpa⟩ := hv
      dsimp only [gName]
      have s37 := (s5.trans x6).trans s7
      have hxs7 := s37.lst hxs
      have hes7 := edl_up s37 hes
      have s07 := s03.trans s37
      have s57 := x6.trans s7
      refine ⟨_, rfl, el, rfl, ⟨_, SqL.of hxs7⟩, fun D hD => lc_list (xs := xs) (fun i H9 => Ext H7 H9 ∧ ∃ ys, H9 D = some (.lst ys) ∧ Paired (EdL H9) ys (es.take i)) ⟨ext_upd hD, [], upd_same, .nil⟩ (fun i H9 _ h => SqL.of (h.1.lst hxs7)) (fun i x H9 hi hP => ?_) (fun H9 hP => ?_)⟩
      · obtain ⟨s9, ys, hys, hp⟩ := hP
        obtain ⟨e, hei, ae, p, rfl, hae⟩ := paired_at (edl_up s9 hes7) hi
        have lys := hp.length
        have hil := (List.getElem?_eq_some_iff.mp hei).1
        rw [List.length_take] at lys
        refine ⟨ae, _, rfl, SqT.of hae, rfl, _, _, rfl, _, _, rfl, _, _, rfl, rfl, rfl, _, rfl, _, rfl, sl2, fun t1 h1 => ⟨sl_of (by simp), fun t2 h2 => ?_⟩⟩
        have x10 := ext_upd (o := .tup [.int 1, .int 1]) h1
        have x11 := ext_upd (o := .tup [.int ((e.1 : Nat) : Int), .int ((e.2 : Nat) : Int), .ref t1]) h2
        have hys11 := x11.lst (x10.lst hys)
        have g11 : upd (upd H9 t1 (.tup [.int 1, .int 1])) t2 (.tup [.int ((e.1 : Nat) : Int), .int ((e.2 : Nat) : Int), .ref t1]) t2 = some (.tup [.int ((e.1 : Nat) : Int), .int ((e.2 : Nat) : Int), .ref t1]) := upd_same
        have nt : t2 ≠ D := fun z => by
          rw [← z] at hys11
          cases g11.symm.trans hys11
        refine ⟨ys, hys11, sl_lt (by omega), (s9.trans (x10.trans x11)).own hD, ys ++ [.ref t2], upd_same, ?_⟩
        rw [take_snoc hei]
        refine paired_snoc (edl_upd hys11 (edl_up (x10.trans x11) hp)) ⟨t2, t1, rfl, ?_⟩
        rw [upd_ne nt]
        exact g11
      · obtain ⟨s9, ys, hys, hp⟩ := hP
        have lx2 := hes7.length
        rw [lx2, List.take_length] at hp
        dsimp only [gName]
        refine ⟨_, rfl, _, rfl, tl, zs, _, rfl, .inl (SqL.of ((s57.trans s9).lst hzs)), (s57.trans s9).termsT hts, by omega, fun p H10 s10 hp10 n10 => ?_⟩
        have ep := pl_canon es
        have hpa' : PolyAt K H7 pa (canon (termsU 0 es)) := by
          rw [ep]
          exact hpa
        have lc : (canon (termsU 0 es)).length < 1000000 := by
          have := PM.length_canon_le (termsU 0 es)
          omega
        have s710 := s9.trans s10
        refine ⟨_, _, poly_dp' (s710.poly hpa'), poly_dp' hp10.at, (gd_poly _).sh, (gd_poly _).sh, ?_⟩
        rw [eqv_self (gd_poly _)]
        refine ⟨true, rfl, iteT ⟨_, rfl, .ref pa, polyD (canon (termsU 0 es)), rfl, poly_dp' (s710.poly hpa'), tupD_poly lc, fun H11 s11 => ⟨true, rfl, iteT ?_⟩⟩⟩
        have s11 := s11.ext
        have s9b := s10.trans s11
        refine ⟨_, rfl, _, rfl, n, D, ys, es, rfl, SqL.of (s9b.lst hys), edl_n (edl_up s9b hp), hin, by omega, by omega, G.ext (s07.trans (s9.trans s9b)), fun v H12 s12 hv => ?_⟩
        obtain ⟨pb, rfl, hpb⟩ := hv
        have hpb' : PolyAt K H12 pb (canon (termsU 0 es)) := by
          rw [ep]
          exact hpb
        refine ⟨_, rfl, _, _, hpb'.dp, poly_dp' (((s710.trans s11).trans s12).poly hpa'), (gd_poly _).sh, (gd_poly _).sh, ?_⟩
        rw [eqv_self (gd_poly _)]
        exact q _
theorem tabG0 {H : Hp} {p : Addr} (h : H p = some (.tbl #[])) : GxR.TabG H p := ⟨#[], h, by simp [TriplesOk]⟩
end
theorem all_mk {l : PySem.W.OpenLaw} {q : Program} {w : World} {K : PySem.W.Frag} {h : Heap} {mg : Str → Option Value} {fa : Addr} (X : K.In h) (G : h.Ns mainGlobals mg) (hfa : mg "law" = some (.ref fa)) (AT : LamX.AllTab q K h)
    {f0 f1 c1 P1 f2 f3 f4 f5 f6 f7 f8 f9 f10 f11 f12 f13 f14 X_FieldError X_InvalidWeight X_TooLarge : Addr}
    {oc0 kV0 dc0 pm0 ct0 cd0 oc1 kV1 dc1 pm1 ct1 ge1 oc2 kV2 dc2 pm2 ct2 cd2 oc3 kV3 dc3 pm3 ct3 cd3 oc4 kV4 dc4 pm4 ct4 cd4 oc5 kV5 dc5 pm5 ct5 cd5 oc6 kV6 dc6 pm6 ct6 cd6 oc7 kV7 dc7 pm7 ct7 cd7 oc8 kV8 dc8 pm8 ct8 cd8 oc9 kV9 dc9 pm9 ct9 cd9 oc10 kV10 dc10 pm10 ct10 cd10 oc11 kV11 dc11 pm11 ct11 cd11 oc12 kV12 dc12 pm12 ct12 cd12 oc13 kV13 dc13 pm13 ct13 cd13 oc14 kV14 dc14 pm14 ct14 cd14 : Value}
    {od0 an0 od1 an1 gd1 od2 an2 od3 an3 od4 an4 od5 an5 od6 an6 od7 an7 od8 an8 od9 an9 od10 an10 od11 an11 od12 an12 od13 an13 od14 an14 : Option Addr}
    {sl0 sl1 gs1 sl2 sl3 sl4 sl5 sl6 sl7 sl8 sl9 sl10 sl11 sl12 sl13 sl14 : Array (Option Value)}
    {gv1 : Array Value}
    {tk_MOST_VERTICES : Tok}
    (a0 : PySem.W.nsIn K mainGlobals "polynomial" = some (some (.ref f0)))
    (l0 : K.lookup f0 = some ⟨oc0, od0, .func (PySem.W.fnOf "polynomial" "polynomial" (defArgs s_polynomial) (defBody s_polynomial) (defScope s_polynomial) .none kV0 dc0 pm0 an0 cd0 ct0), sl0⟩)
    (x0 : PySem.W.codeIn K cd0 "polynomial" = true)
    (k0 : PySem.W.keepIn K (.ref f0) = true)
    (a1 : PySem.W.nsIn K mainGlobals "_in_order" = some (some (.ref f1)))
    (l1 : K.lookup f1 = some ⟨oc1, od1, .func (PySem.W.fnOf "_in_order" "_in_order" (defArgs s_in_order) (defBody s_in_order) (defScope s_in_order) .none kV1 dc1 pm1 an1 (.ref c1) ct1), sl1⟩)
    (x1 : PySem.W.codeIn K (.ref c1) "_in_order" = true)
    (k1 : PySem.W.keepIn K (.ref f1) = true)
    (h1 : K.lookup c1 = some ⟨ge1, gd1, .fields gv1, gs1⟩)
    (v1 : gv1[11]? = some (.ref P1))
    (n1 : K.lookup P1 = none)
    (e1 : PySem.W.codeHdIn K c1 P1 = true)
    (r1 : ((recsOf q).any fun r => r.name == ("_in_order" : Str)) = true)
    (a2 : PySem.W.nsIn K mainGlobals "plus" = some (some (.ref f2)))
    (l2 : K.lookup f2 = some ⟨oc2, od2, .func (PySem.W.fnOf "plus" "plus" (defArgs s_plus) (defBody s_plus) (defScope s_plus) .none kV2 dc2 pm2 an2 cd2 ct2), sl2⟩)
    (x2 : PySem.W.codeIn K cd2 "plus" = true)
    (k2 : PySem.W.keepIn K (.ref f2) = true)
    (a3 : PySem.W.nsIn K mainGlobals "times" = some (some (.ref f3)))
    (l3 : K.lookup f3 = some ⟨oc3, od3, .func (PySem.W.fnOf "times" "times" (defArgs s_times) (defBody s_times) (defScope s_times) .none kV3 dc3 pm3 an3 cd3 ct3), sl3⟩)
    (x3 : PySem.W.codeIn K cd3 "times" = true)
    (k3 : PySem.W.keepIn K (.ref f3) = true)
    (a4 : PySem.W.nsIn K mainGlobals "matching_polynomial" = some (some (.ref f4)))
    (l4 : K.lookup f4 = some ⟨oc4, od4, .func (PySem.W.fnOf "matching_polynomial" "matching_polynomial" (defArgs s_matching_polynomial) (defBody s_matching_polynomial) (defScope s_matching_polynomial) .none kV4 dc4 pm4 an4 cd4 ct4), sl4⟩)
    (x4 : PySem.W.codeIn K cd4 "matching_polynomial" = true)
    (k4 : PySem.W.keepIn K (.ref f4) = true)
    (a5 : PySem.W.nsIn K mainGlobals "_check_graph" = some (some (.ref f5)))
    (l5 : K.lookup f5 = some ⟨oc5, od5, .func (PySem.W.fnOf "_check_graph" "_check_graph" (defArgs s_check_graph) (defBody s_check_graph) (defScope s_check_graph) .none kV5 dc5 pm5 an5 cd5 ct5), sl5⟩)
    (x5 : PySem.W.codeIn K cd5 "_check_graph" = true)
    (k5 : PySem.W.keepIn K (.ref f5) = true)
    (a6 : PySem.W.nsIn K mainGlobals "_links" = some (some (.ref f6)))
    (l6 : K.lookup f6 = some ⟨oc6, od6, .func (PySem.W.fnOf "_links" "_links" (defArgs s_links) (defBody s_links) (defScope s_links) .none kV6 dc6 pm6 an6 cd6 ct6), sl6⟩)
    (x6 : PySem.W.codeIn K cd6 "_links" = true)
    (k6 : PySem.W.keepIn K (.ref f6) = true)
    (a7 : PySem.W.nsIn K mainGlobals "_sum_over_matchings" = some (some (.ref f7)))
    (l7 : K.lookup f7 = some ⟨oc7, od7, .func (PySem.W.fnOf "_sum_over_matchings" "_sum_over_matchings" (defArgs s_sum_over_matchings) (defBody s_sum_over_matchings) (defScope s_sum_over_matchings) .none kV7 dc7 pm7 an7 cd7 ct7), sl7⟩)
    (x7 : PySem.W.codeIn K cd7 "_sum_over_matchings" = true)
    (k7 : PySem.W.keepIn K (.ref f7) = true)
    (a8 : PySem.W.nsIn K mainGlobals "_law_cell" = some (some (.ref f8)))
    (l8 : K.lookup f8 = some ⟨oc8, od8, .func (PySem.W.fnOf "_law_cell" "_law_cell" (defArgs s_law_cell) (defBody s_law_cell) (defScope s_law_cell) .none kV8 dc8 pm8 an8 cd8 ct8), sl8⟩)
    (x8 : PySem.W.codeIn K cd8 "_law_cell" = true)
    (k8 : PySem.W.keepIn K (.ref f8) = true)
    (a9 : PySem.W.nsIn K mainGlobals "_law_mix" = some (some (.ref f9)))
    (l9 : K.lookup f9 = some ⟨oc9, od9, .func (PySem.W.fnOf "_law_mix" "_law_mix" (defArgs s_law_mix) (defBody s_law_mix) (defScope s_law_mix) .none kV9 dc9 pm9 an9 cd9 ct9), sl9⟩)
    (x9 : PySem.W.codeIn K cd9 "_law_mix" = true)
    (k9 : PySem.W.keepIn K (.ref f9) = true)
    (a10 : PySem.W.nsIn K mainGlobals "_law_row" = some (some (.ref f10)))
    (l10 : K.lookup f10 = some ⟨oc10, od10, .func (PySem.W.fnOf "_law_row" "_law_row" (defArgs s_law_row) (defBody s_law_row) (defScope s_law_row) .none kV10 dc10 pm10 an10 cd10 ct10), sl10⟩)
    (x10 : PySem.W.codeIn K cd10 "_law_row" = true)
    (k10 : PySem.W.keepIn K (.ref f10) = true)
    (a11 : PySem.W.nsIn K mainGlobals "_law_tuples" = some (some (.ref f11)))
    (l11 : K.lookup f11 = some ⟨oc11, od11, .func (PySem.W.fnOf "_law_tuples" "_law_tuples" (defArgs s_law_tuples) (defBody s_law_tuples) (defScope s_law_tuples) .none kV11 dc11 pm11 an11 cd11 ct11), sl11⟩)
    (x11 : PySem.W.codeIn K cd11 "_law_tuples" = true)
    (k11 : PySem.W.keepIn K (.ref f11) = true)
    (a12 : PySem.W.nsIn K mainGlobals "_law_poly" = some (some (.ref f12)))
    (l12 : K.lookup f12 = some ⟨oc12, od12, .func (PySem.W.fnOf "_law_poly" "_law_poly" (defArgs s_law_poly) (defBody s_law_poly) (defScope s_law_poly) .none kV12 dc12 pm12 an12 cd12 ct12), sl12⟩)
    (x12 : PySem.W.codeIn K cd12 "_law_poly" = true)
    (k12 : PySem.W.keepIn K (.ref f12) = true)
    (a13 : PySem.W.nsIn K mainGlobals "_law_bits" = some (some (.ref f13)))
    (l13 : K.lookup f13 = some ⟨oc13, od13, .func (PySem.W.fnOf "_law_bits" "_law_bits" (defArgs s_law_bits) (defBody s_law_bits) (defScope s_law_bits) .none kV13 dc13 pm13 an13 cd13 ct13), sl13⟩)
    (x13 : PySem.W.codeIn K cd13 "_law_bits" = true)
    (k13 : PySem.W.keepIn K (.ref f13) = true)
    (a14 : PySem.W.nsIn K mainGlobals "law" = some (some (.ref f14)))
    (l14 : K.lookup f14 = some ⟨oc14, od14, .func (PySem.W.fnOf "law" "law" (defArgs s_law) (defBody s_law) (defScope s_law) .none kV14 dc14 pm14 an14 cd14 ct14), sl14⟩)
    (x14 : PySem.W.codeIn K cd14 "law" = true)
    (k14 : PySem.W.keepIn K (.ref f14) = true)
    {fO t1 t2 : Addr} {q1 q2 q3 : Option Addr} {m1 m2 m3 : Nat} {u1 u2 u3 : Tok} {w1 w2 w3 : Array (Option Value)} (o0 : PySem.W.nsIn K mainGlobals "ONE" = some (some (.ref fO))) (o1 : K.lookup fO = some ⟨.type "tuple", q1, .seq #[.ref t1] m1, w1⟩) (o2 : K.lookup t1 = some ⟨.type "tuple", q2, .seq #[.ref t2, .int 1 u1] m2, w2⟩) (o3 : K.lookup t2 = some ⟨.type "tuple", q3, .seq #[.int 0 u2, .int 0 u3] m3, w3⟩)
    (n_MOST_VERTICES : PySem.W.nsIn K mainGlobals "MOST_VERTICES" = some (some (.int 16 tk_MOST_VERTICES)))
    (ax_FieldError : PySem.W.nsIn K mainGlobals "FieldError" = some (some (.ref X_FieldError)))
    (q_FieldError : PySem.W.excIn K X_FieldError veB "ValueError.__new__" = true)
    (kx_FieldError : PySem.W.keepIn K (.ref X_FieldError) = true)
    (bx_FieldError : PySem.W.subIn K (.ref X_FieldError) (.type "BaseException") = some true)
    (yx_FieldError : PySem.W.typeIn K (.ref X_FieldError) = some (.type "type"))
    (ax_InvalidWeight : PySem.W.nsIn K mainGlobals "InvalidWeight" = some (some (.ref X_InvalidWeight)))
    (q_InvalidWeight : PySem.W.excIn K X_InvalidWeight veB "ValueError.__new__" = true)
    (kx_InvalidWeight : PySem.W.keepIn K (.ref X_InvalidWeight) = true)
    (bx_InvalidWeight : PySem.W.subIn K (.ref X_InvalidWeight) (.type "BaseException") = some true)
    (yx_InvalidWeight : PySem.W.typeIn K (.ref X_InvalidWeight) = some (.type "type"))
    (ax_TooLarge : PySem.W.nsIn K mainGlobals "TooLarge" = some (some (.ref X_TooLarge)))
    (q_TooLarge : PySem.W.excIn K X_TooLarge veB "ValueError.__new__" = true)
    (kx_TooLarge : PySem.W.keepIn K (.ref X_TooLarge) = true)
    (bx_TooLarge : PySem.W.subIn K (.ref X_TooLarge) (.type "BaseException") = some true)
    (yx_TooLarge : PySem.W.typeIn K (.ref X_TooLarge) = some (.type "type"))
    (z_abs : PySem.W.nsIn K mainGlobals "abs" = some none)
    (z_all : PySem.W.nsIn K mainGlobals "all" = some none)
    (z_bool : PySem.W.nsIn K mainGlobals "bool" = some none)
    (z_enumerate : PySem.W.nsIn K mainGlobals "enumerate" = some none)
    (z_int : PySem.W.nsIn K mainGlobals "int" = some none)
    (z_isinstance : PySem.W.nsIn K mainGlobals "isinstance" = some none)
    (z_len : PySem.W.nsIn K mainGlobals "len" = some none)
    (z_list : PySem.W.nsIn K mainGlobals "list" = some none)
    (z_max : PySem.W.nsIn K mainGlobals "max" = some none)
    (z_min : PySem.W.nsIn K mainGlobals "min" = some none)
    (z_range : PySem.W.nsIn K mainGlobals "range" = some none)
    (z_sorted : PySem.W.nsIn K mainGlobals "sorted" = some none)
    (z_tuple : PySem.W.nsIn K mainGlobals "tuple" = some none) :
    LamX.LawAtS l w K CX0 8 63 "script" mg fa h := by
  have e := hfa.symm.trans (PySem.W.mg_of X G a14)
  cases e
  have F0 := fun_mk (st := s_polynomial) l0 x0 k0
  have b0 := F0.binds (ps := ["terms"]) fun _ _ _ _ _ _ us hl => match us, hl with | [_], _ => rfl
  have F1 := funC_mk (st := s_in_order) l1 x1 k1
  have b1 := F1.binds (ps := ["found"]) fun _ _ _ _ _ _ us hl => match us, hl with | [_], _ => rfl
  have F2 := fun_mk (st := s_plus) l2 x2 k2
  have b2 := F2.binds (ps := ["p", "q"]) fun _ _ _ _ _ _ us hl => match us, hl with | [_, _], _ => rfl
  have F3 := fun_mk (st := s_times) l3 x3 k3
  have b3 := F3.binds (ps := ["p", "q"]) fun _ _ _ _ _ _ us hl => match us, hl with | [_, _], _ => rfl
  have F4 := fun_mk (st := s_matching_polynomial) l4 x4 k4
  have b4 := F4.binds (ps := ["count", "edges"]) fun _ _ _ _ _ _ us hl => match us, hl with | [_, _], _ => rfl
  have F5 := fun_mk (st := s_check_graph) l5 x5 k5
  have b5 := F5.binds (ps := ["count", "edges"]) fun _ _ _ _ _ _ us hl => match us, hl with | [_, _], _ => rfl
  have F6 := fun_mk (st := s_links) l6 x6 k6
  have b6 := F6.binds (ps := ["count", "edges", "zero", "summed"]) fun _ _ _ _ _ _ us hl => match us, hl with | [_, _, _, _], _ => rfl
  have F7 := fun_mk (st := s_sum_over_matchings) l7 x7 k7
  have b7 := F7.binds (ps := ["links", "alone", "zero", "one", "summed", "multiplied"]) fun _ _ _ _ _ _ us hl => match us, hl with | [_, _, _, _, _, _], _ => rfl
  have F8 := fun_mk (st := s_law_cell) l8 x8 k8
  have b8 := F8.binds (ps := ["script", "k"]) fun _ _ _ _ _ _ us hl => match us, hl with | [_, _], _ => rfl
  have F9 := fun_mk (st := s_law_mix) l9 x9 k9
  have b9 := F9.binds (ps := ["cell", "k"]) fun _ _ _ _ _ _ us hl => match us, hl with | [_, _], _ => rfl
  have F10 := fun_mk (st := s_law_row) l10 x10 k10
  have b10 := F10.binds (ps := ["cell", "count", "bound"]) fun _ _ _ _ _ _ us hl => match us, hl with | [_, _, _], _ => rfl
  have F11 := fun_mk (st := s_law_tuples) l11 x11 k11
  have b11 := F11.binds (ps := ["thing"]) fun _ _ _ _ _ _ us hl => match us, hl with | [_], _ => rfl
  have F12 := fun_mk (st := s_law_poly) l12 x12 k12
  have b12 := F12.binds (ps := ["terms"]) fun _ _ _ _ _ _ us hl => match us, hl with | [_], _ => rfl
  have F13 := fun_mk (st := s_law_bits) l13 x13 k13
  have b13 := F13.binds (ps := ["mask", "count"]) fun _ _ _ _ _ _ us hl => match us, hl with | [_, _], _ => rfl
  have F14 := fun_mk (st := s_law) l14 x14 k14
  let T : Top K mg := ⟨f0, _, F0, b0, PySem.W.mg_of X G a0, f1, _, c1, P1, F1, b1, PySem.W.mg_of X G a1, f2, _, F2, b2, PySem.W.mg_of X G a2, f3, _, F3, b3, PySem.W.mg_of X G a3, f4, _, F4, b4, PySem.W.mg_of X G a4, f5, _, F5, b5, PySem.W.mg_of X G a5, f6, _, F6, b6, PySem.W.mg_of X G a6, f7, _, F7, b7, PySem.W.mg_of X G a7, f8, _, F8, b8, PySem.W.mg_of X G a8, f9, _, F9, b9, PySem.W.mg_of X G a9, f10, _, F10, b10, PySem.W.mg_of X G a10, f11, _, F11, b11, PySem.W.mg_of X G a11, f12, _, F12, b12, PySem.W.mg_of X G a12, f13, _, F13, b13, PySem.W.mg_of X G a13, fO, PySem.W.mg_of X G o0, k_one o1 o2 o3, tk_MOST_VERTICES, PySem.W.mg_of X G n_MOST_VERTICES, X_FieldError, PySem.W.mg_of X G ax_FieldError, q_FieldError, kx_FieldError, bx_FieldError, yx_FieldError, X_InvalidWeight, PySem.W.mg_of X G ax_InvalidWeight, q_InvalidWeight, kx_InvalidWeight, bx_InvalidWeight, yx_InvalidWeight, X_TooLarge, PySem.W.mg_of X G ax_TooLarge, q_TooLarge, kx_TooLarge, bx_TooLarge, yx_TooLarge, PySem.W.mg_none_of X G z_abs, PySem.W.mg_none_of X G z_all, PySem.W.mg_none_of X G z_bool, PySem.W.mg_none_of X G z_enumerate, PySem.W.mg_none_of X G z_int, PySem.W.mg_none_of X G z_isinstance, PySem.W.mg_none_of X G z_len, PySem.W.mg_none_of X G z_list, PySem.W.mg_none_of X G z_max, PySem.W.mg_none_of X G z_min, PySem.W.mg_none_of X G z_range, PySem.W.mg_none_of X G z_sorted, PySem.W.mg_none_of X G z_tuple⟩
  refine ⟨_, [(c1, P1)], spLaw T, ?_, ?_, ?_, fun s u => .of_eq rfl, fun H a ns hl hb ht hS => law_in T H a ns hl hb ⟨tabG0 (ht (c1, P1) (by simp))⟩ hS, fun base _ _ tb => ok_law F14 T ⟨tb (c1, P1) (by simp)⟩⟩
  · intro p hp
    obtain rfl := List.mem_singleton.mp hp
    exact AT "_in_order" f1 c1 P1 _ _ _ _ _ _ r1 a1 l1 rfl rfl h1 v1
  · intro p hp
    obtain rfl := List.mem_singleton.mp hp
    exact n1
  · intro p hp
    obtain rfl := List.mem_singleton.mp hp
    exact PySem.W.codeHd_of_K X e1
end KP
open PySem PySem.W PyProof.Rows
set_option maxHeartbeats 0 in
theorem PySem.Challenge.cw_spinfield_k22_matching_polynomials_holds : PySem.Challenge.rw_spinfield_k22_matching_polynomials.Holds := by
  w_on; o_law; k_head; (case hw => w_witness2)
  k_fill
  refine LamX.walk_ofAll (l := PySem.Challenge.rw_spinfield_k22_matching_polynomials) (n := 63) (k := 8) (x := "script") (CX := fun _ => L2.CX0) rfl (by decide) rfl ⟨rfl, by decide, by decide⟩ (fun w h Y => PySem.W.kIn_of Y) ?F (fun _ _ _ _ _ h => h)
  case F =>
    intro w mg fa h Y KX G hmg AT
    refine' KP.all_mk KX G hmg AT ?a0 ?l0 ?x0 ?k0 ?a1 ?l1 ?x1 ?k1 ?h1 ?v1 ?n1 ?e1 ?r1 ?a2 ?l2 ?x2 ?k2 ?a3 ?l3 ?x3 ?k3 ?a4 ?l4 ?x4 ?k4 ?a5 ?l5 ?x5 ?k5 ?a6 ?l6 ?x6 ?k6 ?a7 ?l7 ?x7 ?k7 ?a8 ?l8 ?x8 ?k8 ?a9 ?l9 ?x9 ?k9 ?a10 ?l10 ?x10 ?k10 ?a11 ?l11 ?x11 ?k11 ?a12 ?l12 ?x12 ?k12 ?a13 ?l13 ?x13 ?k13 ?a14 ?l14 ?x14 ?k14 ?o0 ?o1 ?o2 ?o3 ?n_MOST_VERTICES ?ax_FieldError ?q_FieldError ?kx_FieldError ?bx_FieldError ?yx_FieldError ?ax_InvalidWeight ?q_InvalidWeight ?kx_InvalidWeight ?bx_InvalidWeight ?yx_InvalidWeight ?ax_TooLarge ?q_TooLarge ?kx_TooLarge ?bx_TooLarge ?yx_TooLarge ?z_abs ?z_all ?z_bool ?z_enumerate ?z_int ?z_isinstance ?z_len ?z_list ?z_max ?z_min ?z_range ?z_sorted ?z_tuple
    (case a0 => k_is); (case l0 => k_is); (case x0 => k_is); (case k0 => k_is); (case a1 => k_is); (case l1 => k_is); (case x1 => k_is); (case k1 => k_is); (case h1 => k_is); (case v1 => exact rfl); (case n1 => kernel_rfl); (case e1 => kernel_rfl); (case r1 => kernel_rfl); (case a2 => k_is); (case l2 => k_is); (case x2 => k_is); (case k2 => k_is); (case a3 => k_is); (case l3 => k_is); (case x3 => k_is); (case k3 => k_is); (case a4 => k_is); (case l4 => k_is); (case x4 => k_is); (case k4 => k_is); (case a5 => k_is); (case l5 => k_is); (case x5 => k_is); (case k5 => k_is); (case a6 => k_is); (case l6 => k_is); (case x6 => k_is); (case k6 => k_is); (case a7 => k_is); (case l7 => k_is); (case x7 => k_is); (case k7 => k_is); (case a8 => k_is); (case l8 => k_is); (case x8 => k_is); (case k8 => k_is); (case a9 => k_is); (case l9 => k_is); (case x9 => k_is); (case k9 => k_is); (case a10 => k_is); (case l10 => k_is); (case x10 => k_is); (case k10 => k_is); (case a11 => k_is); (case l11 => k_is); (case x11 => k_is); (case k11 => k_is); (case a12 => k_is); (case l12 => k_is); (case x12 => k_is); (case k12 => k_is); (case a13 => k_is); (case l13 => k_is); (case x13 => k_is); (case k13 => k_is); (case a14 => k_is); (case l14 => k_is); (case x14 => k_is); (case k14 => k_is); (case o0 => k_is); (case o1 => k_is); (case o2 => k_is); (case o3 => k_is); (case n_MOST_VERTICES => k_is); (case ax_FieldError => k_is); (case q_FieldError => kernel_rfl); (case kx_FieldError => k_is); (case bx_FieldError => k_is); (case yx_FieldError => k_is); (case ax_InvalidWeight => k_is); (case q_InvalidWeight => kernel_rfl); (case kx_InvalidWeight => k_is); (case bx_InvalidWeight => k_is); (case yx_InvalidWeight => k_is); (case ax_TooLarge => k_is); (case q_TooLarge => kernel_rfl); (case kx_TooLarge => k_is); (case bx_TooLarge => k_is); (case yx_TooLarge => k_is); (case z_abs => k_is); (case z_all => k_is); (case z_bool => k_is); (case z_enumerate => k_is); (case z_int => k_is); (case z_isinstance => k_is); (case z_len => k_is); (case z_list => k_is); (case z_max => k_is); (case z_min => k_is); (case z_range => k_is); (case z_sorted => k_is); (case z_tuple => k_is)
